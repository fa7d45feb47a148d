/-
  What is proved here: which infos are valid, by the reference.
-/
import Derived.Test.YtnlhbknajdpnbaaGreatDoorF17
import Derived.Deep.CutRange
import Derived.Test.YtnlhbknajdpnbaaGreatDoorF33
import Derived.Test.YtnlhbknajdpnbaaGreatDoorF19
import Derived.Test.YtnlhbknajdpnbaaGreatDoorF32
import Derived.Test.YtnlhbknajdpnbaaGreatDoorRows
import Derived.Test.YtnlhbknajdpnbaaGreatDoorF0
import Derived.Test.YtnlhbknajdpnbaaGreatDoorF6
set_option linter.unusedVariables false
set_option linter.unusedSimpArgs false
namespace Go.Proofs.YtnlhbknajdpnbaaGreatDoor
open Go.RowKit
set_option maxRecDepth 8000
theorem rone_ways (x : Im) (pm im : Int) (h2 : 2 ≤ x.p) (h6 : x.p ≤ 6) (hpm : pm = if pwB x.p = true then 31 else 0) (him : im = if x.p = 4 then 255 else 0) :
 (decide (x.v < 1)=true∧oneI x=3)∨(decide (x.v < 1)=false∧decide (255 < x.v)=true∧oneI x=3)∨(decide (x.v < 1)=false∧decide (255 < x.v)=false∧decide (x.a < 0)=true∧oneI x=3) ∨
 (decide (x.v < 1)=false∧decide (255 < x.v)=false∧decide (x.a < 0)=false∧decide (pm < x.a)=true∧oneI x=3)∨(decide (x.v < 1)=false∧decide (255 < x.v)=false∧decide (x.a < 0)=false∧decide (pm < x.a)=false∧decide (x.i < 0)=true∧oneI x=3) ∨
 (decide (x.v < 1)=false∧decide (255 < x.v)=false∧decide (x.a < 0)=false∧decide (pm < x.a)=false∧decide (x.i < 0)=false∧decide (im < x.i)=true∧oneI x=3) ∨
 (decide (x.v < 1)=false∧decide (255 < x.v)=false∧decide (x.a < 0)=false∧decide (pm < x.a)=false∧decide (x.i < 0)=false∧decide (im < x.i)=false∧((keyB x=false∧oneI x=10)∨(keyB x=true∧oneI x=0))):=by
 have h12:¬(x.p < 2∨6 < x.p):=by omega
 have hpar : parB x = (decide (0 ≤ x.a) && decide (x.a ≤ pm)) := by
  unfold parB
  rw [hpm]
  split
  · rfl
  · by_cases h : x.a = 0
    · simp [h]
    · by_cases h0 : 0 ≤ x.a
      · have : ¬ x.a ≤ 0 := by omega
        simp [h,h0,this]
      · simp [h,h0]
 have hkid : kidB x = (decide (0 ≤ x.i) && decide (x.i ≤ im)) := by
  unfold kidB
  rw [him]
  split
  · rfl
  · by_cases h : x.i = 0
    · simp [h]
    · by_cases h0 : 0 ≤ x.i
      · have : ¬ x.i ≤ 0 := by omega
        simp [h,h0,this]
      · simp [h,h0]
 unfold oneI rngI
 rw [if_neg h12,hpar,hkid]
 by_cases a1:x.v < 1
 · have : ¬ 1 ≤ x.v := by omega
   left;simp [a1,this]
 have a1':1≤x.v:=by omega
 by_cases a2:255 < x.v
 · have : ¬ x.v ≤ 255 := by omega
   right;left;simp [a1,a2,this]
 have a2':x.v≤255:=by omega
 by_cases a3:x.a < 0
 · have : ¬ 0 ≤ x.a := by omega
   right;right;left;simp [a1,a2,a3,this]
 have a3':0≤x.a:=by omega
 by_cases a4:pm < x.a
 · have : ¬ x.a ≤ pm := by omega
   right;right;right;left;simp [a1,a2,a3,a4,this]
 have a4':x.a≤pm:=by omega
 by_cases a5:x.i < 0
 · have : ¬ 0 ≤ x.i := by omega
   right;right;right;right;left;simp [a1,a2,a3,a4,a5,this]
 have a5':0≤x.i:=by omega
 by_cases a6:im < x.i
 · have : ¬ x.i ≤ im := by omega
   right;right;right;right;right;left;simp [a1,a2,a3,a4,a5,a6,this]
 have a6':x.i≤im:=by omega
 right;right;right;right;right;right
 rcases keyB x with _ | _ <;> simp [a1,a2,a3,a4,a5,a6,a1',a2',a3',a4',a5',a6']
theorem rord_ways (x y : Im) : (decide (x.p < y.p) = true ∧ behB x y = false) ∨ (decide (x.p < y.p) = false ∧ (x.p == y.p) = false ∧ behB x y = true) ∨ (decide (x.p < y.p) = false ∧ (x.p == y.p) = true ∧ decide (x.i ≤ y.i) = true ∧ behB x y = false) ∨ (decide (x.p < y.p) = false ∧ (x.p == y.p) = true ∧ decide (x.i ≤ y.i) = false ∧ behB x y = true) := by
 unfold behB
 by_cases h:x.p < y.p
 · have a : ¬ y.p < x.p := by omega
   have b:¬x.p=y.p:=by omega
   left;simp [h,a,b]
 · by_cases h2 : x.p = y.p
   · by_cases h3 : x.i ≤ y.i
     · have : ¬ y.i < x.i := by omega
       right;right;left;simp [h2,h3,this]
     · have : y.i < x.i := by omega
       right;right;right;simp [h2,h3,this]
   · have : y.p < x.p := by omega
     right;left;simp [h,h2,this]
def WayI (us : List Value) (b off j : Nat) (w : World) (x : Im) : Prop :=
 (∀cur,Below w.heap.size w cur→cur.rangeAt b (off+j*5) us)∧(∀w,Calls Tryz.prog 77 #[.int .i64 x.k] w fun e w'=>e=.returned (.bool (elB x.k))∧w=w')∧us.length=5∧(∀u∈us,u.oneCell'=true) ∧
 us[0]? = some (.int .i64 x.p)∧us[1]? = some (.int .i64 x.v)∧us[2]? = some (.int .i64 x.a)∧us[3]? = some (.int .i64 x.k)∧us[4]? = some (.int .i64 x.i)
theorem WayI.mk' {b off j : Nat} {w : World} (x : Im) (h : ∀ cur, Below w.heap.size w cur → cur.rangeAt b (off + j * 5) x.cs) : ∃ us, x.cs = us ∧ Hid (WayI us b off j w x) :=
 ⟨_,rfl,Lib.hid ⟨h,fun w=>zdP x.k w,rfl,x.cs_one,rfl,rfl,rfl,rfl,rfl⟩⟩
set_option maxHeartbeats 6400000 in
theorem r_ivalid (l : List Im) (n : Nat) (hn : l.length = n) (hm : n ≤ 140737488351232) (A : Option Addr) (c : Nat) (w : World) (hs : SeesP w (· < w.heap.size) A (Ics l)) :
 Calls Tryz.prog 49 #[.slice A n c] w fun e w'=>e=.returned (.int .i64 (vaE l))∧Below w.heap.size w w':=by
 by_cases h16:16 < n
 · have d16 : decide ((16 : Int) < (n : Int)) = true := by simp; omega
   have hv:vaE l=2:=by unfold vaE;rw [if_pos (by omega)]
   rw [hv]
   clear hs hn hv h16
   go_enter Tryz.func49,Tryz.ntmps49
   go_wp2
   go_ret
   exact ⟨rfl,Below.refl _ _⟩
 have d16:decide ((16:Int) < (n:Int))=false:=by simp;omega
 have hv:vaE l=chkI none l:=by unfold vaE;rw [if_neg (by omega)]
 rw [hv]
 have HS:=Lib.hid hs
 have HN:=Lib.hid hn
 have hn16:n≤16:=by omega
 clear hs hn hv h16
 go_enter Tryz.func49,Tryz.ntmps49
 go_wp2
 go_loopw [3] (fun i wr=>∃(j:Nat),j≤n∧i=.int .i64 (j:Int)∧Hid (Below w.heap.size w wr∧chkI (preI l j) (l.drop j)=chkI none l)) (fun i _=>n - (intOf i).toNat)
 case atStart=>exact ⟨0,by omega,rfl,Lib.hid ⟨Below.refl _ _,rfl⟩⟩
 case round =>
  obtain ⟨j,hj,rfl,HR⟩:=hrel
  by_cases hlt:j < n
  · have dj : decide ((j : Int) < (n : Int)) = true := by simp; omega
    obtain ⟨x,hx⟩ : ∃x,l[j]? = some x:=⟨_,List.getElem?_eq_getElem (by rw [HN.out];exact hlt)⟩
    obtain ⟨b,off,rfl,hb,hr⟩:=im_at HS.out hx
    obtain ⟨us,hus,HU⟩:=WayI.mk' (w:=w) x (fun cur (h:Below w.heap.size w cur)=>zbY hr hb h)
    have hstep:=chkI_drop hx
    have HB:=Lib.hid HR.out.1
    unfold WayI at HU
    clear hr hus
    by_cases q1:x.p < 2
    · have d1 : decide (x.p < 2) = true := by simpa using q1
      have hone:oneI x=14:=by unfold oneI;rw [if_pos (.inl q1)]
      have HC:=Lib.hid (show chkI none l=14 from by rw [←HR.out.2,hstep,hone,if_pos (by decide)])
      obtain ⟨xp,xv,xa,xk,xi⟩:=x
      simp only at HU d1
      clear hstep hx q1 hone
      go_wp2_with (first
       | ((with_reducible refine zaa (d:=19) ?_);refine wpList_load_mid rfl 93 (.tmp 18) rfl b (off+j*5) rfl us _ (HU.out.1 _ HB.out) Tryz.underlying93 rfl (by rw [HU.out.2.2.1];exact zaT) ?_)
       | ((with_reducible refine zaG (d:=4) ?_);refine zam (op:=⟨some 4,_,_,_,_,_⟩) rfl 93 rfl zerX zcp ?_;intro g4 w4 hf hr;have HG:=Lib.hid (show _∧_∧_ from ⟨hf.bl HB.out,hr,hf.ge HB.out⟩);clear hf hr)
       | ((with_reducible refine zak (i:=4) ?_);refine zan rfl 93 (.tmp 4) (.tmp 19) rfl g4 zerX us rfl rfl HG.out.2.1 HU.out.2.2.1 HU.out.2.2.2.1 (by rw [HU.out.2.2.1];exact zaT) ?_;intro w5 hw hr;have HG5:=Lib.hid (show _∧_ from ⟨Wr.bl HG.out.1 hw HG.out.2.2,hr⟩);have c0:=(hr.cell 0).trans HU.out.2.2.2.2.1;have c1:=(hr.cell 1).trans HU.out.2.2.2.2.2.1;have c2:=(hr.cell 2).trans HU.out.2.2.2.2.2.2.1;have c3:=(hr.cell 3).trans HU.out.2.2.2.2.2.2.2.1;have c4:=(hr.cell 4).trans HU.out.2.2.2.2.2.2.2.2;clear hw hr)
       | (go_at_call 77;((with_reducible refine (HU.out.2.1 _).mono ?_);rintro e w6 ⟨rfl,rfl⟩)))
      go_ret
      exact ⟨by rw [HC.out];rfl,HG5.out.1⟩
    by_cases q2:6 < x.p
    · have d1 : decide (x.p < 2) = false := by simpa using q1
      have d2:decide (6 < x.p)=true:=by simpa using q2
      have hone:oneI x=14:=by unfold oneI;rw [if_pos (.inr q2)]
      have HC:=Lib.hid (show chkI none l=14 from by rw [←HR.out.2,hstep,hone,if_pos (by decide)])
      obtain ⟨xp,xv,xa,xk,xi⟩:=x
      simp only at HU d1 d2
      clear hstep hx q1 hone q2
      go_wp2_with (first
       | ((with_reducible refine zaa (d:=19) ?_);refine wpList_load_mid rfl 93 (.tmp 18) rfl b (off+j*5) rfl us _ (HU.out.1 _ HB.out) Tryz.underlying93 rfl (by rw [HU.out.2.2.1];exact zaT) ?_)
       | ((with_reducible refine zaG (d:=4) ?_);refine zam (op:=⟨some 4,_,_,_,_,_⟩) rfl 93 rfl zerX zcp ?_;intro g4 w4 hf hr;have HG:=Lib.hid (show _∧_∧_ from ⟨hf.bl HB.out,hr,hf.ge HB.out⟩);clear hf hr)
       | ((with_reducible refine zak (i:=4) ?_);refine zan rfl 93 (.tmp 4) (.tmp 19) rfl g4 zerX us rfl rfl HG.out.2.1 HU.out.2.2.1 HU.out.2.2.2.1 (by rw [HU.out.2.2.1];exact zaT) ?_;intro w5 hw hr;have HG5:=Lib.hid (show _∧_ from ⟨Wr.bl HG.out.1 hw HG.out.2.2,hr⟩);have c0:=(hr.cell 0).trans HU.out.2.2.2.2.1;have c1:=(hr.cell 1).trans HU.out.2.2.2.2.2.1;have c2:=(hr.cell 2).trans HU.out.2.2.2.2.2.2.1;have c3:=(hr.cell 3).trans HU.out.2.2.2.2.2.2.2.1;have c4:=(hr.cell 4).trans HU.out.2.2.2.2.2.2.2.2;clear hw hr)
       | (go_at_call 77;((with_reducible refine (HU.out.2.1 _).mono ?_);rintro e w6 ⟨rfl,rfl⟩)))
      go_ret
      exact ⟨by rw [HC.out];rfl,HG5.out.1⟩
    have hways:=rone_ways x _ _ (by omega) (by omega) rfl rfl
    obtain ⟨pm,hpm⟩ : ∃z:Int,(if pwB x.p=true then 31 else 0)=z:=⟨_,rfl⟩
    obtain ⟨im,him⟩ : ∃z:Int,(if x.p=4 then 255 else 0)=z:=⟨_,rfl⟩
    rw [hpm,him] at hways
    have d1:decide (x.p < 2)=false:=by simpa using q1
    have d2:decide (6 < x.p)=false:=by simpa using q2
    obtain ⟨b2,e2⟩ : ∃z,(x.p==2)=z:=⟨_,rfl⟩
    obtain ⟨b3,e3⟩ : ∃z,(x.p==3)=z:=⟨_,rfl⟩
    obtain ⟨b4,e4⟩ : ∃z,(x.p==4)=z:=⟨_,rfl⟩
    have hp2 : (if (b2 || b3) = true then (31 : Int) else 0) = pm := by
     rw [←hpm,←e2,←e3]
     unfold pwB
     by_cases h2:x.p=2 <;> by_cases h3:x.p=3 <;> simp [h2,h3]
    have hi4 : (if b4 = true then (255 : Int) else 0) = im := by
     rw [←him,←e4]
     by_cases h4:x.p=4 <;> simp [h4]
    have hkb : keyB x = if b4 = true then elB x.k else (x.k == 0) := by
     rw [←e4]
     unfold keyB
     by_cases h4:x.p=4 <;> simp [h4] <;> rfl
    have n4:(x.p != 4)=!b4:=by rw [←e4];rfl
    clear hpm him q1 q2
    obtain ⟨xp,xv,xa,xk,xi⟩:=x
    simp only at HU d1 d2 e2 e3 e4 n4 hkb
    have HST:=Lib.hid (show _∧_∧_∧_ from ⟨hstep,hways,HR.out.2,hx⟩)
    have HPM:=Lib.hid (show _∧_∧_ from ⟨hp2,hi4,hkb⟩)
    clear hstep hways hx hp2 hi4 hkb hb
    go_upto_region 10 with (first
     | ((with_reducible refine zaa (d:=19) ?_);refine wpList_load_mid rfl 93 (.tmp 18) rfl b (off+j*5) rfl us _ (HU.out.1 _ HB.out) Tryz.underlying93 rfl (by rw [HU.out.2.2.1];exact zaT) ?_)
     | ((with_reducible refine zaG (d:=4) ?_);refine zam (op:=⟨some 4,_,_,_,_,_⟩) rfl 93 rfl zerX zcp ?_;intro g4 w4 hf hr;have HG:=Lib.hid (show _∧_∧_ from ⟨hf.bl HB.out,hr,hf.ge HB.out⟩);clear hf hr)
     | ((with_reducible refine zak (i:=4) ?_);refine zan rfl 93 (.tmp 4) (.tmp 19) rfl g4 zerX us rfl rfl HG.out.2.1 HU.out.2.2.1 HU.out.2.2.2.1 (by rw [HU.out.2.2.1];exact zaT) ?_;intro w5 hw hr;have HG5:=Lib.hid (show _∧_ from ⟨Wr.bl HG.out.1 hw HG.out.2.2,hr⟩);have c0:=(hr.cell 0).trans HU.out.2.2.2.2.1;have c1:=(hr.cell 1).trans HU.out.2.2.2.2.2.1;have c2:=(hr.cell 2).trans HU.out.2.2.2.2.2.2.1;have c3:=(hr.cell 3).trans HU.out.2.2.2.2.2.2.2.1;have c4:=(hr.cell 4).trans HU.out.2.2.2.2.2.2.2.2;clear hw hr))
    go_cut [35] from 10 to 122 (fun v35 wx=>v35=.bool (b2 || b3)∧Hid (w5=wx))
    case first =>
     rcases b2 with _ | _ <;> rcases b3 with _ | _
     all_goals
      go_wp2_with fail
      go_meet
      exact ⟨rfl,Lib.hid rfl⟩
    case rest =>
    obtain ⟨rfl,hwc⟩:=hcut
    have hwd:=hwc.out
    clear hwc
    subst hwd
    obtain ⟨bp,hbp⟩ : ∃z,(b2 || b3)=z:=⟨_,rfl⟩
    have HP1:=Lib.hid (show (if bp=true then (31:Int) else 0)=pm from by rw [←hbp];exact HPM.out.1)
    rw [hbp]
    clear hbp e2 e3
    go_upto_if 35 with fail
    go_cut [5] from 10 to 122 (fun v5 wx=>v5=.int .i64 pm∧Hid (w5=wx))
    case first =>
     rcases bp with _ | _
     all_goals
      go_wp2_with fail
      go_meet
      exact ⟨by rw [←HP1.out];rfl,Lib.hid rfl⟩
    case rest =>
    obtain ⟨rfl,hwc⟩:=hcut
    have hwd:=hwc.out
    clear hwc
    subst hwd
    go_upto_if 38 with fail
    go_cut [6] from 10 to 122 (fun v6 wx=>v6=.int .i64 im∧Hid (w5=wx))
    case first =>
     have HI4:=HPM.out.2.1
     rcases b4 with _ | _
     all_goals
      go_wp2_with fail
      go_meet
      exact ⟨by rw [←HI4];rfl,Lib.hid rfl⟩
    case rest =>
    obtain ⟨rfl,hwc⟩:=hcut
    have hwd:=hwc.out
    clear hwc
    subst hwd
    have hways:=HST.out.2.1
    obtain ⟨v,hv⟩ : ∃v,oneI ⟨xp,xv,xa,xk,xi⟩=v:=⟨_,rfl⟩
    rw [hv,HPM.out.2.2] at hways
    simp only at hways
    have hstep:=HST.out.1
    rw [hv] at hstep
    have HV:=Lib.hid (show (v≠0→chkI none l=v)∧(v=0→chkI (preI l j) (l.drop j)=if ordB ⟨xp,xv,xa,xk,xi⟩ (preI l j)=false then 17 else chkI (preI l (j+1)) (l.drop (j+1))) from ⟨fun h=>by rw [←HST.out.2.2.1,hstep,if_pos h],fun h=>by rw [hstep,if_neg (fun h2=>h2 h)]⟩)
    clear hstep hv
    rcases hways with ⟨g1,rfl⟩ | ⟨g1,g2,rfl⟩ | ⟨g1,g2,g3,rfl⟩ | ⟨g1,g2,g3,g4',rfl⟩ | ⟨g1,g2,g3,g4',g5,rfl⟩ | ⟨g1,g2,g3,g4',g5,g6,rfl⟩ | ⟨g1,g2,g3,g4',g5,g6,⟨hkey,rfl⟩ | ⟨hkey,rfl⟩⟩
    iterate 6
     · have HC := Lib.hid (HV.out.1 (by decide))
       go_wp2_with fail
       go_ret
       exact ⟨by rw [HC.out];rfl,HG5.out.1⟩
    · have HC := Lib.hid (HV.out.1 (by decide))
      rcases b4 with _ | _
      · have dk : (xk != 0) = true := by simpa using hkey
        clear hkey
        go_wp2_with (go_at_call 77;((with_reducible refine (HU.out.2.1 _).mono ?_);rintro e w6 ⟨rfl,rfl⟩))
        go_ret
        exact ⟨by rw [HC.out];rfl,HG5.out.1⟩
      · have dk : elB xk = false := hkey
        rw [dk] at HU
        clear hkey
        go_wp2_with (go_at_call 77;((with_reducible refine (HU.out.2.1 _).mono ?_);rintro e w6 ⟨rfl,rfl⟩))
        go_ret
        exact ⟨by rw [HC.out];rfl,HG5.out.1⟩
    · go_upto_region 16 with fail
      go_cut [87] from 10 to 122 (fun v87 wx=>v87=.bool false∧Hid (w5=wx))
      case first =>
       rcases b4 with _ | _
       · have dk : (xk != 0) = false := by simpa using hkey
         clear hkey
         go_wp2_with (go_at_call 77;((with_reducible refine (HU.out.2.1 _).mono ?_);rintro e w6 ⟨rfl,rfl⟩))
         go_meet
         exact ⟨rfl,Lib.hid rfl⟩
       · have dk : elB xk = true := hkey
         rw [dk] at HU
         clear hkey
         go_wp2_with (go_at_call 77;((with_reducible refine (HU.out.2.1 _).mono ?_);rintro e w6 ⟨rfl,rfl⟩))
         go_meet
         exact ⟨rfl,Lib.hid rfl⟩
      case rest =>
      obtain ⟨rfl,hwc⟩:=hcut
      have hwd:=hwc.out
      clear hwc hkey
      subst hwd
      by_cases hj0:j=0
      · have hpre : preI l j = none := by unfold preI; rw [if_pos hj0]
        have dj0:decide (0 < j)=false:=by simp;omega
        have HC:=Lib.hid (show chkI (preI l (j+1)) (l.drop (j+1))=chkI none l from by rw [←HST.out.2.2.1,HV.out.2 rfl,hpre];rfl)
        clear hpre hj0
        go_wp2_with fail
        refine wp_region_quiet_below (by kernel_rfl) (by kernel_rfl) ?_
        repeat (first | go_big_quiet_skip | (go_big_quiet_want;go_big_quiet_op;go_big_quiet_on))
        refine wpQuiet_nil ?_
        intro w7 hw7
        have H7:=Lib.hid (zaf HG5.out.1 (zag hw7))
        clear hw7
        go_wp2
        go_roundw
        case rel=>exact ⟨j+1,by omega,by first | rfl | go_num,Lib.hid ⟨H7.out,HC.out⟩⟩
        case measure=>simp [intOf];omega
      · obtain ⟨y, hy⟩ : ∃ y, l[j - 1]? = some y := ⟨_, List.getElem?_eq_getElem (by rw [HN.out]; omega)⟩
        have hpre:preI l j=some y:=by unfold preI;rw [if_neg hj0];exact hy
        obtain ⟨b',off',ey,hb',hrr⟩:=im_at HS.out hy
        cases ey
        have hr3:=fun cur (h:Below w.heap.size w cur)=>zbY hrr hb' h
        have hstep:=HV.out.2 rfl
        rw [hpre] at hstep
        have hbw:=rord_ways ⟨xp,xv,xa,xk,xi⟩ y
        obtain ⟨bb,hbb⟩ : ∃q,behB ⟨xp,xv,xa,xk,xi⟩ y=q:=⟨_,rfl⟩
        have hord:ordB ⟨xp,xv,xa,xk,xi⟩ (some y)=bb:=hbb
        rw [hord] at hstep
        rw [hbb] at hbw
        obtain ⟨k,hk0⟩ : ∃k,j - 1=k:=⟨_,rfl⟩
        have ej:wrap64 ((j:Int) - 1)=(k:Int):=by unfold wrap64;omega
        have hkn:k < n:=by omega
        rw [hk0] at hr3
        have dj0:decide (0 < j)=true:=by simp;omega
        have HY:=Lib.hid (show (∀cur,Below w.heap.size w cur→cur.cell? ⟨b,off+k*5,none⟩=some (.int .i64 y.p))∧(∀cur,Below w.heap.size w cur→cur.cell? ⟨b,off+k*5+4,none⟩=some (.int .i64 y.i)) from ⟨fun cur h=>hr3 cur h 0 _ rfl,fun cur h=>hr3 cur h 4 _ rfl⟩)
        obtain ⟨yp,yv,ya,yk,yi⟩:=y
        simp only at HY hbw
        have HSU:=Lib.hid (show (bb=true→chkI (preI l (j+1)) (l.drop (j+1))=chkI none l)∧(bb=false→chkI none l=17) from ⟨fun h=>by rw [←HST.out.2.2.1,hpre,hstep,h];rfl,fun h=>by rw [←HST.out.2.2.1,hpre,hstep,h];rfl⟩)
        clear hr3 hrr hpre hord hbb hy hstep hb'
        go_wp2_with fail
        have H5:=Lib.hid (show _∧_∧_∧_ from ⟨fun d os=>HG5.out.2.quiet (k:=0) HU.out.2.2.2.2.1 d os,fun d os=>HG5.out.2.quiet (k:=4) HU.out.2.2.2.2.2.2.2.2 d os,cell_up (w:=w5) fun w' hb=>HY.out.1 _ (zaf HG5.out.1 hb),cell_up (w:=w5) fun w' hb=>HY.out.2 _ (zaf HG5.out.1 hb)⟩)
        have l0:=H5.out.1
        have l4:=H5.out.2.1
        have m0:=H5.out.2.2.1
        have m4:=H5.out.2.2.2
        clear c0 c1 c2 c3 c4
        have ixk:=fun w=>ix_x b off n c k hkn w
        rcases hbw with ⟨f1,rfl⟩ | ⟨f1,f2,rfl⟩ | ⟨f1,f2,f3,rfl⟩ | ⟨f1,f2,f3,rfl⟩
        all_goals
         refine wp_region_quiet_below (by kernel_rfl) (by kernel_rfl) ?_
         repeat (first | go_big_quiet_skip | (go_big_quiet_want;go_big_quiet_op;go_big_quiet_on))
         refine wpQuiet_nil ?_
         intro w7 hw7
         have H7:=Lib.hid (zaf HG5.out.1 (zag hw7))
         clear hw7 l0 l4 m0 m4 ixk
         go_wp2
         first
          | (go_ret;exact ⟨by rw [HSU.out.2 (by first | rfl | trivial)];rfl,H7.out⟩)
          | (go_roundw
             case rel=>exact ⟨j+1,by omega,by first | rfl | go_num,Lib.hid ⟨H7.out,HSU.out.1 (by first | rfl | trivial)⟩⟩
             case measure=>simp [intOf];omega)
  · obtain rfl : j = n := by omega
    have dj:decide ((j:Int) < (j:Int))=false:=by simp
    have HC:=Lib.hid (show chkI none l=0 from by rw [←HR.out.2,List.drop_of_length_le (by rw [HN.out];exact Nat.le_refl _)];unfold chkI;rfl)
    have HB:=Lib.hid HR.out.1
    clear HR
    go_wp2
    go_ret
    exact ⟨by rw [HC.out];rfl,HB.out⟩
end Go.Proofs.YtnlhbknajdpnbaaGreatDoor
namespace Go.Proofs.YtnlhbknajdpnbaaGreatDoor
open Go.RowKit
set_option maxRecDepth 8000
set_option maxHeartbeats 6400000 in
set_option maxRecDepth 20000 in
theorem r_set_obj (l : List Im) (n : Nat) (hn : l.length = n) (hm : n ≤ 16) (hv : ∀ x ∈ l, oneI x = 0) (A : Option Addr) (c : Nat) (w : World) (hs : SeesP w (· < w.heap.size) A (Ics l)) :
 Calls Tryz.prog 50 #[.slice A n c] w (SetIs l w):=by
 obtain ⟨i0,hi,hz0,hz1,hz2⟩:=info_parts zcq
 have HS:=Lib.hid hs
 have HN:=Lib.hid hn
 have HV:=Lib.hid hv
 have HB:=Lib.hid (Below.refl w.heap.size w)
 clear hs hn hv
 go_enter Tryz.func50,Tryz.ntmps50
 go_wp2_with (first
  | ((with_reducible refine zaG (d:=2) ?_);refine zam (op:=⟨some 2,_,_,_,_,_⟩) rfl 64 rfl zerN zcc ?_;intro g2 w2 hf hr;have H2:=Lib.hid (show _∧_∧_ from ⟨hf.bl HB.out,hr,hf.ge HB.out⟩);clear hf hr))
 go_loopw [3,4] (fun v i wr=>∃(j:Nat),j≤n∧i=.int .i64 (j:Int)∧Hid (HeldN w2 wr v (zcz (l.take j))∧Below w2.heap.size w2 wr)) (fun _ i _=>n - (intOf i).toNat)
 case atStart=>exact ⟨0,by omega,rfl,Lib.hid ⟨by rw [List.take_zero];exact HeldN.start _ _,Below.refl _ _⟩⟩
 case round =>
  obtain ⟨j,hj,rfl,HR⟩:=hrel
  by_cases hlt:j < n
  · have dj : decide ((j : Int) < (n : Int)) = true := by simp; omega
    obtain ⟨x,hx⟩ : ∃x,l[j]? = some x:=⟨_,List.getElem?_eq_getElem (by rw [HN.out];exact hlt)⟩
    obtain ⟨b,off,rfl,hb,hr⟩:=im_at HS.out hx
    have hr2:=fun cur (h:Below w.heap.size w cur)=>zbY hr hb h
    have hobj:=fun w0=>r_info_obj x (HV.out x (List.mem_of_getElem? hx)) w0
    obtain ⟨us,hus⟩ : ∃us,x.cs=us:=⟨_,rfl⟩
    have hu5:us.length=5:=by rw [←hus];rfl
    rw [hus] at hr2 hobj
    have htk:=objsI_take hx
    obtain ⟨fN,hfN⟩ : ∃q,zcz (l.take j)=q:=⟨_,rfl⟩
    have hfl:fN.len=j:=by rw [←hfN,zev,List.length_take,HN.out];omega
    rw [hfN] at HR htk
    have HU:=Lib.hid (show _∧_∧_ from ⟨hr2,hobj,hu5⟩)
    have HTK:=Lib.hid htk
    clear hr hr2 hobj hu5 hus hx htk hfN hb
    go_wp2_with (first
     | ((with_reducible refine zaa (d:=15) ?_);refine wpList_load_mid rfl 93 (.tmp 14) rfl b (off+j*5) rfl us _ (HU.out.1 _ (zaf H2.out.1 HR.out.2)) Tryz.underlying93 rfl (by rw [HU.out.2.2];exact zaT) ?_)
     | (go_at_call 78;((with_reducible refine (HU.out.2.1 _).mono ?_);rintro e w9 ⟨A9,c9,rfl,h1,h2,hb⟩);have H9:=Lib.hid (show _∧_∧_ from ⟨h1,h2,hb⟩);clear h1 h2 hb)
     | ((with_reducible refine zal (d:=17) ?_);go_must (refine zap rfl 30 64 1 _ rfl Tryz.underlying30 (pe1 rfl) (bs1 _ _ _) ?_);intro g5 w10 hf hr;have H10:=Lib.hid (show _∧_ from ⟨hf,hr⟩);clear hf hr)
     | ((with_reducible refine zaS (d:=18) ?_);obtain ⟨cs,hc1,hc2⟩:=HR.out.1;go_must (refine wpList_append_lies _ rfl (.tmp 11) (.tmp 17) 30 rfl w2.heap.size 64 i0 _ 3 56 Tryz.underlying30 hi hz0 hz1 hz2 rfl (by decide) u3 fN.len cs rfl (zaI (zaI hc1 H9.out.2.2) H10.out.1.bw) ⟨g5,0,none⟩ 1 1 (nodV 48 none 0 0 A9 (kidF x).len c9) rfl rfl H10.out.2.src (zbK _ _ _ _ _ _ _) (by decide) (by unfold maxLen;omega) (by omega) (Nat.le_trans HR.out.2.size (Nat.le_trans H9.out.2.2.size H10.out.1.bw.size)) _ rfl ?_);intro g6 c6 w11 ho hg hl hlt6;have H11:=Lib.hid (show HeldN w2 w11 _ (fN.app (.cons 48 [] (kidF x) .nil))∧Below w2.heap.size w2 w11 from ⟨HeldN.snoc (wr:=wr) (w1:=w9) (wa:=w10) (x:=[]) (k:=kidF x) H9.out.2.2 H10.out.1.bw ⟨fun _=>rfl,Nat.zero_le _,H9.out.1⟩ (.inl rfl) H9.out.2.1 HR.out.2.size cs hc1 hc2 rfl ho hg hl,zbo (zaf (zaf HR.out.2 H9.out.2.2) H10.out.1.bw) hg fun k e=>(zas hc1 k e).1⟩);clear ho hg hl hlt6 hc1 hc2))
    go_roundw
    case rel=>exact ⟨j+1,by omega,by first | rfl | go_num,Lib.hid ⟨by have h:=H11.out.1;rw [hfl] at h;rw [HTK.out];exact h,H11.out.2⟩⟩
    case measure=>simp [intOf];omega
  · obtain rfl : j = n := by omega
    have dj:decide ((j:Int) < (j:Int))=false:=by simp
    obtain ⟨Ah,ch,rfl,hlh,hsh⟩:=HR.out.1.slice
    have e6:zcz (l.take j)=zcz l:=by rw [List.take_of_length_le (by rw [HN.out];exact Nat.le_refl _)]
    have e7:(zcz l).len=j:=by rw [zev,HN.out]
    rw [e6] at hsh hlh ⊢
    rw [e7] at hlh ⊢
    have HH:=Lib.hid (show SeesN wr (newB w2 wr) Ah (zcz l)∧j≤ch∧Below w2.heap.size w2 wr from ⟨hsh,hlh,HR.out.2⟩)
    clear e6 e7 hlh hsh HR
    go_wp2_with (first
     | (go_at_call 56;((with_reducible refine (zeO 49 _ _ _ _).mono ?_);rintro e w10 ⟨rfl,hb⟩);have H10:=Lib.hid hb;clear hb)
     | ((with_reducible refine zak (i:=2) ?_);go_must (refine zan rfl 64 (.tmp 2) (.tmp 20) rfl g2 zerN (nodV 49 none 0 0 Ah j ch) rfl rfl ((H2.out.2.1.on HH.out.2.2).on H10.out) rfl (zbK _ _ _ _ _ _ _) zbV ?_);intro w12 hw hr;have H12:=Lib.hid (show _∧_ from ⟨hw,hr⟩);clear hw hr))
    exact bodyPost_ret (zbA rfl _ _ g2 (nodV 49 none 0 0 Ah j ch) _ rfl H12.out.2 Tryz.underlying64 rfl zbV) rfl ⟨_,ch,by rw [HN.out],by rw [HN.out];exact HH.out.2.1,SeesN.put (HH.out.1.newOn H10.out) H12.out.1 H2.out.2.1.lt H2.out.1.size,Wr.bl (zaf (zaf H2.out.1 HH.out.2.2) H10.out) H12.out.1 H2.out.2.2⟩
theorem numF_sm (x : Im) : ∀ l, (∀ t s c, (t, s, c) ∈ l → (t = 2 ∨ t = 4) ∧ s ≤ 4) → (numF x l).sm
 | [],_=>trivial
 | (t, s, c) :: r, h => by
   obtain ⟨h1,h2⟩:=h t s c (List.mem_cons_self ..)
   exact ⟨by rw [zav];omega,trivial,numF_sm x r fun t s c h3=>h t s c (List.mem_cons_of_mem _ h3)⟩
theorem objsI_sm : ∀ l : List Im, (zcz l).sm
 | []=>trivial
 | x::r=>⟨Nat.zero_le _,⟨by rw [zdv];decide,trivial,numF_sm x _ fun _ _ _ h=>numsI_mem h⟩,objsI_sm r⟩
theorem setF_sm (l:List Im):(setF l).sm:=⟨Nat.zero_le _,objsI_sm l,trivial⟩
end Go.Proofs.YtnlhbknajdpnbaaGreatDoor
namespace Go.Proofs.YtnlhbknajdpnbaaGreatDoor
open Go.RowKit
set_option maxRecDepth 8000
def ifsE (l:List Im):Int:=if vaE l=0 then wrE 14 (setF l) else vaE l
def ifsB (l:List Im):List UInt8:=if vaE l=0 then wrB 14 (setF l) else []
theorem set_sees {w : World} {g n : Nat} {l : List Im} {A : Option Addr} {c : Nat} (hn : l.length = n) (hr : RowV w g (nodV 49 none 0 0 A n c)) (hs : SeesN w (· < w.heap.size) A (zcz l)) : SeesQ w (· < w.heap.size) (some ⟨g, 0, none⟩) (setF l) := by
 obtain ⟨ks,k1,k2⟩:=hs
 exact ⟨_,.inr ⟨g,0,rfl,hr.lt,fun j hj=>by rw [Nat.zero_add];exact hr.cell j⟩,none,0,A,c,ks,[],by rw [zev,hn];rfl,⟨fun _=>rfl,fun h=>absurd h (by simp)⟩,.inl rfl,k1,k2.q,rfl⟩
set_option maxHeartbeats 1600000 in
theorem r15_infos (l : List Im) (n : Nat) (hn : l.length = n) (hm : n ≤ 140737488351232) (A : Option Addr) (c : Nat) (w : World) (ht : TabG w) (hs : SeesP w (· < w.heap.size) A (Ics l)) :
 Calls Tryz.prog 21 #[.slice A n c] w (zaU w (ifsB l) (ifsE l)):=by
 have HC:=Lib.hid (r_ivalid l n hn hm A c w hs)
 obtain ⟨v,hv⟩ : ∃v,vaE l=v:=⟨_,rfl⟩
 rw [hv] at HC
 by_cases h0:v=0
 · have d0 : (v != 0) = false := by simpa using h0
   have hv0:vaE l=0:=hv.trans h0
   obtain ⟨h1,h2⟩:=vaE_ok hv0
   have HL:=Lib.hid (fun w0 (h:SeesP w0 (· < w0.heap.size) A (Ics l))=>r_set_obj l n hn (by omega) h2 A c w0 h)
   have HS:=Lib.hid hs
   have hz:=setF_size l
   have HW := Lib.hid (show ∀ (X : Option Addr) (cx : Nat) (u : World), Below w.heap.size w u → SeesQ u (· < u.heap.size) X (setF l) → Calls Tryz.prog 25 #[.int .i64 14, .slice X 1 cx] u (zaU u (ifsB l) (ifsE l)) from fun X cx u hb hx => by
    have q1:ifsB l=wrB 14 (setF l):=by unfold ifsB;rw [if_pos hv0]
    have q2:ifsE l=wrE 14 (setF l):=by unfold ifsE;rw [if_pos hv0]
    rw [q1,q2]
    exact zgG 14 (setF l) 1 rfl X cx u (ht.on hb) (by decide) (by decide) (by omega) (setF_ok l) (F.sm_sq (setF_sm l)) hx)
   have HQ:=Lib.hid (fun (u:World) (g:Nat) (X:Option Addr) (cx:Nat) (h1:RowV u g (nodV 49 none 0 0 X n cx)) (h2:SeesN u (· < u.heap.size) X (zcz l))=>set_sees hn h1 h2)
   obtain ⟨bs,hbs⟩ : ∃z,ifsB l=z:=⟨_,rfl⟩
   obtain ⟨er,her⟩ : ∃z,ifsE l=z:=⟨_,rfl⟩
   rw [hbs,her] at HW
   have HBE:=Lib.hid (show ifsB l=bs∧ifsE l=er∧l.length=n from ⟨hbs,her,hn⟩)
   subst h0
   clear hs hn hv hv0 h1 h2 hz ht hbs her hm
   go_enter Tryz.func21,Tryz.ntmps21
   go_wp2_with (first
    | (go_at_call 49;((with_reducible refine HC.out.mono ?_);rintro e w1 ⟨rfl,hb⟩);have H1:=Lib.hid hb;clear hb)
    | (go_at_call 50;((with_reducible refine (HL.out _ (SeesP.on2 HS.out H1.out)).mono ?_);rintro e w2 ⟨A2,c2,rfl,h1,h2,hb⟩);rw [HBE.out.2.2] at h1 ⊢; have H2:=Lib.hid (show _∧_∧_ from ⟨h1,h2,hb⟩);clear h1 h2 hb)
    | ((with_reducible refine zal (d:=12) ?_);go_must (refine zap rfl 30 64 1 _ rfl Tryz.underlying30 (pe1 rfl) (bs1 _ _ _) ?_);intro g5 w3 hf hr;have H3:=Lib.hid (show Below w.heap.size w w3∧SeesQ w3 (· < w3.heap.size) (some ⟨g5,0,none⟩) (setF l) from ⟨zaf (zaf H1.out H2.out.2.2) hf.bw,HQ.out w3 g5 A2 c2 hr ((H2.out.2.1.newOn hf.bw).imp zdD)⟩);clear hf hr)
    | (go_at_call 25;((with_reducible refine (HW.out _ _ _ H3.out.1 H3.out.2).mono ?_);rintro e w4 ⟨A4,c4,rfl,h1,h2,h3⟩);have H4:=Lib.hid (show _∧_∧_ from ⟨h1,h2,h3⟩);clear h1 h2 h3))
   have HD := Lib.hid (show zaU w (ifsB l) (ifsE l) (.returned (.tuple #[.slice A4 bs.length c4, .int .i64 er])) w4 from by
    rw [HBE.out.1,HBE.out.2.1]
    exact ⟨A4,c4,rfl,H4.out.1.imp fun b hb=>⟨Nat.le_trans H3.out.1.size hb.1,hb.2⟩,zaf H3.out.1 H4.out.2.1,H4.out.2.2⟩)
   go_ret2
   exact HD.out
 · have d0 : (v != 0) = true := by simpa using h0
   have HF := Lib.hid (show ∀ u, Below w.heap.size w u → zaU w (ifsB l) (ifsE l) (.returned (.tuple #[.slice none 0 0, .int .i64 v])) u from fun u hb => by
    unfold ifsB ifsE
    rw [hv,if_neg h0,if_neg h0]
    exact ⟨none,0,rfl,.inl rfl,hb,Nat.le_refl _,fun _=>rfl⟩)
   clear hs hn hv h0 ht hm
   go_enter Tryz.func21,Tryz.ntmps21
   go_wp2_with (go_at_call 49;((with_reducible refine HC.out.mono ?_);rintro e w1 ⟨rfl,hb⟩);have H1:=Lib.hid (HF.out _ hb);clear hb)
   go_ret2
   exact H1.out
end Go.Proofs.YtnlhbknajdpnbaaGreatDoor
namespace Go.Proofs.YtnlhbknajdpnbaaGreatDoor
open Go.RowKit
theorem bytes_equal (A1 A2 : Option Addr) (c1 c2 n1 n2 : Nat) (x y : List UInt8) (w : World) (B : Nat) (h1 : Sees w B A1 (Us x)) (h2 : Sees w B A2 (Us y)) (l1 : n1 = x.length) (l2 : n2 = y.length) :
 Calls Tryz.prog 114 #[.slice A1 n1 c1,.slice A2 n2 c2] w fun e w'=>e=.returned (.bool (zgo x y))∧w'=w:=by
 have r1:=zcD w B A1 x h1 n1 c1 l1
 have r2:=zcD w B A2 y h2 n2 c2 l2
 clear l1 l2
 go_enter Tryz.func114,Tryz.ntmps114
 go_wp2
 go_ret
 exact ⟨by rw [zcB,zcB];rfl,rfl⟩
theorem oct_same (A1 A2 : Option Addr) (c1 c2 n1 n2 : Nat) (x y : List UInt8) (w : World) (B : Nat) (h1 : Sees w B A1 (Us x)) (h2 : Sees w B A2 (Us y)) (l1 : n1 = x.length) (l2 : n2 = y.length) :
 Calls Tryz.prog 87 #[.slice A1 n1 c1,.slice A2 n2 c2] w fun e w'=>e=.returned (.bool (zgo x y))∧w'=w:=by
 have L1:=Lib.hid l1
 have L2:=Lib.hid l2
 clear l1 l2
 go_enter Tryz.func87,Tryz.ntmps87
 go_wp2_with (go_at_call 114;refine (bytes_equal A1 A2 c1 c2 n1 n2 x y _ B h1 h2 L1.out L2.out).mono ?_;rintro e w' ⟨rfl,rfl⟩)
 go_ret
 exact ⟨rfl,rfl⟩
end Go.Proofs.YtnlhbknajdpnbaaGreatDoor
