/-
  What is proved here: what the reference's Build answers, for all zones; equal lines are the same.
-/
import Derived.Test.YtnlhbknajdpnbaaGreatDoorF29
import Derived.Test.YtnlhbknajdpnbaaGreatDoorF3
import Derived.Test.YtnlhbknajdpnbaaGreatDoorF4
import Derived.Test.YtnlhbknajdpnbaaGreatDoorF5
import Derived.Test.YtnlhbknajdpnbaaGreatDoorF0
import Derived.Test.YtnlhbknajdpnbaaGreatDoorF11
import Derived.Test.YtnlhbknajdpnbaaGreatDoorF6
import Derived.Test.YtnlhbknajdpnbaaGreatDoorF7
import Derived.Test.YtnlhbknajdpnbaaGreatDoorRows
import Derived.Test.YtnlhbknajdpnbaaGreatDoorF21
import Derived.Test.YtnlhbknajdpnbaaGreatDoorCards
import Derived.Test.YtnlhbknajdpnbaaGreatDoorTie
import Derived.ProofKit
import Derived.SizedLaws
import Derived.OpenShut
import Derived.LaidMore
import Derived.Lay
import Derived.SevenTiedAt
import Derived.Stop.Joined
import Derived.Laws.BitsAllLaws
import Derived.Lib.Strings
import Derived.Lib.Slices
import Derived.Lib.Small
import Derived.Lib.Walk
import Derived.Lib.BitFns
import Derived.Deep.RegionWith
import Derived.Laws.ResultCell
import Derived.Laws.Rows
import Derived.BigQuiet
import Derived.ShutString
import Derived.ChangeOld
import Derived.Laws.AppendOwnNone
import Derived.Deep.AppendLies
import Derived.Test.YtnlhbknajdpnbaaGreatDoorF23
import Derived.Test.YtnlhbknajdpnbaaGreatDoorF24
import Derived.Test.YtnlhbknajdpnbaaGreatDoorF28
import Derived.Test.YtnlhbknajdpnbaaGreatDoorF19
import Derived.Test.YtnlhbknajdpnbaaGreatDoorF25
import Derived.Deep.DeepCutAuto
set_option linter.unusedVariables false
set_option linter.unusedSimpArgs false
namespace Go.Proofs.YtnlhbknajdpnbaaGreatDoor
open Go.RowKit Go.Maps
theorem zdr (x : List UInt8) (n : Nat) (h : x.length ≤ n) : (S (zaX x n)).size ≤ n := by
 rw [zao];unfold zaX;rw [List.length_append,List.length_replicate];omega
theorem r_build_ok (z : Zn) (us : List Value) (hz : Bears z) (hus : zV z = us) (hv : zaY z = 0) (w : World) : Calls Tryz.prog 38 #[.agg us.toArray] w fun e w' => ∃ A, e = .returned (.tuple #[.slice A (zbb z).length (zbb z).length, .int .i64 (zaY z)]) ∧ Strs w' A (zbb z) ∧ Below w.heap.size w w' := by
 have hft:=hz.fits hv
 obtain ⟨h1,h2,h3,h4,h5,h6,h7,h8,h9,h10,h11,h12,h13,h14,h15⟩:=zeq hv
 have hn:1≤namN z.fm∧namN z.fm≤39:=by unfold namN;repeat (first | omega | split)
 have hE:=namesE_3 (x:=z.su) (y:=z.gi) (w:=((namN z.fm:Nat):Int)) (by rw [h4.2,h5];simp [h4.1]) (by omega)
 refine zgl z us (S (zaX z.kd 2)) (S (zaX z.st 3)) (S (headL z)) ⟨#[]⟩ (S (numA z.nu)) (S (numR z.nu)) (S z.bi) (S z.ex) (S (z.bi ++ dgL z.bi)) (S (z.ex ++ dgL z.ex)) ⟨#[]⟩ (S (zaX z.na 3)) ⟨#[]⟩ ⟨#[]⟩ (S (zbk z.su z.gi (namN z.fm))) 0 ((namN z.fm : Nat) : Int) hz hft hus
  ⟨fun w=>zdp z.kd 2 (by decide) _ rfl w,fun w=>zdp z.st 3 (by decide) _ rfl w,fun w=>r_number z.nu hft.nu w,fun w=>r_chkB z.bi (by have:=hft.bi;omega) _ rfl w,fun w=>r_chkB z.ex (by have:=hft.ex;omega) _ rfl w,fun w=>zdp z.na 3 (by decide) _ rfl w,fun w=>?_⟩
  ⟨by unfold headL;rw [zaz]⟩ ⟨rfl,rfl,rfl,rfl,rfl,rfl,rfl⟩ rfl ?_ ?_ ?_ ?_ ?_ (zdr _ _ (zbZ h8)) ?_ (zdr _ _ (zbZ h2)) (zdr _ _ (zbZ h3)) rfl rfl hv w
 · have h := r_names (S z.su) (S z.gi) z.su z.gi rfl rfl ((namN z.fm : Nat) : Int) w hz.su hz.gi
   rw [hE.1,hE.2] at h
   exact h
 · have a := zdr _ _ (zbZ h2)
   have b:=zdr _ _ (zbZ h3)
   unfold headL;rw [←zaz,ByteArray.size_append];omega
 · rw [zao];exact numA_len _
 · rw [zao];have:=numR_len z.nu;have:=hft.nu;omega
 · rw [zao,List.length_append];have:=dgL_le z.bi;have:=hft.bi;omega
 · rw [zao,List.length_append];have:=dgL_le z.ex;have:=hft.ex;omega
 · rw [zao,zfD hv];omega
set_option maxHeartbeats 800000 in
set_option maxRecDepth 20000 in
theorem r_zbuild (z : Zn) (us : List Value) (hz : Bears z) (hus : zV z = us) (w : World) : Calls Tryz.prog 38 #[.agg us.toArray] w fun e w' => ∃ A, e = .returned (.tuple #[.slice A (zbb z).length (zbb z).length, .int .i64 (zaY z)]) ∧ Strs w' A (zbb z) ∧ Below w.heap.size w w' := by
 by_cases hv:zaY z=0
 · exact r_build_ok z us hz hus hv w
 · have hbl : zbb z = [] := by unfold zbb; rw [if_neg hv]
   rw [hbl]
   obtain ⟨v,hvv⟩ : ∃v,zaY z=v:=⟨_,rfl⟩
   have HVD:Hid (∀w,Calls Tryz.prog 67 #[.agg us.toArray] w fun e w'=>e=.returned (.int .i64 v)∧Below w.heap.size w w'):=Lib.hid (fun w=>by rw [←hvv];exact r_zvalid z hz us hus w)
   have HSZ:Hid ((Tryz.prog.info? 46).map (·.size)=some us.length):=Lib.hid (by rw [←hus];exact zeW)
   have HO:=Lib.hid (Own.start w)
   rw [hvv] at hv ⊢
   have d1:(v==0)=false:=by simpa using hv
   clear hvv hbl hz hus
   go_enter Tryz.func38,Tryz.ntmps38
   go_wp2_with (first
    | ((with_reducible refine zbl (d:=1) ?_);refine zax (op:=⟨some 1,_,_,_,_,_⟩) rfl 46 _ rfl us rfl ?_;intro g1 v1b hf hr;replace HO:=Lib.hid (HO.out.new hf hr);clear hf hr)
    | ((with_reducible refine zaa (d:=24) ?_);refine zaJ rfl 46 _ rfl g1 rfl us _ (HO.out.row (i:=0) rfl) Tryz.underlying46 rfl HSZ.out ?_)
    | (go_at_call 67;((with_reducible refine (HVD.out _).mono ?_);rintro e w5 ⟨rfl,hb⟩);replace HO:=Lib.hid (HO.out.on hb);clear hb))
   go_ret2
   exact ⟨none,rfl,.inl rfl,HO.out.bl⟩
end Go.Proofs.YtnlhbknajdpnbaaGreatDoor
namespace Go.Proofs.YtnlhbknajdpnbaaGreatDoor
open Go.RowKit
def allL (x:List UInt8):Prop:=∀k,k < x.length→ltrB (cB x k)=true
theorem name_word {x:List UInt8} (h:allL x):zaO x=true:=zdB fun k hk=>zfS (h k hk)
theorem name_more {x y : List UInt8} (hx : zaO x = true) (hx0 : x ≠ []) (hy : allL y) (hy0 : y ≠ []) : zaO (x ++ [32] ++ y) = true := by
 have hxp:=List.length_pos_iff.2 hx0
 have hyp:=List.length_pos_iff.2 hy0
 have hc : ∀ i, cB (x ++ [32] ++ y) i = if i < x.length then cB x i else if i = x.length then 32 else cB y (i - x.length - 1) := fun i => by
  rw [List.append_assoc,zcr]
  split
  · rfl
  · rw [zcr]
    simp only [List.length_cons,List.length_nil]
    split
    · rename_i h1 h2
      rw [if_pos (by omega),show i - x.length=0 by omega];rfl
    · rename_i h1 h2
      rw [if_neg (by omega)]
 have hl:(x++[32]++y).length=x.length+1+y.length:=by simp;omega
 refine zdB fun k hk=>?_
 rw [hl] at hk
 rcases Nat.lt_or_ge k x.length with h | h
 · rcases zcj hx h with h1 | h1
   · refine zfS ?_
     rw [hc,if_pos h];exact h1
   · unfold okP gapL
     rw [Bool.or_eq_true]
     refine .inr (decide_eq_true ⟨by rw [hc,if_pos h];exact h1.1,h1.2.1,by rw [hl];omega,?_,?_⟩)
     · rw [hc,if_pos (by omega)];exact h1.2.2.2.1
     · rw [hc,if_pos h1.2.2.1];exact h1.2.2.2.2
 · rcases Nat.lt_or_ge x.length k with h2 | h2
   · refine zfS ?_
     rw [hc,if_neg (by omega),if_neg (by omega)]
     exact hy _ (by omega)
   · obtain rfl : k = x.length := by omega
     unfold okP gapL
     rw [Bool.or_eq_true]
     refine .inr (decide_eq_true ⟨by rw [hc,if_neg (by omega),if_pos rfl],hxp,by rw [hl];omega,?_,?_⟩)
     · rw [hc, if_pos (by omega)]
       rcases zcj hx (show x.length - 1 < x.length by omega) with h1 | h1
       · exact h1
       · omega
     · rw [hc, if_neg (by omega), if_neg (by omega), show x.length + 1 - x.length - 1 = 0 by omega]
       exact hy 0 hyp
def zcs:List (List UInt8):=[[65],[69,82,73,75,83,83,79,78],[77,65,82,73,65],[68,69],[76,79,83],[79,75],[86,65,78,68,69,82,86,65,76,75],[90,90]]
theorem words_ok (j : Nat) (hj : j < 8) : allL (zcs.getD j []) ∧ zcs.getD j [] ≠ [] ∧ (zcs.getD j []).length ≤ 10 := by
 have:∀j:_root_.Fin 8,allL (zcs.getD j.val [])∧zcs.getD j.val []≠[]∧(zcs.getD j.val []).length≤10:=by unfold allL;decide
 exact this ⟨j,hj⟩
def zeb:Array Value:=(zcs.map fun x=>Value.string (S x)).toArray
theorem word_cell (j : Nat) (hj : j < 8) : zeb[j]? = some (.string (S (zcs.getD j []))) := by
 have h:j < zcs.length:=hj
 simp [zeb,h]
def NameIs (w:World) (D most:Nat) (e:Ending) (w':World):Prop:=∃x:List UInt8,e=.returned (.string (S x))∧zaO x=true∧x.length≤11*most∧w.grownBy w' (some D)∧DiceOk w' D
def MRel (w:World) (D g:Nat) (x:List UInt8) (k:Nat) (wr:World):Prop:=zaO x=true∧x.length≤11*k∧w.grownBy wr (some D)∧DiceOk wr D∧wr.heap[g]? = some (.cells zeb 115 (0,0))∧D < g
set_option maxRecDepth 40000 in
set_option maxHeartbeats 2000000 in
theorem dice_name (D most : Nat) (w : World) (hm : most ≤ 1000) (h : DiceOk w D) :
 Calls Tryz.prog 40 #[.pointer (some ⟨D,0,none⟩),.int .i64 (most:Int)] w (NameIs w D most):=by
 have hDw:=h.lt
 have HD:=Lib.hid h
 clear h
 go_enter Tryz.func40,Tryz.ntmps40
 go_wp2_with fail
 obtain ⟨W,hW⟩ : ∃W,W=w.alloc (.cells zeb 115):=⟨_,rfl⟩
 have hW2:w.alloc (.cells #[.string ⟨#[65]⟩,.string ⟨#[69,82,73,75,83,83,79,78]⟩,.string ⟨#[77,65,82,73,65]⟩,.string ⟨#[68,69]⟩,.string ⟨#[76,79,83]⟩,.string ⟨#[79,75]⟩,.string ⟨#[86,65,78,68,69,82,86,65,76,75]⟩,.string ⟨#[90,90]⟩] 115)=W:=hW.symm
 rw [hW2]
 have hrow:W.heap[w.heap.size]? = some (.cells zeb 115 (0,0)):=by rw [hW];exact heap_alloc_new w _
 have hgW:w.grownBy W (some D):=by rw [hW];exact zaB w _ _
 have hdW:DiceOk W D:=HD.out.below (by rw [hW];exact (Below.refl _ _).alloc (Nat.le_refl _) _)
 obtain ⟨g,hg⟩ : ∃g,g=w.heap.size:=⟨_,rfl⟩
 rw [←hg] at hrow ⊢
 have hDg:D < g:=by omega
 clear hW hW2 hg
 have hN:=zar D (most+1) W (by omega) (by omega) hdW
 rw [show ((most+1:Nat):Int)=(most:Int)+1 by omega] at hN
 refine hN.mono ?_
 rintro e w1 ⟨r,hr,rfl,hg1,hd1⟩
 have hrow1:w1.heap[g]? = some (.cells zeb 115 (0,0)):=(hg1.block g (lt_of_block hrow) (by intro e;injection e with e;omega)).trans hrow
 have H1:=Lib.hid (show MRel w D g [] 0 w1 from ⟨by decide,by simp,zae hgW hg1,hd1,hrow1,hDg⟩)
 clear hN hg1 hd1 hrow1 hrow hgW hdW hDg
 go_wp2_with fail
 go_loopw [6,7] (fun s i wr=>∃(k:Nat) (x:List UInt8) (b:ByteArray),k≤r∧i=.int .i64 ((r:Int) - (k:Int))∧s=.string b∧Hid (b=S x)∧Hid (MRel w D g x k wr)) (fun _ i _=>(intOf i).toNat)
 case atStart=>exact ⟨0,[],⟨#[]⟩,Nat.zero_le _,by go_num,rfl,Lib.hid rfl,H1⟩
 case round =>
  clear H1
  obtain ⟨k,x,b,hk,rfl,rfl,HB,HM⟩:=hrel
  by_cases hlt:k < r
  · have d1 : decide ((0 : Int) < (r : Int) - (k : Int)) = true := by simp; omega
    have HN:=Lib.hid (zar D 8 wr (by decide) (by decide) HM.out.2.2.2.1)
    have hbs:b.size≤11000:=by rw [HB.out,zao];have:=HM.out.2.1;omega
    have hstep : ∀ (j : Nat) (w2 : World), j < 8 → wr.grownBy w2 (some D) → DiceOk w2 D → w2.cell? ⟨g, j, none⟩ = some (.string (S (zcs.getD j []))) ∧
     Hid (MRel w D g (if x=[] then zcs.getD j [] else x++[32]++zcs.getD j []) (k+1) w2):=fun j w2 hj hg hd=>by
     obtain ⟨m1,m2,m3,m4,m5,m6⟩:=HM.out
     obtain ⟨v1,v2,v3⟩:=words_ok j hj
     have hrow2:w2.heap[g]? = some (.cells zeb 115 (0,0)):=(hg.block g (lt_of_block m5) (by intro e;injection e with e;omega)).trans m5
     refine ⟨(cell_of_row w2 g j _ _ _ hrow2).trans (word_cell j hj),Lib.hid ⟨?_,?_,zae m3 hg,hd,hrow2,m6⟩⟩
     · split
       · exact name_word v1
       · rename_i h;exact name_more m1 h v1 v2
     · split
       · omega
       · rw [List.length_append,List.length_append];simp only [List.length_cons,List.length_nil];omega
    by_cases hx0:x=[]
    · have hem := zfE HB.out hx0
      have HX:=Lib.hid hx0
      clear hx0
      go_wp2_with fail
      refine HN.out.mono ?_
      rintro e w2 ⟨j,hj,rfl,hg,hd⟩
      obtain ⟨c,hM⟩:=hstep j w2 hj hg hd
      rw [if_pos HX.out] at hM
      obtain ⟨v,hv⟩ : ∃v,S (zcs.getD j [])=v:=⟨_,rfl⟩
      have hv10:v.size≤10:=by rw [←hv,zao];exact (words_ok j hj).2.2
      rw [hv] at c
      have HV:=Lib.hid hv
      have hbv:Hid (b++v=S (zcs.getD j [])):=Lib.hid (by rw [HB.out,HX.out,←hv];exact zaz [] _)
      clear hstep hg hd hv HN
      have j8:(j:Int) < 8:=by omega
      go_wp2_with fail
      go_roundw
      case rel=>exact ⟨k+1,_,_,by omega,by go_num,rfl,hbv,hM⟩
      case measure=>simp [intOf];omega
    · have hem := s_ne HB.out hx0
      have HX:=Lib.hid hx0
      clear hx0
      go_wp2_with fail
      refine HN.out.mono ?_
      rintro e w2 ⟨j,hj,rfl,hg,hd⟩
      obtain ⟨c,hM⟩:=hstep j w2 hj hg hd
      rw [if_neg HX.out] at hM
      obtain ⟨v,hv⟩ : ∃v,S (zcs.getD j [])=v:=⟨_,rfl⟩
      have hv10:v.size≤10:=by rw [←hv,zao];exact (words_ok j hj).2.2
      rw [hv] at c
      have HV:=Lib.hid hv
      have hbv : Hid (b ++ ⟨#[32]⟩ ++ v = S (x ++ [32] ++ zcs.getD j [])) := Lib.hid (by
       rw [HB.out,←hv]
       show S x++S [32]++S _=_
       rw [zaz,zaz])
      clear hstep hg hd hv HN
      have j8:(j:Int) < 8:=by omega
      go_wp2_with fail
      go_roundw
      case rel=>exact ⟨k+1,_,_,by omega,by go_num,rfl,hbv,hM⟩
      case measure=>simp [intOf];omega
  · obtain rfl : k = r := by omega
    have d1:decide ((0:Int) < (k:Int) - (k:Int))=false:=by simp
    have HF:=Lib.hid (show NameIs w D most (.returned (.string b)) wr from ⟨x,by rw [HB.out],HM.out.1,by have:=HM.out.2.1;omega,HM.out.2.2.1,HM.out.2.2.2.1⟩)
    clear HM
    go_wp2_with fail
    go_ret
    exact HF.out
end Go.Proofs.YtnlhbknajdpnbaaGreatDoor
namespace Go.Proofs.YtnlhbknajdpnbaaGreatDoor
open Go.RowKit
def Dt (n y m d:Int):Prop:=0≤n∧n≤73048∧1900≤y∧y≤2099∧1≤m∧m≤12∧1≤d∧d≤Cal.dim y m∧Cal.num y m d=n
theorem dt_of (n : Int) (a : 0 ≤ n) (b : n ≤ 73048) : ∃ y m d, Dt n y m d := by
 have h:=Cal.date_ok n a b
 exact ⟨_,_,_,a,b,h⟩
theorem dt_b {n y m d:Int} (h:Dt n y m d):dayB n=true:=dayB_mk h.1 h.2.1
theorem dt_eq {n y m d : Int} (h : Dt n y m d) : pY n = y ∧ pM n = m ∧ pD n = d ∧ pE n = 0 := by
 obtain ⟨h1,h2,h3,h4⟩:=p_yes (dt_b h)
 obtain ⟨a,b,y1,y2,m1,m2,d1,d2,hn⟩:=h
 obtain ⟨e1,e2,e3⟩:=Cal.date_is y1 y2 m1 m2 d1 d2 hn a b
 rw [h1,h2,h3,←e1,←e2,←e3];exact ⟨rfl,rfl,rfl,h4⟩
theorem dt_date {n y m d : Int} (h : Dt n y m d) : zfc y m d = true := by
 obtain ⟨a,b,y1,y2,m1,m2,d1,d2,hn⟩:=h
 exact dateB_mk ⟨y1,y2,m1,m2,d1,d2⟩
end Go.Proofs.YtnlhbknajdpnbaaGreatDoor
namespace Go.Proofs.YtnlhbknajdpnbaaGreatDoor
open Go.RowKit
theorem fL_dt {n y m d : Int} (h : Dt n y m d) : fL n = zdW (y % 100) ++ zdW m ++ zdW d := by
 obtain ⟨a,b,c,_⟩:=dt_eq h
 rw [fL_yes (dt_b h),a,b,c]
theorem ch_S (l:List UInt8) (k:Nat):ch (S l) k=(l.getD k 0).toNat:=by unfold ch;rw [S_data]
theorem f_read {n y m d : Int} (h : Dt n y m d) : rpOk (S (fL n)) = true ∧ pr (S (fL n)) 6 0 = y % 100 ∧ pr (S (fL n)) 6 1 = m ∧ pr (S (fL n)) 6 2 = d := by
 have hl:=fL_dt h
 obtain ⟨_,_,y1,y2,m1,m2,d1,d2,_⟩:=h
 have db:=Cal.dim_bd y m
 have k0:ch (S (fL n)) 0=(dgt (y % 100 / 10)).toNat:=by rw [ch_S,hl];rfl
 have k1:ch (S (fL n)) 1=(dgt (y % 100 % 10)).toNat:=by rw [ch_S,hl];rfl
 have k2:ch (S (fL n)) 2=(dgt (m / 10)).toNat:=by rw [ch_S,hl];rfl
 have k3:ch (S (fL n)) 3=(dgt (m % 10)).toNat:=by rw [ch_S,hl];rfl
 have k4:ch (S (fL n)) 4=(dgt (d / 10)).toNat:=by rw [ch_S,hl];rfl
 have k5:ch (S (fL n)) 5=(dgt (d % 10)).toNat:=by rw [ch_S,hl];rfl
 have v0:=zdT (n:=y % 100 / 10) (by omega) (by omega)
 have v1:=zdT (n:=y % 100 % 10) (by omega) (by omega)
 have v2:=zdT (n:=m / 10) (by omega) (by omega)
 have v3:=zdT (n:=m % 10) (by omega) (by omega)
 have v4:=zdT (n:=d / 10) (by omega) (by omega)
 have v5:=zdT (n:=d % 10) (by omega) (by omega)
 rw [←k0] at v0
 rw [←k1] at v1
 rw [←k2] at v2
 rw [←k3] at v3
 rw [←k4] at v4
 rw [←k5] at v5
 refine ⟨rpOk_yes (by rw [zao,hl];rfl) ?_,?_,?_,?_⟩
 · intro q hq
   have hq':q=0∨q=1∨q=2∨q=3∨q=4∨q=5:=by omega
   unfold dig
   rcases hq' with rfl | rfl | rfl | rfl | rfl | rfl <;> simp <;> omega
 · simp [pr];omega
 · simp [pr];omega
 · simp [pr];omega
theorem ps_in {n y m d f : Int} (h : Dt n y m d) (f1 : 1900 ≤ f) (f2 : f ≤ 2000) (g1 : f ≤ y) (g2 : y < f + 100) : psV (S (fL n)) f = n ∧ psE (S (fL n)) f = 0 := by
 obtain ⟨r1,r2,r3,r4⟩:=f_read h
 have e:fy (y % 100) f=y:=by unfold fy;split <;> omega
 obtain ⟨o1,o2⟩:=of_yes (dt_date h)
 unfold psV psE
 rw [if_pos ⟨⟨f1,f2⟩,r1⟩,if_pos ⟨f1,f2⟩,if_pos r1,r2,r3,r4,e,o1,o2]
 exact ⟨h.2.2.2.2.2.2.2.2,rfl⟩
end Go.Proofs.YtnlhbknajdpnbaaGreatDoor
namespace Go.Proofs.YtnlhbknajdpnbaaGreatDoor
open Go.RowKit Go.Maps
section
variable {z:Zn}
theorem bk_lines (hz : zaY z = 0) : LinesOf z.fm (zgD z) := by
 have h1:=(zeq hz).1
 refine ⟨linesT_len _ _,fun j hj=>?_⟩
 unfold zgD
 rw [zeD _ _ hj,zeA,seg_sum h1 hj]
end
end Go.Proofs.YtnlhbknajdpnbaaGreatDoor
namespace Go.Proofs.YtnlhbknajdpnbaaGreatDoor
open Go.RowKit
def Row8 (w:World) (g:Nat) (l:List UInt8):Prop:=∃rest fr,(fr=(0,0)∨l.length≤fr.1)∧w.heap[g]? = some (.cells (Us l++rest).toArray 5 fr)
section
variable {w w':World} {g:Nat} {l:List UInt8}
theorem Row8.lt (h:Row8 w g l):g < w.heap.size:=by obtain ⟨_,_,_,h⟩:=h;exact lt_of_block h
theorem Row8.cell (h : Row8 w g l) {k : Nat} (hk : k < l.length) : w.cell? ⟨g, k, none⟩ = some (.int .u8 (l[k].toNat : Int)) := by
 obtain ⟨rest,fr,_,h⟩:=h
 rw [cell_of_row w g k _ _ _ h,List.getElem?_toArray,List.getElem?_append_left (by rw [zat];exact hk),zeT hk]
theorem Row8.free (h : Row8 w g l) {k : Nat} (hk : k < l.length) : w.frozen? ⟨g, k, none⟩ = false := by
 obtain ⟨rest,fr,hf,h⟩:=h
 rcases hf with rfl | hf
 · exact frozen_of_row w g k _ _ h
 · unfold World.frozen?
   rw [h]
   simp
   omega
theorem Row8.set (h : Row8 w g l) {k : Nat} (hk : k < l.length) (c : UInt8) : Row8 (w.setCell ⟨g, k, none⟩ (.int .u8 (c.toNat : Int))) g (l.set k c) := by
 obtain ⟨rest,fr,hf,h⟩:=h
 refine ⟨rest,fr,by rw [List.length_set];exact hf,?_⟩
 rw [Go.Joins.block_setCell h]
 congr 2
 rw [←Us_set]
 simp only [List.setIfInBounds_toArray]
 rw [List.set_append_left _ _ (by rw [zat];exact hk)]
 rfl
theorem Row8.sees (h : Row8 w g l) (p : Nat → Prop) (hp : p g) : SeesP w p (some ⟨g, 0, none⟩) (Us l) :=
 .inr ⟨g,0,rfl,hp,fun j hj=>by rw [zat] at hj;rw [Nat.zero_add,h.cell hj,zeT hj]⟩
theorem Row8.on (h : Row8 w g l) (hb : Below w.heap.size w w') : Row8 w' g l := by
 have hl:=h.lt
 obtain ⟨rest,fr,hf,h⟩:=h
 exact ⟨rest,fr,hf,(hb.block g hl).trans h⟩
theorem Row8.far {p : Addr} {v : Value} (h : Row8 w g l) (hne : g ≠ p.block) : Row8 (w.setCell p v) g l := by
 obtain ⟨rest,fr,hf,h⟩:=h
 exact ⟨rest,fr,hf,(Below.heap_setCell w p v g hne).trans h⟩
theorem Row8.of_own {base n : Nat} {v : Value} (h : w.ownsRow base 5 1 v n (Us l)) (h1 : 1 ≤ n) : ∃ g cap, v = .slice (some ⟨g, 0, none⟩) n cap ∧ n ≤ cap ∧ base ≤ g ∧ Row8 w g l := by
 rcases h.2 with ⟨_,h0⟩ | ⟨g,cap,cur,e,hb,hh,hn,hmx,hs,ht⟩
 · omega
 · refine ⟨g, cap, e, hn, hb, cur.toList.drop (n * 1), (0, 0), .inl rfl, ?_⟩
   rw [←ht,List.take_append_drop]
   exact hh
end
end Go.Proofs.YtnlhbknajdpnbaaGreatDoor
namespace Go.Proofs.YtnlhbknajdpnbaaGreatDoor
open Go.RowKit Go.Maps
theorem getD_set {α : Type} (ls : List α) (d : α) {i : Nat} (y : α) (hi : i < ls.length) (j : Nat) : (ls.set i y).getD j d = if j = i then y else ls.getD j d := by
 simp only [List.getD_eq_getElem?_getD,List.getElem?_set]
 by_cases e:i=j
 · subst e;rw [if_pos rfl,if_pos hi,if_pos rfl];rfl
 · rw [if_neg e,if_neg (fun h=>e h.symm)]
section
variable {z:Zn}
theorem vE_mk (h1 : 1 ≤ z.fm ∧ z.fm ≤ 3) (h2 : zbw z.kd 2 = true) (h3 : zbw z.st 3 = true) (h4 : z.su ≠ [] ∧ zaO z.su = true) (h5 : zaO z.gi = true) (h6 : z.nu ≠ [] ∧ zbL z.nu = true) (h7 : z.nu.length ≤ maxN z.fm) (h8 : zbw z.na 3 = true) (h9 : zbO z.bi = true)
 (h10:sexB z.sx=true) (h11:expB z.ex=true) (h12:zaN z.op=true) (h13:zaN z.se=true) (h14:¬(z.se≠[]∧z.fm≠1)) (h15:zdo z≤optN z.fm∧z.se.length≤11):zaY z=0:=by
 have e1 : vE1 z = true := by
  unfold vE1
  simp only [Bool.and_eq_true,decide_eq_true_eq]
  exact ⟨h1,h2,h3,h4.2,h4.1,h5,h6.1,h6.2⟩
 unfold zaY
 rw [if_neg (by rw [e1];decide),if_neg (by omega),if_neg (by rw [h8];decide),if_neg (by rw [h9];decide),if_neg (by rw [h10];decide),if_neg (by rw [h11];decide),if_neg (by rw [h12,h13];simpa using h14),if_neg (by omega)]
end
end Go.Proofs.YtnlhbknajdpnbaaGreatDoor
namespace Go.Proofs.YtnlhbknajdpnbaaGreatDoor
open Go.RowKit Go.Maps
def OneIs_Zpm (w:World) (D:Nat) (e:Ending) (w':World):Prop:=∃q:Bool,e=.returned (.bool q)∧w.grownBy w' (some D)∧DiceOk w' D
theorem dice_one_Zpm (D n : Nat) (w : World) (hn : 0 < n) (hn2 : n ≤ 4611686018427387903) (h : DiceOk w D) :
 Calls Tryz.prog 41 #[.pointer (some ⟨D,0,none⟩),.int .i64 (n:Int)] w (OneIs_Zpm w D):=by
 have HN:=Lib.hid (zar D n w hn hn2 h)
 clear h
 go_enter Tryz.func41,Tryz.ntmps41
 go_wp2_with fail
 refine HN.out.mono ?_
 rintro e w1 ⟨r,hr,rfl,hg,hd⟩
 have HF:=Lib.hid (show _∧_ from ⟨hg,hd⟩)
 clear hg hd
 go_wp2_with fail
 go_ret
 exact ⟨_,rfl,HF.out.1,HF.out.2⟩
theorem zbx (D n : Nat) (m : Int) (w : World) (hm : (n : Int) = m) (hn : 0 < n) (hn2 : n ≤ 1000000) (h : DiceOk w D) :
 Calls Tryz.prog 8 #[.pointer (some ⟨D,0,none⟩),.int .i64 m] w (zbj w D n):=by
 subst hm;exact zar D n w hn (by omega) h
theorem zcN (D n : Nat) (m : Int) (w : World) (hm : (n : Int) = m) (hn : 0 < n) (hn2 : n ≤ 1000000) (h : DiceOk w D) :
 Calls Tryz.prog 41 #[.pointer (some ⟨D,0,none⟩),.int .i64 m] w (OneIs_Zpm w D):=by
 subst hm;exact dice_one_Zpm D n w hn (by omega) h
theorem zfW (D n : Nat) (m : Int) (w : World) (hm : (n : Int) = m) (hn2 : n ≤ 1000) (h : DiceOk w D) :
 Calls Tryz.prog 40 #[.pointer (some ⟨D,0,none⟩),.int .i64 m] w (NameIs w D n):=by
 subst hm;exact dice_name D n w hn2 h
theorem zdk (D n : Nat) (m : Int) (w : World) (hm : (n : Int) = m) (hn : 1 ≤ n) (hn2 : n ≤ 1000) (h : DiceOk w D) :
 Calls Tryz.prog 42 #[.pointer (some ⟨D,0,none⟩),.int .i64 m] w (SignsIs w D n):=by
 subst hm;exact zgu D n w hn2 hn h
theorem dice_day (D : Nat) (w : World) (h : DiceOk w D) :
 Calls Tryz.prog 44 #[.pointer (some ⟨D,0,none⟩)] w (zbj w D 72900):=by
 have HN:=Lib.hid (zbx D 243 243 w rfl (by decide) (by decide) h)
 clear h
 go_enter Tryz.func44,Tryz.ntmps44
 go_wp2_with fail
 refine HN.out.mono ?_
 rintro e w1 ⟨r,hr,rfl,hg,hd⟩
 have HF:=Lib.hid hg
 have HN2:=Lib.hid (zbx D 300 300 w1 rfl (by decide) (by decide) hd)
 clear hg hd HN
 go_wp2_with fail
 refine HN2.out.mono ?_
 rintro e w2 ⟨q,hq,rfl,hg,hd⟩
 have HF2:=Lib.hid (show _∧_ from ⟨zae HF.out hg,hd⟩)
 clear hg hd HN2 HF
 go_wp2_with fail
 go_ret
 exact ⟨r*300+q,by omega,by go_num,HF2.out.1,HF2.out.2⟩
theorem zel {x : List UInt8} (h : ∀ c ∈ x, sgnB c = true) : zaC x = true ∧ noFill x = true := by
 refine ⟨?_,?_⟩
 · unfold zaC
   rw [List.all_eq_true]
   intro c hc
   have:=of_decide_eq_true (h c hc)
   rw [decide_eq_true_eq]
   rcases this with h1 | h1
   · rw [vI_1 (by omega) (by omega)];omega
   · rw [vI_2 (by omega) (by omega)];omega
 · unfold noFill
   rw [decide_eq_true_eq]
   intro i hi e
   rw [zcw hi] at e
   have:=of_decide_eq_true (h _ (List.getElem_mem hi))
   omega
theorem sgn_num {x : List UInt8} (h : ∀ c ∈ x, sgnB c = true) : zbL x = true := by
 unfold zbL
 rw [(zel h).1,(zel h).2];rfl
theorem sgn_extra {x : List UInt8} (h : ∀ c ∈ x, sgnB c = true) : zaN x = true := by
 unfold zaN
 rw [(zel h).1,Bool.true_and,decide_eq_true_eq]
 rcases hx:x with _ | ⟨a,r⟩
 · exact .inl rfl
 · rw [← hx]
   have hf:=of_decide_eq_true (zel h).2
   exact .inr ⟨hf 0 (by rw [hx];simp),hf (x.length - 1) (by rw [hx];simp)⟩
theorem day_text {n : Nat} (hn : n < 72900) : zbO (fL (n : Int)) = true ∧ (fL (n : Int)).length = 6 := by
 obtain ⟨y,m,d,h⟩:=dt_of (n:Int) (by omega) (by omega)
 obtain ⟨r1,r2,r3,r4⟩:=f_read h
 obtain ⟨h1,h2,h3,h4,h5,h6,h7,h8,h9⟩:=h
 have hb:=Cal.dim_bd y m
 have hs : (fL (n : Int)).length = 6 := by
  have:=of_decide_eq_true ((Bool.and_eq_true _ _).mp r1).1
  rwa [zao] at this
 refine ⟨?_,hs⟩
 have hd : ∀ j, j < 6 → 48 ≤ cB (fL (n : Int)) j ∧ cB (fL (n : Int)) j ≤ 57 := fun j hj => by
  have:=((Bool.and_eq_true _ _).mp r1).2
  rw [List.all_eq_true] at this
  have h0:=dig_bd (this j (List.mem_range.2 hj))
  rw [ch_S] at h0
  unfold cB;omega
 have hp : ∀ j, j < 3 → zcA (fL (n : Int)) (2 * j) = pr (S (fL (n : Int))) 6 j := fun j hj => by
  have a:=hd (2*j) (by omega)
  have b:=hd (2*j+1) (by omega)
  unfold zcA pr
  rw [if_neg (by omega),if_neg (by omega),if_neg (by omega),if_neg (by omega),ch_S,ch_S]
  unfold cB
  omega
 have p0:=hp 0 (by decide)
 have p1:=hp 1 (by decide)
 have p2:=hp 2 (by decide)
 rw [r2] at p0
 rw [r3] at p1
 rw [r4] at p2
 unfold zbO
 simp only [Bool.and_eq_true,decide_eq_true_eq]
 have e0:zcA (fL (n:Int)) 0=y % 100:=p0
 have e1:zcA (fL (n:Int)) 2=m:=p1
 have e2:zcA (fL (n:Int)) 4=d:=p2
 rw [e0,e1,e2]
 refine ⟨hs,by omega,.inr ⟨h5,h6⟩,.inr ⟨h7,by omega⟩⟩
theorem exp_text {n : Nat} (hn : n < 36000) : expB (fL (36524 + (n : Int))) = true ∧ (fL (36524 + (n : Int))).length = 6 := by
 obtain ⟨y,m,d,h⟩:=dt_of (36524+(n:Int)) (by omega) (by omega)
 have r1:=(f_read h).1
 have hs : (fL (36524 + (n : Int))).length = 6 := by
  have:=of_decide_eq_true ((Bool.and_eq_true _ _).mp r1).1
  rwa [zao] at this
 have hy : 2000 ≤ y := by
  obtain ⟨h1,h2,h3,h4,h5,h6,h7,h8,h9⟩:=h
  refine Classical.byContradiction fun hc=>?_
  have a1:=Cal.ys_mono y 2000 h3 (by omega)
  have a2:Cal.ys 2000=36524:=by decide
  have a3:=Cal.cum_succ y m h5 h6
  have a4 : Cal.cum y (m + 1) ≤ 365 + Cal.lp y := by
   rcases Int.lt_or_eq_of_le h6 with q | q
   · have := Cal.cum_lt y (m + 1) 13 (by omega) (by omega) (by decide)
     rw [Cal.cum_end] at this;omega
   · rw [q]
     show Cal.cum y 13≤_
     rw [Cal.cum_end];omega
  have a5:=Cal.ys_succ y h3 (by omega)
  have a6 : Cal.ys (y + 1) ≤ 36524 := by
   rcases Int.lt_or_eq_of_le (show y+1≤2000 by omega) with q | q
   · have:=Cal.ys_mono (y+1) 2000 (by omega) q;omega
   · rw [q,a2];omega
  unfold Cal.num at h9
  omega
 refine ⟨?_,hs⟩
 unfold expB
 rw [decide_eq_true_eq]
 have h4:=h.2.2.2.1
 exact (ps_in h (by decide) (by decide) hy (by omega)).2
def kindsL:List (List UInt8):=[[80],[73,68],[86],[65,67]]
def zeJ:List (List UInt8):=[[85,84,79],[68],[88,88],[65,66,67]]
def birthsL:List (List UInt8):=[[60,60,60,60,60,60],[56,53,60,60,60,60],[56,53,49,50,60,60],[60,60,48,49,51,49],[48,48,48,50,60,60]]
def sexesL:List (List UInt8):=[[77],[70],[60]]
def rowS (l:List (List UInt8)):Array Value:=(l.map fun x=>Value.string (S x)).toArray
theorem rowS_cell (l:List (List UInt8)) (j:Nat) (hj:j < l.length):(rowS l)[j]? = some (.string (S (l.getD j []))):=by simp [rowS,hj]
theorem kinds_ok (j : Nat) (hj : j < 4) : zbw (kindsL.getD j []) 2 = true := by
 have:∀j:_root_.Fin 4,zbw (kindsL.getD j.val []) 2=true:=by decide
 exact this ⟨j,hj⟩
theorem states_ok (j : Nat) (hj : j < 4) : zbw (zeJ.getD j []) 3 = true := by
 have:∀j:_root_.Fin 4,zbw (zeJ.getD j.val []) 3=true:=by decide
 exact this ⟨j,hj⟩
theorem births_ok (j : Nat) (hj : j < 5) : zbO (birthsL.getD j []) = true := by
 have:∀j:_root_.Fin 5,zbO (birthsL.getD j.val [])=true:=by decide
 exact this ⟨j,hj⟩
theorem sexes_ok (j : Nat) (hj : j < 3) : sexB (sexesL.getD j []) = true := by
 have:∀j:_root_.Fin 3,sexB (sexesL.getD j.val [])=true:=by decide
 exact this ⟨j,hj⟩
structure Mk2 (w : World) (D : Nat) (cur : World) (g2 g3 : Nat) (us : List Value) : Prop where
 gr:w.grownBy cur (some D)
 dk:DiceOk cur D
 dl:D < w.heap.size
 h2:w.heap.size≤g2
 h3:w.heap.size≤g3
 ne:g2≠g3
 r2:RowV cur g2 zon0
 r3:RowV cur g3 us
section
variable {w cur cur':World} {D g2 g3:Nat} {us us':List Value}
theorem RowV.grown {w w':World} {g:Nat} {vs:List Value} {row:Option Nat} (h:RowV w g vs) (hg:w.grownBy w' row) (hne:row≠some g):RowV w' g vs:=h.same (hg.block g h.lt (fun e=>hne e.symm))
theorem Mk2.dice (h : Mk2 w D cur g2 g3 us) (hg : cur.grownBy cur' (some D)) (hd : DiceOk cur' D) : Mk2 w D cur' g2 g3 us :=
 ⟨zae h.gr hg,hd,h.dl,h.h2,h.h3,h.ne,h.r2.grown hg (by intro e;injection e with e;have:=h.h2;have:=h.dl;omega),h.r3.grown hg (by intro e;injection e with e;have:=h.h3;have:=h.dl;omega)⟩
theorem Mk2.bl (h : Mk2 w D cur g2 g3 us) (hb : Below cur.heap.size cur cur') : Mk2 w D cur' g2 g3 us :=
 ⟨zaF (row:=none) h.gr (zaD hb) (fun g e=>by cases e),h.dk.below hb,h.dl,h.h2,h.h3,h.ne,h.r2.on hb,h.r3.on hb⟩
theorem Mk2.alloc (h:Mk2 w D cur g2 g3 us) (o:Obj):Mk2 w D (cur.alloc o) g2 g3 us:=h.bl ((Below.refl _ _).alloc (Nat.le_refl _) o)
theorem zdI {a b:World} {g:Nat} (h:Wr a b g):a.grownBy b (some g):=⟨h.1,h.2.1,h.2.2.1,Nat.le_of_eq h.2.2.2.1.symm,fun k hk hne=>h.2.2.2.2 k (fun e=>hne (by rw [e]))⟩
theorem Mk2.put (h : Mk2 w D cur g2 g3 us) (hw : Wr cur cur' g3) (hr : RowV cur' g3 us') : Mk2 w D cur' g2 g3 us' :=
 ⟨zaF h.gr (zdI hw) (fun g e=>by injection e with e;have:=h.h3;omega),h.dk.grown (zdI hw) (fun g e=>by injection e with e;have:=h.h3;have:=h.dl;omega),h.dl,h.h2,h.h3,h.ne,h.r2.wr hw h.ne,hr⟩
theorem Mk2.res (h : Mk2 w D cur g2 g3 us) (hw : Wr cur cur' g2) : w.grownBy cur' (some D) ∧ DiceOk cur' D :=
 ⟨zaF h.gr (zdI hw) (fun g e=>by injection e with e;have:=h.h2;omega),h.dk.grown (zdI hw) (fun g e=>by injection e with e;have:=h.h2;have:=h.dl;omega)⟩
theorem Mk2.start {w w1 w2 w3 w4 : World} {D g2 g3 : Nat} {vs : List Value} (h : DiceOk w D) (hf : Fresh w w1 g2) (hr : RowV w1 g2 zon0) (hg : w1.grownBy w2 (some D)) (hd : DiceOk w2 D) (hf3 : Fresh w2 w3 g3) (hw : Wr w3 w4 g3) (hr4 : RowV w4 g3 vs) : Mk2 w D w4 g2 g3 vs := by
 have hl:=h.lt
 have e2:g2=w.heap.size:=hf.1
 have hs:=hr.lt
 have hs1:=hf.bw.size
 have hs2:=hg.size
 have e3:g3=w2.heap.size:=hf3.1
 have hgr:w.grownBy w2 (some D):=zae (zaF (row:=none) (World.grownBy.refl _ _) (zaD hf.bw) (fun g e=>by cases e)) hg
 have r2:RowV w2 g2 zon0:=hr.grown hg (by intro e;injection e with e;omega)
 have b3:Below w2.heap.size w2 w3:=hf3.bw
 refine ⟨zaF (zaF (row:=none) hgr (zaD b3) (fun g e=>by cases e)) (zdI hw) (fun g e=>by injection e with e;omega),(hd.below b3).grown (zdI hw) (fun g e=>by injection e with e;omega),hl,by omega,by omega,by omega,(r2.on b3).wr hw (by omega),hr4⟩
theorem Mk2.pick {l : List (List UInt8)} {t : TypeId} {w1 : World} (h : Mk2 w D cur g2 g3 us) (hg : (cur.alloc (.cells (rowS l) t)).grownBy w1 (some D)) (hd : DiceOk w1 D) {j : Nat} (hj : j < l.length) :
 Mk2 w D w1 g2 g3 us∧w1.cell? ⟨cur.heap.size,j,none⟩=some (.string (S (l.getD j []))):=by
 refine ⟨(h.alloc _).dice hg hd,?_⟩
 have hrow:(cur.alloc (.cells (rowS l) t)).heap[cur.heap.size]? = some (.cells (rowS l) t (0,0)):=heap_alloc_new cur _
 have hrow1 : w1.heap[cur.heap.size]? = some (.cells (rowS l) t (0, 0)) := (hg.block _ (lt_of_block hrow) (by
  intro e;injection e with e
  have:=h.dl
  have:=h.gr.size
  omega)).trans hrow
 exact (cell_of_row w1 _ j _ _ _ hrow1).trans (rowS_cell l j hj)
end
theorem opt_cases {f : Int} (hf : 1 ≤ f ∧ f ≤ 3) : optN f = 15 ∧ f = 1 ∨ optN f = 7 ∧ f = 2 ∨ optN f = 14 ∧ f = 3 := by
 have h:f=1∨f=2∨f=3:=by omega
 rcases h with rfl | rfl | rfl <;> decide
theorem ix_opt {f : Int} (hf : 1 ≤ f ∧ f ≤ 3) : ∀ w, (Instr.index 81 (.agg #[.int .i64 0, .int .i64 15, .int .i64 7, .int .i64 14]) (.int .i64 f)).run Tryz.prog w = .ok (.int .i64 ((optN f : Nat) : Int)) w := by
 have h:f=1∨f=2∨f=3:=by omega
 intro w
 rcases h with rfl | rfl | rfl <;> kernel_rfl
end Go.Proofs.YtnlhbknajdpnbaaGreatDoor
