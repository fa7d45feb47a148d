/-
  What is proved here: the first error of files, of applications, of all of them, by the reference.
-/
import Derived.Test.YtkdlfbggddllhaaP15
set_option linter.unusedVariables false
set_option linter.unusedSimpArgs false
namespace Go.Proofs.Ytkdlfbggddllhaa
open Go.RowKit
set_option maxRecDepth 8000
theorem zax:(Try.prog.info? 54).map (·.zero)=some (some (.agg (cnV 0 0).toArray)):=by kernel_rfl
theorem zaH (a b : Int) : ∀ u ∈ cnV a b, u.oneCell' = true := by
 intro u hu
 simp only [cnV,List.mem_cons,List.not_mem_nil,or_false] at hu
 rcases hu with rfl | rfl <;> rfl
def RBad (x : Fw) : Prop := decide (x.id < 1) = true ∨ (decide (x.id < 1) = false ∧ decide (65535 < x.id) = true) ∨ (decide (x.id < 1) = false ∧ decide (65535 < x.id) = false ∧ decide (x.sh < 0) = true) ∨ (decide (x.id < 1) = false ∧ decide (65535 < x.id) = false ∧ decide (x.sh < 0) = false ∧ decide (30 < x.sh) = true) ∨
 (decide (x.id < 1) = false ∧ decide (65535 < x.id) = false ∧ decide (x.sh < 0) = false ∧ decide (30 < x.sh) = false ∧ (decide (x.lv < 0) = true ∨ (decide (x.lv < 0) = false ∧ decide (4 < x.lv) = true) ∨ (decide (x.lv < 0) = false ∧ decide (4 < x.lv) = false ∧ decide (x.rt < 0) = true) ∨ (decide (x.lv < 0) = false ∧ decide (4 < x.lv) = false ∧ decide (x.rt < 0) = false ∧ decide (15 < x.rt) = true) ∨
  (decide (x.lv < 0)=false∧decide (4 < x.lv)=false∧decide (x.rt < 0)=false∧decide (15 < x.rt)=false∧(x.lv != 3)=true∧(x.rt != 0)=true)))
def RGood (x:Fw):Prop:=(decide (x.id < 1)=false∧decide (65535 < x.id)=false∧decide (x.sh < 0)=false∧decide (30 < x.sh)=false)∧(decide (x.lv < 0)=false∧decide (4 < x.lv)=false∧decide (x.rt < 0)=false∧decide (15 < x.rt)=false)∧((x.lv != 3)=false∨((x.lv != 3)=true∧(x.rt != 0)=false))
theorem rrng_cases (x : Fw) : (RBad x ∧ rngF x = false) ∨ (RGood x ∧ rngF x = true) := by
 unfold RBad RGood rngF cndB rgB
 by_cases h1:x.id < 1
 · left
   have e:¬1≤x.id:=by omega
   exact ⟨.inl (by simpa using h1),by simp [e]⟩
 by_cases h2:65535 < x.id
 · left
   have e:¬x.id≤65535:=by omega
   exact ⟨.inr (.inl ⟨by simpa using h1,by simpa using h2⟩),by simp [e]⟩
 by_cases h3:x.sh < 0
 · left
   have e:¬0≤x.sh:=by omega
   exact ⟨.inr (.inr (.inl ⟨by simpa using h1,by simpa using h2,by simpa using h3⟩)),by simp [e]⟩
 by_cases h4:30 < x.sh
 · left
   have e:¬x.sh≤30:=by omega
   exact ⟨.inr (.inr (.inr (.inl ⟨by simpa using h1,by simpa using h2,by simpa using h3,by simpa using h4⟩))),by simp [e]⟩
 have e1:1≤x.id:=by omega
 have e2:x.id≤65535:=by omega
 have e3:0≤x.sh:=by omega
 have e4:x.sh≤30:=by omega
 simp only [h1,h2,h3,h4,e1,e2,e3,e4,decide_true,decide_false,Bool.true_and,Bool.false_eq_true,false_or,true_and,false_and,and_true,Bool.true_eq_false,or_false]
 by_cases h5:x.lv < 0
 · left
   have a:¬0≤x.lv:=by omega
   have b:¬x.lv=3:=by omega
   simp [h5,a,b]
 by_cases h6:4 < x.lv
 · left
   have a:¬x.lv≤4:=by omega
   have b:¬x.lv=3:=by omega
   simp [h5,h6,a,b]
 by_cases h7:x.rt < 0
 · left
   have a:¬0≤x.rt:=by omega
   have b:¬x.rt=0:=by omega
   simp [h5,h6,h7,a,b]
 by_cases h8:15 < x.rt
 · left
   have a:¬x.rt≤15:=by omega
   have b:¬x.rt=0:=by omega
   simp [h5,h6,h7,h8,a,b]
 have f5:0≤x.lv:=by omega
 have f6:x.lv≤4:=by omega
 have f7:0≤x.rt:=by omega
 have f8:x.rt≤15:=by omega
 by_cases h9:x.lv=3
 · right
   simp [h5,h6,h7,h8,f7,f8,h9]
 by_cases h10:x.rt=0
 · right
   simp [h5,h6,h9,h10,f5,f6]
 · left
   simp [h5,h6,h7,h8,h9,h10,f5,f6]
theorem rtak_cases (y x : Fw) : ((x.id == y.id) = true ∧ takB y x = true) ∨ ((x.id == y.id) = false ∧ (y.sh != 0) = false ∧ takB y x = false) ∨ ((x.id == y.id) = false ∧ (y.sh != 0) = true ∧ (x.sh == y.sh) = false ∧ takB y x = false) ∨ ((x.id == y.id) = false ∧ (y.sh != 0) = true ∧ (x.sh == y.sh) = true ∧ takB y x = true) := by
 unfold takB
 by_cases h1:x.id=y.id
 · simp [h1]
 · by_cases h2 : y.sh = 0
   · by_cases h3:x.sh=0 <;> simp [h1,h2,h3]
   · by_cases h3 : x.sh = y.sh
     · have : ¬ x.sh = 0 := by omega
       simp [h1,h2,h3]
     · simp [h1,h2,h3]
theorem any_upto {α : Type} {f : α → Bool} {L : List α} {j : Nat} (h : ∀ (k : Nat) (x : α), k < j → L[k]? = some x → f x = false) : (L.take j).any f = false := by
 rw [List.any_eq_false]
 intro x hx
 obtain ⟨i,hi,rfl⟩:=List.getElem_of_mem hx
 rw [List.length_take] at hi
 have := h i ((L.take j)[i]'(by rw [List.length_take]; exact hi)) (by omega) (by
  rw [List.getElem_take]
  exact List.getElem?_eq_getElem (by omega))
 simpa using this
theorem any_hit {α : Type} {f : α → Bool} {L : List α} {j k : Nat} {x : α} (hk : k < j) (h : L[k]? = some x) (hf : f x = true) : (L.take j).any f = true := by
 rw [List.any_eq_true]
 refine ⟨x,?_,hf⟩
 have:(L.take j)[k]? = some x:=by rw [List.getElem?_take,if_pos hk,h]
 exact List.mem_of_getElem? this
theorem one_bad {L:List Fw} {x:Fw} (h:rngF x=false):oneF L x=3:=by unfold oneF;rw [if_pos h]
theorem one_big {L:List Fw} {x:Fw} (h:rngF x=true) (h2:4096 < x.d.length):oneF L x=2:=by unfold oneF;rw [if_neg (by rw [h];decide),if_pos h2]
theorem one_tak {L:List Fw} {x:Fw} (h:rngF x=true) (h2:¬4096 < x.d.length) (h3:L.any (takB x)=true):oneF L x=15:=by unfold oneF;rw [if_neg (by rw [h];decide),if_neg h2,if_pos h3]
theorem one_ok {L:List Fw} {x:Fw} (h:rngF x=true) (h2:¬4096 < x.d.length) (h3:L.any (takB x)=false):oneF L x=0:=by unfold oneF;rw [if_neg (by rw [h];decide),if_neg h2,if_neg (by rw [h3];decide)]
set_option maxHeartbeats 12800000 in
set_option maxRecDepth 20000 in
theorem r_list17 (L : List Fw) (n : Nat) (hn : L.length = n) (A : Option Addr) (c : Nat) (w : World) (hs : SeesU w (· < w.heap.size) A c L) :
 Calls Try.prog 49 #[.slice A n c] w fun e w'=>e=.returned (.int .i64 (lisE L))∧Below w.heap.size w w':=by
 by_cases h24:24 < n
 · have d24 : decide ((24 : Int) < (n : Int)) = true := by simp; omega
   rw [lis_big hn h24]
   clear hs hn h24
   go_enter Try.func49,Try.ntmps49
   go_wp2
   go_ret
   exact ⟨rfl,Below.refl _ _⟩
 have d24:decide ((24:Int) < (n:Int))=false:=by simp;omega
 have hn24:n≤24:=by omega
 rw [lis_small hn h24]
 obtain ⟨R,hR⟩ : ∃z,chF (L.take 0) (L.drop 0)=z:=⟨_,rfl⟩
 rw [hR]
 have HS:=Lib.hid (show _∧_∧_ from ⟨hs,hn,hR⟩)
 clear hs hn hR h24
 go_enter Try.func49,Try.ntmps49
 go_wp2
 go_loopw [3] (fun i wr=>∃(j:Nat),j≤n∧i=.int .i64 (j:Int)∧Hid (Below w.heap.size w wr∧chF (L.take j) (L.drop j)=R)) (fun i _=>n - (intOf i).toNat)
 case atStart=>exact ⟨0,by omega,rfl,Lib.hid ⟨Below.refl _ _,HS.out.2.2⟩⟩
 case round =>
  obtain ⟨j,hj,rfl,HQ⟩:=hrel
  by_cases hlt:j < n
  · have dj : decide ((j : Int) < (n : Int)) = true := by simp; omega
    obtain ⟨x,hx⟩ : ∃x,L[j]? = some x:=⟨_,List.getElem?_eq_getElem (by rw [HS.out.2.1];exact hlt)⟩
    obtain ⟨b,off,rfl,hb,hr⟩:=zbt (HS.out.1.on HQ.out.1) hx
    have hst:=(chF_at hx).symm.trans HQ.out.2
    have hcs:=rrng_cases x
    have hfl:=HS.out.1.2.1 x (List.mem_of_getElem? hx)
    obtain ⟨us,hus⟩ : ∃us,x.cs=us:=⟨_,rfl⟩
    obtain ⟨dl,hdl⟩ : ∃z,x.d.length=z:=⟨_,rfl⟩
    have hu:us.length=5∧us[0]? = some (.int .i64 x.id)∧us[1]? = some (.int .i64 x.sh)∧us[2]? = some (.slice x.A dl x.c)∧(us.drop 3).take 2=cnV x.lv x.rt:=by rw [←hus,←hdl];exact ⟨rfl,rfl,rfl,rfl,rfl⟩
    have h1:∀u∈us,u.oneCell'=true:=by rw [←hus];exact Fw.cs_one x
    rw [hus] at hr
    have HU:=Lib.hid (show wr.rangeAt b (off+j*5) us∧us.length=5∧(∀u∈us,u.oneCell'=true) from ⟨hr,hu.1,h1⟩)
    have HX:=Lib.hid (show L[j]? = some x∧x.d.length=dl∧(if oneF (L.take j) x≠0 then oneF (L.take j) x else chF (L.take (j+1)) (L.drop (j+1)))=R from ⟨hx,hdl,hst⟩)
    obtain ⟨xi,hxi⟩ : ∃z,x.id=z:=⟨_,rfl⟩
    obtain ⟨xs,hxs⟩ : ∃z,x.sh=z:=⟨_,rfl⟩
    obtain ⟨lv,hlv⟩ : ∃z,x.lv=z:=⟨_,rfl⟩
    obtain ⟨rt,hrt⟩ : ∃z,x.rt=z:=⟨_,rfl⟩
    have HXI:=Lib.hid (show x.id=xi∧x.sh=xs from ⟨hxi,hxs⟩)
    unfold RBad RGood at hcs
    rw [hxi,hxs,hlv,hrt] at hcs
    rw [hxi,hxs,hlv,hrt] at hu
    have HV:=Lib.hid hu
    have ixk:=fun w=>zbh b off n c j hlt w
    clear hx hb hr hus hst h1 hu hdl hxi hxs hlv hrt hfl
    rcases hcs with ⟨hbad,hv⟩ | ⟨hgood,hv⟩
    · have HN := Lib.hid (show R = 3 from by
       have h:=HX.out.2.2
       rw [one_bad hv,if_pos (by decide)] at h
       exact h.symm)
      clear hv
      rcases hbad with h1 | ⟨h1,h2⟩ | ⟨h1,h2,h3⟩ | ⟨h1,h2,h3,h4⟩ | ⟨h1,h2,h3,h4,h5 | ⟨h5,h6⟩ | ⟨h5,h6,h7⟩ | ⟨h5,h6,h7,h8⟩ | ⟨h5,h6,h7,h8,h9,h10⟩⟩
      all_goals
       go_wp2_with (first
        | ((with_reducible refine zac (d:=19) ?_);refine wpList_load_mid rfl 60 (.tmp 18) rfl b (off+j*5) rfl us _ HU.out.1 Try.underlying60 rfl (by rw [HU.out.2.1];exact zar) ?_)
        | ((with_reducible refine zaj (d:=4) ?_);refine zae (op:=⟨some 4,_,_,_,_,_⟩) rfl 60 rfl zerF.cs zaA ?_;intro g4 w4 hf hr;have H4:=Lib.hid (show Below w.heap.size w w4∧RowV w4 g4 zerF.cs∧w.heap.size≤g4 from ⟨hf.bl HQ.out.1,hr,hf.ge HQ.out.1⟩);clear hf hr)
        | ((with_reducible refine zai (i:=4) ?_);refine zad rfl 60 (.tmp 4) (.tmp 19) rfl g4 zerF.cs us rfl rfl H4.out.2.1 HU.out.2.1 HU.out.2.2 (by rw [HU.out.2.1];exact zar) ?_;intro w5 hw hr;have H5:=Lib.hid (show Below w.heap.size w w5∧RowV w5 g4 us from ⟨Wr.bl H4.out.1 hw H4.out.2.2,hr⟩);clear hw hr)
        | ((with_reducible refine zac (d:=21) ?_);refine wpList_load_mid rfl 54 (.tmp 20) rfl g4 3 rfl (cnV lv rt) _ (by rw [←HV.out.2.2.2.2];exact H5.out.2.range 3 2 (by rw [HU.out.2.1];decide)) Try.underlying54 rfl zan ?_)
        | ((with_reducible refine zaj (d:=5) ?_);refine zae (op:=⟨some 5,_,_,_,_,_⟩) rfl 54 rfl (cnV 0 0) zax ?_;intro g5 w6 hf hr;have H6:=Lib.hid (show Below w.heap.size w w6∧RowV w6 g5 (cnV 0 0)∧w.heap.size≤g5∧RowV w6 g4 us∧g4≠g5 from ⟨hf.bl H5.out.1,hr,hf.ge H5.out.1,H5.out.2.fresh hf,H5.out.2.ne hf⟩);clear hf hr)
        | ((with_reducible refine zai (i:=5) ?_);refine zad rfl 54 (.tmp 5) (.tmp 21) rfl g5 (cnV 0 0) (cnV lv rt) rfl rfl H6.out.2.1 rfl (zaH _ _) zan ?_;intro w7 hw hr;have H7:=Lib.hid (show Below w.heap.size w w7∧RowV w7 g5 (cnV lv rt)∧RowV w7 g4 us from ⟨Wr.bl H6.out.1 hw H6.out.2.2.1,hr,H6.out.2.2.2.1.wr hw H6.out.2.2.2.2⟩);have c0:=(H7.out.2.2.cell 0).trans HV.out.2.1;have c1:=(H7.out.2.2.cell 1).trans HV.out.2.2.1;have a0:w7.cell? ⟨g5,0,none⟩=some (.int .i64 lv):=hr.cell 0;have a1:w7.cell? ⟨g5,1,none⟩=some (.int .i64 rt):=hr.cell 1;clear hw hr))
       go_ret
       exact ⟨by rw [HN.out];rfl,H7.out.1⟩
    obtain ⟨⟨h1,h2,h3,h4⟩,⟨h5,h6,h7,h8⟩,h9⟩:=hgood
    by_cases hbig:4096 < dl
    · have HN := Lib.hid (show R = 2 from by
       have h:=HX.out.2.2
       rw [one_big hv (by rw [HX.out.2.1];exact hbig),if_pos (by decide)] at h
       exact h.symm)
      have dbig:decide ((4096:Int) < (dl:Int))=true:=by simp;omega
      clear hv hbig
      rcases h9 with h9 | ⟨h9,h10⟩
      all_goals
       go_wp2_with (first
        | ((with_reducible refine zac (d:=19) ?_);refine wpList_load_mid rfl 60 (.tmp 18) rfl b (off+j*5) rfl us _ HU.out.1 Try.underlying60 rfl (by rw [HU.out.2.1];exact zar) ?_)
        | ((with_reducible refine zaj (d:=4) ?_);refine zae (op:=⟨some 4,_,_,_,_,_⟩) rfl 60 rfl zerF.cs zaA ?_;intro g4 w4 hf hr;have H4:=Lib.hid (show Below w.heap.size w w4∧RowV w4 g4 zerF.cs∧w.heap.size≤g4 from ⟨hf.bl HQ.out.1,hr,hf.ge HQ.out.1⟩);clear hf hr)
        | ((with_reducible refine zai (i:=4) ?_);refine zad rfl 60 (.tmp 4) (.tmp 19) rfl g4 zerF.cs us rfl rfl H4.out.2.1 HU.out.2.1 HU.out.2.2 (by rw [HU.out.2.1];exact zar) ?_;intro w5 hw hr;have H5:=Lib.hid (show Below w.heap.size w w5∧RowV w5 g4 us from ⟨Wr.bl H4.out.1 hw H4.out.2.2,hr⟩);clear hw hr)
        | ((with_reducible refine zac (d:=21) ?_);refine wpList_load_mid rfl 54 (.tmp 20) rfl g4 3 rfl (cnV lv rt) _ (by rw [←HV.out.2.2.2.2];exact H5.out.2.range 3 2 (by rw [HU.out.2.1];decide)) Try.underlying54 rfl zan ?_)
        | ((with_reducible refine zaj (d:=5) ?_);refine zae (op:=⟨some 5,_,_,_,_,_⟩) rfl 54 rfl (cnV 0 0) zax ?_;intro g5 w6 hf hr;have H6:=Lib.hid (show Below w.heap.size w w6∧RowV w6 g5 (cnV 0 0)∧w.heap.size≤g5∧RowV w6 g4 us∧g4≠g5 from ⟨hf.bl H5.out.1,hr,hf.ge H5.out.1,H5.out.2.fresh hf,H5.out.2.ne hf⟩);clear hf hr)
        | ((with_reducible refine zai (i:=5) ?_);refine zad rfl 54 (.tmp 5) (.tmp 21) rfl g5 (cnV 0 0) (cnV lv rt) rfl rfl H6.out.2.1 rfl (zaH _ _) zan ?_;intro w7 hw hr;have H7:=Lib.hid (show Below w.heap.size w w7∧RowV w7 g5 (cnV lv rt)∧RowV w7 g4 us from ⟨Wr.bl H6.out.1 hw H6.out.2.2.1,hr,H6.out.2.2.2.1.wr hw H6.out.2.2.2.2⟩);have c0:=(H7.out.2.2.cell 0).trans HV.out.2.1;have c1:=(H7.out.2.2.cell 1).trans HV.out.2.2.1;have c2:=(H7.out.2.2.cell 2).trans HV.out.2.2.2.1;have a0:w7.cell? ⟨g5,0,none⟩=some (.int .i64 lv):=hr.cell 0;have a1:w7.cell? ⟨g5,1,none⟩=some (.int .i64 rt):=hr.cell 1;clear hw hr))
       go_ret
       exact ⟨by rw [HN.out];rfl,H7.out.1⟩
    have dbig:decide ((4096:Int) < (dl:Int))=false:=by simp;omega
    have HG:=Lib.hid (show rngF x=true∧¬4096 < x.d.length from ⟨hv,by rw [HX.out.2.1];exact hbig⟩)
    clear hv hbig
    have HQo:=HQ
    clear HQ
    rcases h9 with h9 | ⟨h9,h10⟩
    all_goals
     go_wp2_with (first
      | ((with_reducible refine zac (d:=19) ?_);refine wpList_load_mid rfl 60 (.tmp 18) rfl b (off+j*5) rfl us _ HU.out.1 Try.underlying60 rfl (by rw [HU.out.2.1];exact zar) ?_)
      | ((with_reducible refine zaj (d:=4) ?_);refine zae (op:=⟨some 4,_,_,_,_,_⟩) rfl 60 rfl zerF.cs zaA ?_;intro g4 w4 hf hr;have H4:=Lib.hid (show Below w.heap.size w w4∧RowV w4 g4 zerF.cs∧w.heap.size≤g4 from ⟨hf.bl HQo.out.1,hr,hf.ge HQo.out.1⟩);clear hf hr)
      | ((with_reducible refine zai (i:=4) ?_);refine zad rfl 60 (.tmp 4) (.tmp 19) rfl g4 zerF.cs us rfl rfl H4.out.2.1 HU.out.2.1 HU.out.2.2 (by rw [HU.out.2.1];exact zar) ?_;intro w5 hw hr;have H5:=Lib.hid (show Below w.heap.size w w5∧RowV w5 g4 us from ⟨Wr.bl H4.out.1 hw H4.out.2.2,hr⟩);clear hw hr)
      | ((with_reducible refine zac (d:=21) ?_);refine wpList_load_mid rfl 54 (.tmp 20) rfl g4 3 rfl (cnV lv rt) _ (by rw [←HV.out.2.2.2.2];exact H5.out.2.range 3 2 (by rw [HU.out.2.1];decide)) Try.underlying54 rfl zan ?_)
      | ((with_reducible refine zaj (d:=5) ?_);refine zae (op:=⟨some 5,_,_,_,_,_⟩) rfl 54 rfl (cnV 0 0) zax ?_;intro g5 w6 hf hr;have H6:=Lib.hid (show Below w.heap.size w w6∧RowV w6 g5 (cnV 0 0)∧w.heap.size≤g5∧RowV w6 g4 us∧g4≠g5 from ⟨hf.bl H5.out.1,hr,hf.ge H5.out.1,H5.out.2.fresh hf,H5.out.2.ne hf⟩);clear hf hr)
      | ((with_reducible refine zai (i:=5) ?_);refine zad rfl 54 (.tmp 5) (.tmp 21) rfl g5 (cnV 0 0) (cnV lv rt) rfl rfl H6.out.2.1 rfl (zaH _ _) zan ?_;intro w7 hw hr;have H7:=Lib.hid (show Below w.heap.size w w7∧RowV w7 g5 (cnV lv rt)∧RowV w7 g4 us from ⟨Wr.bl H6.out.1 hw H6.out.2.2.1,hr,H6.out.2.2.2.1.wr hw H6.out.2.2.2.2⟩);have c0:=(H7.out.2.2.cell 0).trans HV.out.2.1;have c1:=(H7.out.2.2.cell 1).trans HV.out.2.2.1;have c2:=(H7.out.2.2.cell 2).trans HV.out.2.2.2.1;have a0:w7.cell? ⟨g5,0,none⟩=some (.int .i64 lv):=hr.cell 0;have a1:w7.cell? ⟨g5,1,none⟩=some (.int .i64 rt):=hr.cell 1;clear hw hr))
     clear c0 c1 c2 a0 a1 ixk
     clear HU HQo H4 H5 H6
     clear wr
     go_loopw [6] (fun i wq=>∃(k:Nat),k≤j∧i=.int .i64 (k:Int)∧Hid (Below w.heap.size w wq∧RowV wq g4 us∧∀(q:Nat) (z:Fw),q < k→L[q]? = some z→takB x z=false)) (fun i _=>j - (intOf i).toNat)
     case atStart=>exact ⟨0,by omega,rfl,Lib.hid ⟨H7.out.1,H7.out.2.2,fun q z hq=>by omega⟩⟩
     case round =>
      obtain ⟨k,hk,rfl,HI⟩:=hrel
      by_cases hlk:k < j
      · have dk : decide ((k : Int) < (j : Int)) = true := by simp; omega
        obtain ⟨y,hy⟩ : ∃y,L[k]? = some y:=⟨_,List.getElem?_eq_getElem (by rw [HS.out.2.1];omega)⟩
        obtain ⟨b2,off2,hbb,hb2,hr2⟩:=zbt (HS.out.1.on HI.out.1) hy
        injection hbb with hbb
        injection hbb with hbb hoo
        subst hbb hoo
        have hcs:=rtak_cases x y
        rw [HXI.out.1,HXI.out.2] at hcs
        obtain ⟨yi,hyi⟩ : ∃z,y.id=z:=⟨_,rfl⟩
        obtain ⟨ys,hys⟩ : ∃z,y.sh=z:=⟨_,rfl⟩
        have y0:wr.cell? ⟨b,off+k*5,none⟩=some (.int .i64 yi):=by rw [←hyi];exact hr2 0 _ rfl
        have y1:wr.cell? ⟨b,off+k*5+1,none⟩=some (.int .i64 ys):=by rw [←hys];exact hr2 1 _ rfl
        have c0:=(HI.out.2.1.cell 0).trans HV.out.2.1
        have c1:=(HI.out.2.1.cell 1).trans HV.out.2.2.1
        rw [hyi,hys] at hcs
        have HY:=Lib.hid hy
        have ixk:=fun w=>zbh b off n c k (by omega) w
        obtain ⟨q,hq⟩ : ∃z,takB x y=z:=⟨_,rfl⟩
        have HTQ:=Lib.hid hq
        rw [hq] at hcs
        clear hy hr2 hb2 hyi hys hq
        rcases hcs with ⟨t1,rfl⟩ | ⟨t1,t2,rfl⟩ | ⟨t1,t2,t3,rfl⟩ | ⟨t1,t2,t3,rfl⟩
        · have HN := Lib.hid (show R = 15 from by
           have h:=HX.out.2.2
           rw [one_tak HG.out.1 HG.out.2 (any_hit hlk HY.out HTQ.out),if_pos (by decide)] at h
           exact h.symm)
          go_wp2_with fail
          go_quiet (fail)
          go_wp2
          go_ret
          exact ⟨by rw [HN.out];rfl,zaX HI.out.1 _⟩
        · have HN := Lib.hid (show ∀ (q : Nat) (z : Fw), q < k + 1 → L[q]? = some z → takB x z = false from fun q z hq hz => by
           by_cases e:q=k
           · subst e;rw [HY.out] at hz;injection hz with hz;rw [←hz];exact HTQ.out
           · exact HI.out.2.2 q z (by omega) hz)
          go_wp2_with fail
          go_quiet (fail)
          go_wp2
          go_roundw
          case rel=>exact ⟨k+1,by omega,by first | rfl | go_num,Lib.hid ⟨zaX HI.out.1 _,HI.out.2.1.drewN _,HN.out⟩⟩
          case measure=>simp [intOf];omega
        · have HN := Lib.hid (show ∀ (q : Nat) (z : Fw), q < k + 1 → L[q]? = some z → takB x z = false from fun q z hq hz => by
           by_cases e:q=k
           · subst e;rw [HY.out] at hz;injection hz with hz;rw [←hz];exact HTQ.out
           · exact HI.out.2.2 q z (by omega) hz)
          go_wp2_with fail
          go_quiet (fail)
          go_wp2
          go_roundw
          case rel=>exact ⟨k+1,by omega,by first | rfl | go_num,Lib.hid ⟨zaX HI.out.1 _,HI.out.2.1.drewN _,HN.out⟩⟩
          case measure=>simp [intOf];omega
        · have HN := Lib.hid (show R = 15 from by
           have h:=HX.out.2.2
           rw [one_tak HG.out.1 HG.out.2 (any_hit hlk HY.out HTQ.out),if_pos (by decide)] at h
           exact h.symm)
          go_wp2_with fail
          go_quiet (fail)
          go_wp2
          go_ret
          exact ⟨by rw [HN.out];rfl,zaX HI.out.1 _⟩
      · obtain rfl : k = j := by omega
        have dk:decide ((k:Int) < (k:Int))=false:=by simp
        have HN := Lib.hid (show chF (L.take (k + 1)) (L.drop (k + 1)) = R from by
         have h:=HX.out.2.2
         rw [one_ok HG.out.1 HG.out.2 (any_upto HI.out.2.2),if_neg (by decide)] at h
         exact h)
        go_wp2
        go_roundw
        case rel=>exact ⟨k+1,by omega,by first | rfl | go_num,Lib.hid ⟨HI.out.1,HN.out⟩⟩
        case measure=>simp [intOf];omega
  · obtain rfl : j = n := by omega
    have dj:decide ((j:Int) < (j:Int))=false:=by simp
    have HN := Lib.hid (show R = 0 from by
     have h:=HQ.out.2
     rw [List.drop_of_length_le (by rw [HS.out.2.1];exact Nat.le_refl _)] at h
     exact h.symm)
    have HE:=Lib.hid HQ.out.1
    clear HQ
    go_wp2
    go_ret
    exact ⟨by rw [HN.out];rfl,HE.out⟩
end Go.Proofs.Ytkdlfbggddllhaa
