/-
  What is proved here: the size of a field as the program computes it, the place of a field in a layout.
-/
import Derived.Test.YtnlhbknajdpnbaaGreatDoorF13
import Derived.Test.YtnlhbknajdpnbaaGreatDoorF21
import Derived.Test.YtnlhbknajdpnbaaGreatDoorF19
import Derived.Lib.IndexMore
import Derived.Lib.TrimByte
import Derived.Test.YtnlhbknajdpnbaaGreatDoorF7
import Derived.Test.YtnlhbknajdpnbaaGreatDoorF11
import Derived.Test.YtnlhbknajdpnbaaGreatDoorCards
import Derived.Test.YtnlhbknajdpnbaaGreatDoorTie
import Derived.Test.YtnlhbknajdpnbaaGreatDoorRows
import Derived.ProofKit
import Derived.SizedLaws
import Derived.OpenShut
import Derived.LaidMore
import Derived.Lay
import Derived.SevenTiedAt
import Derived.Stop.Joined
import Derived.Laws.DeepStrings4
set_option linter.unusedVariables false
set_option linter.unusedSimpArgs false
namespace Go.Proofs.YtnlhbknajdpnbaaGreatDoor
open Go.RowKit
theorem plc_ok {f : Int} (h : 1 ≤ f ∧ f ≤ 3) {k : Nat} (hk : k < 15) : (plc f k).1 < cntN f ∧ (plc f k).2.1 ≤ (plc f k).2.2 ∧ (plc f k).2.2 ≤ widN f := by
 have h:f=1∨f=2∨f=3:=by omega
 have hk:k=0∨k=1∨k=2∨k=3∨k=4∨k=5∨k=6∨k=7∨k=8∨k=9∨k=10∨k=11∨k=12∨k=13∨k=14:=by omega
 rcases h with rfl | rfl | rfl <;> rcases hk with rfl | rfl | rfl | rfl | rfl | rfl | rfl | rfl | rfl | rfl | rfl | rfl | rfl | rfl | rfl <;> decide
def sizN (f:Int) (k:Nat):Nat:=(plc f k).2.2 - (plc f k).2.1
end Go.Proofs.YtnlhbknajdpnbaaGreatDoor
namespace Go.Proofs.YtnlhbknajdpnbaaGreatDoor
open Go.RowKit
def zco (t:List UInt8) (i:Nat):Prop:=cB t i=60∧cB t (i+1)=60
def goodT (t:List UInt8):Prop:=t≠[]∧cB t 0≠60∧∀i j,i < j→zco t i→zco t j→False
def surL (t:List UInt8):List UInt8:=exL 60 32 (Lib.cut t [60,60]).1
def givL (t:List UInt8):List UInt8:=exL 60 32 (Lib.cut t [60,60]).2.1
theorem zgT {x : List UInt8} {i : Nat} (h : x.length ≤ i) : cB x i = 0 := by
 unfold cB
 rw [List.getD_eq_getElem?_getD,List.getElem?_eq_none h]
 rfl
theorem zcg {x : List UInt8} {i k : Nat} (h : i < k) : cB (x.take k) i = cB x i := by
 unfold cB
 rw [List.getD_eq_getElem?_getD,List.getD_eq_getElem?_getD,List.getElem?_take,if_pos h]
theorem zcJ (x : List UInt8) (i k : Nat) : cB (x.drop k) i = cB x (k + i) := by
 unfold cB
 rw [List.getD_eq_getElem?_getD,List.getD_eq_getElem?_getD,List.getElem?_drop]
theorem zgm {x : List UInt8} {i : Nat} (h : cB x i = 60) : i < x.length := by
 rcases Nat.lt_or_ge i x.length with h1 | h1
 · exact h1
 · rw [zgT h1] at h;cases h
theorem cB_ex (x : List UInt8) (i : Nat) : cB (exL 60 32 x) i = if cB x i = 60 then 32 else cB x i := by
 rcases Nat.lt_or_ge i x.length with h | h
 · have h2 : i < (exL 60 32 x).length := by rw [zah]; exact h
   rw [zcw h2,zcw h]
   simp only [exL,List.getElem_map,exB]
   by_cases e:x[i]=60
   · rw [if_pos e,if_pos (by rw [e];rfl)];rfl
   · rw [if_neg e, if_neg]
     intro e2
     exact e (UInt8.toNat_inj.1 (Int.ofNat_inj.1 e2))
 · rw [zgT (by rw [zah]; exact h), zgT h]
   rfl
theorem occ_pair (t : List UInt8) (i : Nat) : Lib.occAt t [60, 60] i = true ↔ zco t i := by
 constructor
 · intro h
   have h2 : i + 2 ≤ t.length := by
    rcases Lib.occAt_room h with h2 | h2
    · exact h2
    · cases h2
   rw [Lib.occAt_iff_take t [60,60] i h2] at h
   have h3:(t.drop i).take 2=[60,60]:=by simpa using h
   have e0:cB ((t.drop i).take 2) 0=60:=by rw [h3];rfl
   have e1:cB ((t.drop i).take 2) 1=60:=by rw [h3];rfl
   rw [zcg (by omega),zcJ] at e0 e1
   exact ⟨e0,e1⟩
 · intro ⟨h0, h1⟩
   have l1:=zgm h1
   rw [Lib.occAt_iff_take t [60,60] i (by simp;omega)]
   rw [zcw (by omega)] at h0
   rw [zcw l1] at h1
   have e0:t[i]=60:=UInt8.toNat_inj.1 (Int.ofNat_inj.1 h0)
   have e1:t[i+1]=60:=UInt8.toNat_inj.1 (Int.ofNat_inj.1 h1)
   rw [List.drop_eq_getElem_cons (by omega),List.drop_eq_getElem_cons l1,e0,e1]
   rfl
theorem zdE {t : List UInt8} (h : ∀ i, ¬ zco t i) : Lib.cut t [60, 60] = (t, [], false) := by
 unfold Lib.cut
 rw [Lib.index_none (fun j _ => by
  rcases hb:Lib.occAt t [60,60] j with _ | _
  · rfl
  · exact absurd ((occ_pair t j).1 hb) (h j))]
 rfl
theorem zdx {t : List UInt8} {p : Nat} (h : zco t p) (h2 : ∀ i, i < p → ¬ zco t i) : Lib.cut t [60, 60] = (t.take p, t.drop (p + 2), true) := by
 unfold Lib.cut
 rw [Lib.index_first (i := p) (by have := zgm h.1; omega) ((occ_pair t p).2 h) (fun j hj => by
  rcases hb:Lib.occAt t [60,60] j with _ | _
  · rfl
  · exact absurd ((occ_pair t j).1 hb) (h2 j hj))]
 simp
theorem first_pair {t : List UInt8} {j : Nat} (h : zco t j) : ∃ p, p ≤ j ∧ zco t p ∧ ∀ i, i < p → ¬ zco t i := by
 induction j using Nat.strongRecOn with
 | _ j ih =>
   by_cases h2:∃i,i < j∧zco t i
   · obtain ⟨i, hi, hp⟩ := h2
     obtain ⟨p,h3,h4,h5⟩:=ih i hi hp
     exact ⟨p,by omega,h4,h5⟩
   · exact ⟨j,Nat.le_refl _,h,fun i hi hp=>h2 ⟨i,hi,hp⟩⟩
theorem name_ex {x : List UInt8} (hc : ∀ k, k < x.length → ltrB (cB x k) = true ∨ cB x k = 60) (h0 : cB x 0 ≠ 60) (hl : x = [] ∨ cB x (x.length - 1) ≠ 60) (hp : ∀ i, ¬ zco x i) : zaO (exL 60 32 x) = true := by
 refine zdB fun k hk=>?_
 rw [zah] at hk
 rcases hc k hk with h | h
 · refine zfS ?_
   rw [cB_ex]
   split
   · rename_i e;rw [e] at h;cases h
   · exact h
 · have hk0 : k ≠ 0 := by intro e; subst e; exact h0 h
   have hkl : k + 1 < x.length := by
    rcases hl with e | e
    · rw [e] at hk;simp at hk
    · have : x.length - 1 ≠ k := by intro e2; rw [e2] at e; exact e h
      omega
   have hL:cB x (k - 1)≠60:=fun e=>hp (k - 1) ⟨e,by rw [show k - 1+1=k by omega];exact h⟩
   have hR:cB x (k+1)≠60:=fun e=>hp k ⟨h,e⟩
   unfold okP gapL
   rw [Bool.or_eq_true]
   refine .inr (decide_eq_true ⟨by rw [cB_ex,if_pos h],by omega,by rw [zah];exact hkl,?_,?_⟩)
   · rw [cB_ex, if_neg hL]
     exact (hc (k - 1) (by omega)).resolve_right hL
   · rw [cB_ex, if_neg hR]
     exact (hc (k+1) hkl).resolve_right hR
theorem gap_of {x : List UInt8} (h : zaO (exL 60 32 x) = true) {k : Nat} (hk : cB x k = 60) : 0 < k ∧ k + 1 < x.length ∧ cB x (k - 1) ≠ 60 ∧ cB x (k + 1) ≠ 60 := by
 have hl:=zgm hk
 have h1:=nameL_at h k (by rw [zah];exact hl)
 have e:cB (exL 60 32 x) k=32:=by rw [cB_ex,if_pos hk]
 unfold okP at h1
 rw [e,show ltrB 32=false from rfl,Bool.false_or] at h1
 have h2:=of_decide_eq_true h1
 rw [zah] at h2
 refine ⟨h2.2.1,h2.2.2.1,fun e2=>?_,fun e2=>?_⟩
 · have := h2.2.2.2.1
   rw [cB_ex,if_pos e2] at this
   cases this
 · have := h2.2.2.2.2
   rw [cB_ex,if_pos e2] at this
   cases this
theorem good_iff {t : List UInt8} (hc : ∀ k, k < t.length → ltrB (cB t k) = true ∨ cB t k = 60) (hl : t = [] ∨ cB t (t.length - 1) ≠ 60) :
 (surL t≠[]∧zaO (surL t)=true∧zaO (givL t)=true)↔goodT t:=by
 by_cases hp:∃j,zco t j
 · obtain ⟨j, hj⟩ := hp
   obtain ⟨p,_,h1,h2⟩:=first_pair hj
   have hcut:=zdx h1 h2
   have hlen:=zgm h1.2
   unfold surL givL
   rw [hcut]
   constructor
   · intro ⟨a1, a2, a3⟩
     have hp0 : 0 < p := by
      rcases Nat.eq_zero_or_pos p with e | e
      · subst e;simp [exL] at a1
      · exact e
     refine ⟨(by intro e;rw [e] at hlen;simp at hlen),fun e=>?_,fun i j hij hi hj=>?_⟩
     · have := (gap_of a2 (k := 0) (by show cB (t.take p) 0 = 60; rw [zcg hp0]; exact e)).1
       omega
     · have hpi : p ≤ i := by
        rcases Nat.lt_or_ge i p with h | h
        · exact absurd hi (h2 i h)
        · exact h
       rcases Nat.lt_or_ge j (p+2) with h | h
       · have e : j = p + 1 := by omega
         subst e
         have:=(gap_of a3 (k:=0) (by show cB (t.drop (p+2)) 0=60;rw [zcJ];exact hj.2)).1
         omega
       · have h3 := (gap_of a3 (k := j - (p + 2)) (by show cB (t.drop (p + 2)) _ = 60; rw [zcJ, show p + 2 + (j - (p + 2)) = j by omega]; exact hj.1)).2.2.2
         refine h3 ?_
         show cB (t.drop (p+2)) _=60
         rw [zcJ,show p+2+(j - (p+2)+1)=j+1 by omega]
         exact hj.2
   · intro ⟨g1, g2, g3⟩
     have hp0 : 0 < p := by
      rcases Nat.eq_zero_or_pos p with e | e
      · subst e;exact absurd h1.1 g2
      · exact e
     refine ⟨?_,?_,?_⟩
     · intro e
       have:=congrArg List.length e
       rw [zah,List.length_take] at this
       simp only [List.length_nil] at this
       omega
     · refine name_ex (fun k hk => ?_) ?_ (.inr ?_) (fun i hi => ?_)
       · simp at hk
         rw [show (t.take p,t.drop (p+2),true).1=t.take p from rfl,zcg (by omega)]
         exact hc k (by omega)
       · rw [show (t.take p,t.drop (p+2),true).1=t.take p from rfl,zcg hp0];exact g2
       · rw [show (t.take p, t.drop (p + 2), true).1 = t.take p from rfl]
         have:(t.take p).length=p:=by simp;omega
         rw [this,zcg (by omega)]
         intro e
         exact h2 (p - 1) (by omega) ⟨e,by rw [show p - 1+1=p by omega];exact h1.1⟩
       · have hi' : zco (t.take p) i := hi
         have hb:=zgm hi'.2
         simp at hb
         refine h2 i (by omega) ⟨?_,?_⟩
         · rw [←zcg (k:=p) (by omega)];exact hi'.1
         · rw [←zcg (k:=p) (by omega)];exact hi'.2
     · show zaO (exL 60 32 (t.drop (p + 2))) = true
       refine name_ex (fun k hk=>?_) ?_ ?_ (fun i hi=>?_)
       · simp at hk
         rw [zcJ]
         exact hc _ (by omega)
       · rw [zcJ]
         intro e
         exact g3 p (p+1) (by omega) h1 ⟨h1.2,e⟩
       · rcases hl with e | e
         · rw [e] at hlen;simp at hlen
         · by_cases h0 : t.length = p + 2
           · exact .inl (List.drop_eq_nil_of_le (by omega))
           · refine .inr ?_
             rw [zcJ,List.length_drop,show p+2+(t.length - (p+2) - 1)=t.length - 1 by omega]
             exact e
       · have h3 := hi.1
         have h4:=hi.2
         rw [zcJ] at h3 h4
         exact g3 p (p+2+i) (by omega) h1 ⟨h3,h4⟩
 · have hp' : ∀ i, ¬ zco t i := fun i h => hp ⟨i, h⟩
   unfold surL givL
   rw [zdE hp']
   constructor
   · intro ⟨a1, a2, _⟩
     refine ⟨fun e=>a1 (by rw [e];rfl),fun e=>?_,fun i j _ hi _=>hp' i hi⟩
     have:=(gap_of a2 (k:=0) e).1
     omega
   · intro ⟨g1, g2, g3⟩
     refine ⟨fun e=>g1 ?_,name_ex hc g2 hl hp',rfl⟩
     have:=congrArg List.length e
     rw [zah] at this
     exact List.eq_nil_of_length_eq_zero this
def RI (t : List UInt8) (m r : Nat) (a : Nat) (P0 P1 : List UInt8) : Prop :=
 m+r≤t.length∧(∀j,m≤j→j < m+r→cB t j=60)∧(0 < m→cB t (m - 1)≠60)∧(0 < m→cB t 0≠60) ∧
 ((a = 0 ∧ (∀ j, j + 1 < m → ¬ zco t j) ∧ P0 = exL 60 32 (t.take m) ∧ P1 = []) ∨
  (a=1∧∃p,0 < p∧p+2 < m∧zco t p∧(∀j,j+1 < m→zco t j→j=p)∧P0=exL 60 32 (t.take p)∧P1=exL 60 32 ((t.take m).drop (p+2))))
section
variable {t:List UInt8} {m r a:Nat} {P0 P1:List UInt8}
theorem RI.start (t : List UInt8) : RI t 0 0 0 [] [] :=
 ⟨by omega,fun j h1 h2=>by omega,fun h=>by omega,fun h=>by omega,.inl ⟨rfl,fun j h=>by omega,by simp [exL],rfl⟩⟩
theorem zfZ {x:List UInt8} {k:Nat} (h:k < x.length):x.take (k+1)=x.take k++[x[k]]:=List.take_succ_eq_append_getElem h
theorem ex_let {x : List UInt8} {k : Nat} (h : k < x.length) (hc : cB x k ≠ 60) : exL 60 32 [x[k]] = [x[k]] := by
 have:x[k]≠60:=fun e=>hc (by rw [zcw h,e];rfl)
 simp [exL,exB,this]
theorem ex_app (x y:List UInt8):exL 60 32 (x++y)=exL 60 32 x++exL 60 32 y:=by simp [exL]
theorem get_60 {x : List UInt8} {k : Nat} (h : k < x.length) (hc : cB x k = 60) : x[k] = 60 := by
 rw [zcw h] at hc
 exact UInt8.toNat_inj.1 (Int.ofNat_inj.1 hc)
theorem RI.zero (h : RI t m 0 a P0 P1) (hi : m < t.length) (hc : cB t m ≠ 60) : RI t (m + 1) 0 a (if a = 0 then P0 ++ [t[m]] else P0) (if a = 0 then P1 else P1 ++ [t[m]]) := by
 obtain ⟨h1,h2,h3,h4,h5⟩:=h
 refine ⟨by omega,fun j j1 j2=>by omega,fun _=>hc,fun _=>?_,?_⟩
 · rcases Nat.eq_zero_or_pos m with e | e
   · subst e;exact hc
   · exact h4 e
 · rcases h5 with ⟨rfl, h6, h7, h8⟩ | ⟨rfl, p, p0, p1, p2, p3, h7, h8⟩
   · refine .inl ⟨rfl, fun j hj hp => ?_, ?_, h8⟩
     · rcases Nat.lt_or_ge (j + 1) m with h | h
       · exact h6 j h hp
       · exact hc (by rw [show m=j+1 by omega];exact hp.2)
     · rw [if_pos rfl,zfZ hi,ex_app,ex_let hi hc,←h7]
   · refine .inr ⟨rfl, p, p0, by omega, p2, fun j hj hp => ?_, h7, ?_⟩
     · rcases Nat.lt_or_ge (j + 1) m with h | h
       · exact p3 j h hp
       · exact absurd (by rw [show m=j+1 by omega];exact hp.2) hc
     · rw [if_neg (by omega),zfZ hi,List.drop_append_of_le_length (by simp;omega),ex_app,ex_let hi hc,←h8]
theorem RI.two (h : RI t m 2 0 P0 P1) (hi : m + 2 < t.length) (hm : 0 < m) (hc : cB t (m + 2) ≠ 60) : RI t (m + 3) 0 1 P0 (P1 ++ [t[m + 2]]) := by
 obtain ⟨h1,h2,h3,h4,h5⟩:=h
 have f0:=h2 m (Nat.le_refl _) (by omega)
 have f1:=h2 (m+1) (by omega) (by omega)
 refine ⟨by omega,fun j j1 j2=>by omega,fun _=>hc,fun _=>h4 hm,.inr ⟨rfl,m,hm,by omega,⟨f0,f1⟩,fun j hj hp=>?_,?_,?_⟩⟩
 · rcases h5 with ⟨_, h6, _, _⟩ | ⟨e, _⟩
   · rcases Nat.lt_or_ge (j + 1) m with h | h
     · exact absurd hp (h6 j h)
     · rcases (show j + 1 = m ∨ j = m ∨ j = m + 1 by omega) with e | e | e
       · exact absurd (by rw [show m - 1=j by omega];exact hp.1) (h3 hm)
       · exact e
       · subst e;exact absurd hp.2 hc
   · cases e
 · rcases h5 with ⟨_, _, h7, _⟩ | ⟨e, _⟩
   · exact h7
   · cases e
 · rcases h5 with ⟨_, _, _, h8⟩ | ⟨e, _⟩
   · rw [h8,zfZ hi,List.drop_append_of_le_length (by simp;omega),List.drop_eq_nil_of_le (by simp;omega),List.nil_append,ex_let hi hc]
   · cases e
theorem RI.bad (h : RI t m r a P0 P1) (hi : m + r < t.length) (hb : 2 < r ∨ (0 < r ∧ m = 0) ∨ (r = 2 ∧ a = 1)) : ¬ goodT t := by
 obtain ⟨h1,h2,h3,h4,h5⟩:=h
 intro ⟨g1,g2,g3⟩
 rcases hb with hb | ⟨hb,e⟩ | ⟨hb,e⟩
 · exact g3 m (m+1) (by omega) ⟨h2 m (by omega) (by omega),h2 (m+1) (by omega) (by omega)⟩ ⟨h2 (m+1) (by omega) (by omega),h2 (m+2) (by omega) (by omega)⟩
 · subst e
   exact g2 (h2 0 (by omega) (by omega))
 · subst hb
   rcases h5 with ⟨e2,_⟩ | ⟨_,p,p0,p1,p2,_⟩
   · omega
   · exact g3 p m (by omega) p2 ⟨h2 m (by omega) (by omega),h2 (m+1) (by omega) (by omega)⟩
theorem RI.done (h : RI t m r a P0 P1) (he : m + r = t.length) (hl : t = [] ∨ cB t (t.length - 1) ≠ 60) : (P0 = [] → ¬ goodT t) ∧ (P0 ≠ [] → goodT t ∧ P0 = surL t ∧ P1 = givL t) := by
 obtain ⟨h1,h2,h3,h4,h5⟩:=h
 have hr : r = 0 := by
  rcases Nat.eq_zero_or_pos r with e | e
  · exact e
  · exfalso
    rcases hl with e2 | e2
    · rw [e2] at he;simp at he;omega
    · exact e2 (h2 _ (by omega) (by omega))
 subst hr
 have hm:m=t.length:=by omega
 subst hm
 have htk:t.take t.length=t:=List.take_length
 rw [htk] at h5
 constructor
 · intro e ⟨g1, g2, g3⟩
   have hpos:0 < t.length:=List.length_pos_iff.2 g1
   rcases h5 with ⟨_,_,h7,_⟩ | ⟨_,p,p0,p1,_,_,h7,_⟩
   · rw [h7] at e
     have:=congrArg List.length e
     rw [zah] at this
     simp only [List.length_nil] at this
     omega
   · rw [h7] at e
     have:=congrArg List.length e
     rw [zah,List.length_take] at this
     simp only [List.length_nil] at this
     omega
 · intro e
   rcases h5 with ⟨_,h6,h7,h8⟩ | ⟨_,p,p0,p1,p2,p3,h7,h8⟩
   · have hne : t ≠ [] := fun e2 => e (by rw [h7, e2]; rfl)
     have hnp:∀i,¬zco t i:=fun i hp=>h6 i (by have:=zgm hp.2;omega) hp
     refine ⟨⟨hne,h4 (List.length_pos_iff.2 hne),fun i j _ hi _=>hnp i hi⟩,?_,?_⟩
     · unfold surL;rw [zdE hnp,h7]
     · unfold givL;rw [zdE hnp,h8];rfl
   · have hne : t ≠ [] := fun e2 => by rw [e2] at p1; simp at p1
     refine ⟨⟨hne,h4 (by omega),fun i j hij hi hj=>?_⟩,?_,?_⟩
     · have e1 := p3 i (by have := zgm hi.2; omega) hi
       have e2:=p3 j (by have:=zgm hj.2;omega) hj
       omega
     · unfold surL;rw [zdx p2 (fun i hi hp=>by have:=p3 i (by omega) hp;omega),h7]
     · unfold givL;rw [zdx p2 (fun i hi hp=>by have:=p3 i (by omega) hp;omega),h8]
end
end Go.Proofs.YtnlhbknajdpnbaaGreatDoor
namespace Go.Proofs.YtnlhbknajdpnbaaGreatDoor
open Go.RowKit
def zeY (x:List UInt8):Bool:=decide (∀k,k < x.length→ltrB (cB x k)=true∨cB x k=60)
theorem field_good {x:List UInt8} (h:∀k,k < x.length→ltrB (cB x k)=true∨cB x k=60):zeY x=true:=by unfold zeY;exact decide_eq_true h
theorem field_at {x:List UInt8} (h:zeY x=true):∀k,k < x.length→ltrB (cB x k)=true∨cB x k=60:=by unfold zeY at h;exact of_decide_eq_true h
def zdj (x:List UInt8):List UInt8:=Lib.trimRightB x 60
theorem zfQ (x : List UInt8) : ∃ k, k ≤ x.length ∧ zdj x = x.take k ∧ (∀ j, k ≤ j → j < x.length → cB x j = 60) ∧ (0 < k → cB x (k - 1) ≠ 60) := by
 have key : ∀ n, n ≤ x.length → (∀ j, n ≤ j → j < x.length → cB x j = 60) → ∃ k, k ≤ n ∧ (∀ j, k ≤ j → j < x.length → cB x j = 60) ∧ (0 < k → cB x (k - 1) ≠ 60) := by
  intro n
  induction n with
  | zero=>intro _ h;exact ⟨0,Nat.le_refl _,h,fun h=>by omega⟩
  | succ n ih =>
    intro hn h
    by_cases e:cB x n=60
    · obtain ⟨k, h1, h2, h3⟩ := ih (by omega) (fun j j1 j2 => by
       rcases Nat.lt_or_ge n j with h4 | h4
       · exact h j h4 j2
       · rw [show j=n by omega];exact e)
      exact ⟨k,by omega,h2,h3⟩
    · exact ⟨n+1,Nat.le_refl _,h,fun _=>e⟩
 obtain ⟨k,h1,h2,h3⟩:=key x.length (Nat.le_refl _) (fun j j1 j2=>by omega)
 refine ⟨k,h1,?_,h2,h3⟩
 refine Lib.trimRightB_take x 60 k h1 (fun j b hj hb=>?_) (fun b hk hb=>?_)
 · obtain ⟨hl, rfl⟩ := List.getElem?_eq_some_iff.1 hb
   exact get_60 hl (h2 j hj hl)
 · obtain ⟨hl, rfl⟩ := List.getElem?_eq_some_iff.1 hb
   intro e
   exact h3 hk (by rw [zcw hl,e];rfl)
theorem trim_last (x : List UInt8) : zdj x = [] ∨ cB (zdj x) ((zdj x).length - 1) ≠ 60 := by
 obtain ⟨k,h1,h2,h3,h4⟩:=zfQ x
 rcases Nat.eq_zero_or_pos k with e | e
 · exact .inl (by rw [h2,e];rfl)
 · refine .inr ?_
   rw [h2,List.length_take,Nat.min_eq_left h1,zcg (by omega)]
   exact h4 e
theorem trim_chars {x : List UInt8} (h : zeY x = true) : ∀ k, k < (zdj x).length → ltrB (cB (zdj x) k) = true ∨ cB (zdj x) k = 60 := by
 obtain ⟨n,h1,h2,_,_⟩:=zfQ x
 intro k hk
 rw [h2] at hk ⊢
 simp at hk
 rw [zcg (by omega)]
 exact field_at h k (by omega)
def spE (x:List UInt8):Int:=if x.length < 1∨64 < x.length then 2 else if zeY x=false then 12 else if surL (zdj x)≠[]∧zaO (surL (zdj x))=true∧zaO (givL (zdj x))=true then 0 else 1
def spA (x:List UInt8):List UInt8:=if spE x=0 then surL (zdj x) else []
def spB (x:List UInt8):List UInt8:=if spE x=0 then givL (zdj x) else []
def spF (x:List UInt8):Bool:=if spE x=0 then decide (cB x (x.length - 1)≠60) else false
theorem sp_yes {x : List UInt8} (h : spE x = 0) : spA x = surL (zdj x) ∧ spB x = givL (zdj x) ∧ spF x = decide (cB x (x.length - 1) ≠ 60) := by
 unfold spA spB spF
 rw [if_pos h,if_pos h,if_pos h]
 exact ⟨rfl,rfl,rfl⟩
end Go.Proofs.YtnlhbknajdpnbaaGreatDoor
namespace Go.Proofs.YtnlhbknajdpnbaaGreatDoor
open Go.RowKit
theorem RI.len {t : List UInt8} {m r a : Nat} {P0 P1 : List UInt8} (h : RI t m r a P0 P1) : P0.length ≤ t.length ∧ P1.length ≤ t.length := by
 obtain ⟨_,_,_,_,h5⟩:=h
 rcases h5 with ⟨_,_,h7,h8⟩ | ⟨_,p,_,_,_,_,h7,h8⟩
 · rw [h7,h8,zah];simp;omega
 · rw [h7,h8,zah,zah];simp;omega
theorem spE_good {x : List UInt8} (h1 : ¬ (x.length < 1 ∨ 64 < x.length)) (hf : zeY x = true) : (goodT (zdj x) → spE x = 0) ∧ (¬ goodT (zdj x) → spE x = 1) := by
 have hi:=good_iff (trim_chars hf) (trim_last x)
 constructor
 · intro h;unfold spE;rw [if_neg h1,if_neg (by rw [hf];decide),if_pos (hi.2 h)]
 · intro h;unfold spE;rw [if_neg h1,if_neg (by rw [hf];decide),if_neg (fun g=>h (hi.1 g))]
end Go.Proofs.YtnlhbknajdpnbaaGreatDoor
namespace Go.Proofs.YtnlhbknajdpnbaaGreatDoor
open Go.RowKit
theorem zcr (x y : List UInt8) (i : Nat) : cB (x ++ y) i = if i < x.length then cB x i else cB y (i - x.length) := by
 unfold cB
 rw [List.getD_eq_getElem?_getD,List.getD_eq_getElem?_getD,List.getD_eq_getElem?_getD]
 split
 · rename_i h;rw [List.getElem?_append_left h]
 · rename_i h;rw [List.getElem?_append_right (by omega)]
theorem cB_fi (x : List UInt8) (i : Nat) : cB (exL 32 60 x) i = if cB x i = 32 then 60 else cB x i := by
 rcases Nat.lt_or_ge i x.length with h | h
 · have h2 : i < (exL 32 60 x).length := by rw [zah]; exact h
   rw [zcw h2,zcw h]
   simp only [exL,List.getElem_map,exB]
   by_cases e:x[i]=32
   · rw [if_pos e,if_pos (by rw [e];rfl)];rfl
   · rw [if_neg e, if_neg]
     intro e2
     exact e (UInt8.toNat_inj.1 (Int.ofNat_inj.1 e2))
 · rw [zgT (by rw [zah]; exact h), zgT h]
   rfl
theorem ltr_bd {n:Int} (h:ltrB n=true):65≤n∧n≤90:=of_decide_eq_true h
theorem zcj {x : List UInt8} (h : zaO x = true) {k : Nat} (hk : k < x.length) : ltrB (cB x k) = true ∨ (cB x k = 32 ∧ 0 < k ∧ k + 1 < x.length ∧ ltrB (cB x (k - 1)) = true ∧ ltrB (cB x (k + 1)) = true) := by
 have h1:=nameL_at h k hk
 unfold okP at h1
 rw [Bool.or_eq_true] at h1
 rcases h1 with h1 | h1
 · exact .inl h1
 · exact .inr (of_decide_eq_true h1)
def PartOk (y:List UInt8):Prop:=(∀k,k < y.length→ltrB (cB y k)=true∨cB y k=60)∧(y≠[]→cB y 0≠60∧cB y (y.length - 1)≠60)∧(∀i,¬zco y i)
theorem zeG {x : List UInt8} (h : zaO x = true) : PartOk (exL 32 60 x) := by
 refine ⟨fun k hk=>?_,fun hne=>?_,fun i hp=>?_⟩
 · rw [zah] at hk
   rw [cB_fi]
   rcases zcj h hk with h1 | h1
   · rw [if_neg (fun e=>by rw [e] at h1;cases h1)];exact .inl h1
   · rw [if_pos h1.1];exact .inr rfl
 · have hp : 0 < x.length := by rw [← zah 32 60 x]; exact List.length_pos_iff.2 hne
   rw [zah,cB_fi,cB_fi]
   constructor
   · rcases zcj h hp with h1 | h1
     · have := ltr_bd h1
       rw [if_neg (by omega)];omega
     · omega
   · rcases zcj h (show x.length - 1 < x.length by omega) with h1 | h1
     · have := ltr_bd h1
       rw [if_neg (by omega)];omega
     · omega
 · have l1 := zgm hp.1
   rw [zah] at l1
   obtain ⟨h0,h1⟩:=hp
   rw [cB_fi] at h0 h1
   rcases zcj h l1 with h2 | h2
   · have := ltr_bd h2
     rw [if_neg (by omega)] at h0
     omega
   · have := ltr_bd h2.2.2.2.2
     rw [if_neg (by omega)] at h1
     omega
theorem zgh {x : List UInt8} (h : zaO x = true) : exL 60 32 (exL 32 60 x) = x := by
 unfold exL
 rw [List.map_map]
 have : ∀ c ∈ x, (exB 60 32 ∘ exB 32 60) c = c := by
  intro c hc
  obtain ⟨k,hk,rfl⟩:=List.getElem_of_mem hc
  have h1:=zcj h hk
  rw [zcw hk] at h1
  show exB 60 32 (exB 32 60 x[k])=x[k]
  unfold exB
  by_cases e:x[k]=32
  · rw [if_pos e,if_pos rfl,e]
  · rw [if_neg e, if_neg]
    intro e2
    rw [e2] at h1
    rcases h1 with h1 | h1
    · exact absurd (ltr_bd h1).1 (by decide)
    · exact absurd h1.1 (by decide)
 conv=>rhs;rw [←List.map_id x]
 exact List.map_congr_left this
def zcd (x y:List UInt8):List UInt8:=exL 32 60 x++(if y=[] then [] else [60,60]++exL 32 60 y)
theorem zfU (x y : List UInt8) : (zcd x y).length = x.length + if y = [] then 0 else 2 + y.length := by
 unfold zcd
 rw [List.length_append,zah]
 split
 · rfl
 · rw [List.length_append,zah];rfl
theorem field_join (x y : List UInt8) (w : Nat) : zbk x y w = (zcd x y ++ List.replicate (w + 2) 60).take w := by
 unfold zcd
 by_cases h:y=[]
 · rw [if_pos h,List.append_nil,h,zgU,zer _ w (w+2) (by omega)]
 · rw [if_neg h,zgq,zer _ w (w+2) (by omega)]
theorem join_pair {x y : List UInt8} (hx : zaO x = true) (hy : zaO y = true) {i : Nat} (h : zco (zcd x y) i) : i = x.length ∧ y ≠ [] := by
 have px:=zeG hx
 have py:=zeG hy
 unfold zcd at h
 by_cases hy0:y=[]
 · rw [if_pos hy0, List.append_nil] at h
   exact absurd h (px.2.2 i)
 · rw [if_neg hy0] at h
   refine ⟨?_,hy0⟩
   have hny:exL 32 60 y≠[]:=fun e=>hy0 (by have:=congrArg List.length e;rw [zah] at this;exact List.eq_nil_of_length_eq_zero this)
   have hyp:0 < y.length:=List.length_pos_iff.2 hy0
   obtain ⟨h0,h1⟩:=h
   rw [zcr,zah] at h0 h1
   rcases Nat.lt_or_ge i x.length with c | c
   · exfalso
     rw [if_pos c] at h0
     rcases Nat.lt_or_ge (i+1) x.length with c2 | c2
     · rw [if_pos c2] at h1
       exact px.2.2 i ⟨h0,h1⟩
     · have hne : exL 32 60 x ≠ [] := fun e => by have := congrArg List.length e; rw [zah] at this; simp only [List.length_nil] at this; omega
       have h3:=(px.2.1 hne).2
       rw [zah,show x.length - 1=i by omega] at h3
       exact h3 h0
   · rw [if_neg (by omega), zcr] at h0 h1
     simp only [List.length_cons,List.length_nil] at h0 h1
     rcases Nat.lt_or_ge (i - x.length) 1 with c2 | c2
     · omega
     · exfalso
       rcases (show i - x.length=1∨2≤i - x.length by omega) with c3 | c3
       · rw [if_neg (by omega), show i + 1 - x.length - (0 + 1 + 1) = 0 by omega] at h1
         exact (py.2.1 hny).1 h1
       · rw [if_neg (by omega)] at h0 h1
         exact py.2.2 (i - x.length - (0+1+1)) ⟨h0,by rw [show i - x.length - (0+1+1)+1=i+1 - x.length - (0+1+1) by omega];exact h1⟩
theorem join_chars {x y : List UInt8} (hx : zaO x = true) (hy : zaO y = true) (k : Nat) (hk : k < (zcd x y).length) : ltrB (cB (zcd x y) k) = true ∨ cB (zcd x y) k = 60 := by
 have px:=zeG hx
 have py:=zeG hy
 rw [zfU] at hk
 unfold zcd
 by_cases hy0:y=[]
 · rw [if_pos hy0] at hk ⊢
   rw [List.append_nil]
   exact px.1 k (by rw [zah];omega)
 · rw [if_neg hy0] at hk ⊢
   rw [zcr,zah]
   split
   · exact px.1 k (by rw [zah];omega)
   · rw [zcr]
     simp only [List.length_cons,List.length_nil]
     split
     · rcases (show k - x.length=0∨k - x.length=1 by omega) with e | e <;> rw [e] <;> exact .inr rfl
     · exact py.1 _ (by rw [zah];omega)
theorem join_ends {x y : List UInt8} (hx : zaO x = true) (hy : zaO y = true) (hx0 : x ≠ []) : cB (zcd x y) 0 ≠ 60 ∧ cB (zcd x y) ((zcd x y).length - 1) ≠ 60 := by
 have px:=zeG hx
 have py:=zeG hy
 have hp:=List.length_pos_iff.2 hx0
 have hne:exL 32 60 x≠[]:=fun e=>by have:=congrArg List.length e;rw [zah] at this;simp only [List.length_nil] at this;omega
 have ex:=px.2.1 hne
 rw [zah] at ex
 rw [zfU]
 unfold zcd
 constructor
 · rw [zcr,zah,if_pos hp];exact ex.1
 · by_cases hy0 : y = []
   · rw [if_pos hy0,if_pos hy0,List.append_nil];exact ex.2
   · have hyp : 0 < y.length := List.length_pos_iff.2 hy0
     have hny:exL 32 60 y≠[]:=fun e=>by have:=congrArg List.length e;rw [zah] at this;simp only [List.length_nil] at this;omega
     have ey:=(py.2.1 hny).2
     rw [zah] at ey
     rw [if_neg hy0,if_neg hy0,zcr,zah,if_neg (by omega),zcr]
     simp only [List.length_cons,List.length_nil]
     rw [if_neg (by omega),show x.length+(2+y.length) - 1 - x.length - (0+1+1)=y.length - 1 by omega]
     exact ey
theorem field_back {x y : List UInt8} (hx : zaO x = true) (hy : zaO y = true) (hx0 : x ≠ []) {w : Nat} (h1 : 1 ≤ w) (h2 : w ≤ 64) :
 spE (zbk x y w)=0∧(zbk x y w).length=w ∧
 ((zcd x y).length≤w→spA (zbk x y w)=x∧spB (zbk x y w)=y∧spF (zbk x y w)=decide ((zcd x y).length=w)) ∧
 (w < (zcd x y).length→(spA (zbk x y w)).length≤x.length∧x.take (spA (zbk x y w)).length=spA (zbk x y w)):=by
 obtain ⟨G,hG⟩ : ∃G,zcd x y=G:=⟨_,rfl⟩
 obtain ⟨F,hF⟩ : ∃F,zbk x y w=F:=⟨_,rfl⟩
 have hFG:F=(G++List.replicate (w+2) 60).take w:=by rw [←hF,field_join,hG]
 have hch:=join_chars hx hy
 have hen:=join_ends hx hy hx0
 have hpr:=fun i (h:zco (zcd x y) i)=>join_pair hx hy h
 have hGl:=zfU x y
 have hxp:=List.length_pos_iff.2 hx0
 rw [hG] at hch hen hpr hGl
 rw [hF,hG]
 have hlen:F.length=w:=by rw [hFG,List.length_take,List.length_append,List.length_replicate];omega
 have hcF : ∀ i, cB F i = if i < w then (if i < G.length then cB G i else 60) else 0 := by
  intro i
  by_cases hi:i < w
  · rw [if_pos hi, hFG, zcg hi, zcr]
    split
    · rfl
    · unfold cB
      rw [List.getD_eq_getElem?_getD,List.getElem?_replicate,if_pos (by omega)]
      rfl
  · rw [if_neg hi,zgT (by omega)]
 have hfb : zeY F = true := field_good (fun k hk => by
  rw [hcF,if_pos (by omega)]
  split
  · rename_i h;exact hch k h
  · exact .inr rfl)
 obtain ⟨k,k1,k2,k3,k4⟩:=zfQ F
 obtain ⟨t,ht⟩ : ∃t,zdj F=t:=⟨_,rfl⟩
 rw [ht] at k2
 have hkG : k ≤ G.length := by
  rcases Nat.lt_or_ge G.length k with h | h
  · exfalso
    have:=k4 (by omega)
    rw [hcF,if_pos (by omega),if_neg (by omega)] at this
    exact this rfl
  · exact h
 have htl:t.length=k:=by rw [k2,List.length_take];omega
 have hct:∀i,i < k→cB t i=cB G i:=fun i hi=>by rw [k2,zcg hi,hcF,if_pos (by omega),if_pos (by omega)]
 have hk0 : 0 < k := by
  rcases Nat.eq_zero_or_pos k with e | e
  · exfalso
    have h3:=k3 0 (by omega) (by omega)
    rw [hcF,if_pos (by omega),if_pos (by omega)] at h3
    exact hen.1 h3
  · exact e
 have htG : t = G.take k := by
  rw [k2,hFG,List.take_take,Nat.min_eq_left (by omega),List.take_append_of_le_length hkG]
 have hpt : ∀ i, zco t i → i = x.length ∧ y ≠ [] ∧ i + 1 < k := fun i hp => by
  have l1:=zgm hp.2
  rw [htl] at l1
  have:=hpr i ⟨by rw [←hct i (by omega)];exact hp.1,by rw [←hct (i+1) l1];exact hp.2⟩
  exact ⟨this.1,this.2,l1⟩
 have hgood : goodT t := by
  refine ⟨fun e=>by rw [e] at htl;simp only [List.length_nil] at htl;omega,?_,fun i j hij hi hj=>?_⟩
  · rw [hct 0 hk0];exact hen.1
  · have e1 := (hpt i hi).1
    have e2:=(hpt j hj).1
    omega
 have hsE:spE F=0:=(spE_good (by rw [hlen];omega) hfb).1 (by rw [ht];exact hgood)
 obtain ⟨a1,a2,a3⟩:=sp_yes hsE
 rw [ht] at a1 a2
 refine ⟨hsE,hlen,fun hle=>?_,fun hlt=>?_⟩
 · have hkk : k = G.length := by
    rcases Nat.lt_or_ge k G.length with h | h
    · exfalso
      have h3:=k3 (G.length - 1) (by omega) (by omega)
      rw [hcF,if_pos (by omega),if_pos (by omega)] at h3
      exact hen.2 h3
    · omega
   have htg:t=G:=by rw [htG,hkk,List.take_length]
   refine ⟨?_,?_,?_⟩
   · rw [a1]
     unfold surL
     by_cases hy0:y=[]
     · rw [zdE (fun i hp => (hpt i hp).2.1 hy0), htg, ← hG]
       unfold zcd
       rw [if_pos hy0,List.append_nil]
       exact zgh hx
     · have hp : zco t x.length := by
        rw [htg,←hG]
        unfold zcd
        rw [if_neg hy0]
        refine ⟨?_,?_⟩
        · rw [zcr,zah,if_neg (by omega),Nat.sub_self];rfl
        · rw [zcr,zah,if_neg (by omega),show x.length+1 - x.length=1 by omega];rfl
       rw [zdx hp (fun i hi hp2=>by have:=(hpt i hp2).1;omega),htg,←hG]
       unfold zcd
       show exL 60 32 (List.take x.length (exL 32 60 x++_))=x
       rw [List.take_left' (zah _ _ _)]
       exact zgh hx
   · rw [a2]
     unfold givL
     by_cases hy0:y=[]
     · rw [zdE (fun i hp=>(hpt i hp).2.1 hy0),hy0];rfl
     · have hp : zco t x.length := by
        rw [htg,←hG]
        unfold zcd
        rw [if_neg hy0]
        refine ⟨?_,?_⟩
        · rw [zcr,zah,if_neg (by omega),Nat.sub_self];rfl
        · rw [zcr,zah,if_neg (by omega),show x.length+1 - x.length=1 by omega];rfl
       rw [zdx hp (fun i hi hp2=>by have:=(hpt i hp2).1;omega),htg,←hG]
       unfold zcd
       rw [if_neg hy0]
       show exL 60 32 (List.drop (x.length+2) (exL 32 60 x++([60,60]++exL 32 60 y)))=y
       rw [←List.append_assoc,List.drop_left' (by rw [List.length_append,zah];rfl)]
       exact zgh hy
   · rw [a3, hlen, hcF, if_pos (by omega)]
     by_cases e:G.length=w
     · rw [if_pos (by omega), decide_eq_true e]
       refine decide_eq_true ?_
       rw [←e];exact hen.2
     · rw [if_neg (by omega), decide_eq_false e]
       exact decide_eq_false (fun h=>h rfl)
 · rw [a1]
   have hkx : ∀ (h : ¬ ∃ i, zco t i), k ≤ x.length := by
    intro h
    by_cases hy0:y=[]
    · rw [if_pos hy0] at hGl;omega
    · rcases Nat.lt_or_ge x.length k with c | c
      · exfalso
        have c0 : cB G x.length = 60 := by
         rw [←hG];unfold zcd;rw [if_neg hy0,zcr,zah,if_neg (by omega),Nat.sub_self];rfl
        have c1 : cB G (x.length + 1) = 60 := by
         rw [←hG];unfold zcd;rw [if_neg hy0,zcr,zah,if_neg (by omega),show x.length+1 - x.length=1 by omega];rfl
        rcases Nat.lt_or_ge (x.length+1) k with c2 | c2
        · exact h ⟨x.length,by rw [hct _ c];exact c0,by rw [hct _ c2];exact c1⟩
        · have h5 := k4 hk0
          rw [hcF,if_pos (by omega),if_pos (by omega),show k - 1=x.length by omega] at h5
          exact h5 c0
      · exact c
   unfold surL
   by_cases hp:∃i,zco t i
   · obtain ⟨i, hi⟩ := hp
     obtain ⟨rfl,hy0,hik⟩:=hpt i hi
     rw [zdx hi (fun j hj hp2=>by have:=(hpt j hp2).1;omega)]
     have e : exL 60 32 (t.take x.length) = x := by
      rw [htG,List.take_take,Nat.min_eq_left (by omega),←hG]
      unfold zcd
      rw [List.take_left' (zah _ _ _)]
      exact zgh hx
     show (exL 60 32 (t.take x.length)).length≤_∧_=exL 60 32 (t.take x.length)
     rw [e]
     exact ⟨Nat.le_refl _,List.take_length⟩
   · have hkl := hkx hp
     rw [zdE (fun i h=>hp ⟨i,h⟩)]
     have e : exL 60 32 t = x.take k := by
      rw [htG,←hG]
      unfold zcd
      rw [List.take_append_of_le_length (by rw [zah];exact hkl)]
      have:exL 60 32 ((exL 32 60 x).take k)=(exL 60 32 (exL 32 60 x)).take k:=by unfold exL;rw [List.map_take]
      rw [this,zgh hx]
     show (exL 60 32 t).length≤_∧_=exL 60 32 t
     rw [e,List.length_take,Nat.min_eq_left hkl]
     exact ⟨hkl,rfl⟩
end Go.Proofs.YtnlhbknajdpnbaaGreatDoor
