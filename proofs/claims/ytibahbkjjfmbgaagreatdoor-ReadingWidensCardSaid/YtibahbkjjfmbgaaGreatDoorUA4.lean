/-
  What is proved here: plain facts on fields of names: without its fillers at the end a field consists of two names exactly if it begins with no filler and has at most one pair of fillers; what a walk over it, letter by letter, gathers. Nothing of the program is used.
-/
import Derived.Test.YtibahbkjjfmbgaaGreatDoorUA1
import Derived.Lib.IndexMore
import Derived.Lib.TrimByte
import Derived.Test.YtibahbkjjfmbgaaGreatDoorUA3
import Derived.Test.YtibahbkjjfmbgaaGreatDoorUShf
import Derived.Laws.DeepStrings4
namespace Go.Proofs.YtibahbkjjfmbgaaGreatDoor
open Go.RowKit
def pairT (t : List UInt8) (i : Nat) : Prop := cB t i = 60 ∧ cB t (i + 1) = 60
def goodT (t : List UInt8) : Prop := t ≠ [] ∧ cB t 0 ≠ 60 ∧ ∀ i j, i < j → pairT t i → pairT t j → False
def surL (t : List UInt8) : List UInt8 := exL 60 32 (Lib.cut t [60, 60]).1
def givL (t : List UInt8) : List UInt8 := exL 60 32 (Lib.cut t [60, 60]).2.1
theorem cB_out {x : List UInt8} {i : Nat} (h : x.length ≤ i) : cB x i = 0 := by
 unfold cB
 rw [List.getD_eq_getElem?_getD, List.getElem?_eq_none h]
 rfl
theorem cB_take {x : List UInt8} {i k : Nat} (h : i < k) : cB (x.take k) i = cB x i := by
 unfold cB
 rw [List.getD_eq_getElem?_getD, List.getD_eq_getElem?_getD, List.getElem?_take, if_pos h]
theorem cB_drop (x : List UInt8) (i k : Nat) : cB (x.drop k) i = cB x (k + i) := by
 unfold cB
 rw [List.getD_eq_getElem?_getD, List.getD_eq_getElem?_getD, List.getElem?_drop]
theorem cB_in {x : List UInt8} {i : Nat} (h : cB x i = 60) : i < x.length := by
 rcases Nat.lt_or_ge i x.length with h1 | h1
 · exact h1
 · rw [cB_out h1] at h; cases h
theorem cB_ex (x : List UInt8) (i : Nat) : cB (exL 60 32 x) i = if cB x i = 60 then 32 else cB x i := by
 rcases Nat.lt_or_ge i x.length with h | h
 · have h2 : i < (exL 60 32 x).length := by rw [exL_length]; exact h
   rw [cB_get h2, cB_get h]
   simp only [exL, List.getElem_map, exB]
   by_cases e : x[i] = 60
   · rw [if_pos e, if_pos (by rw [e]; rfl)]; rfl
   · rw [if_neg e, if_neg]
     intro e2
     exact e (UInt8.toNat_inj.1 (Int.ofNat_inj.1 e2))
 · rw [cB_out (by rw [exL_length]; exact h), cB_out h]
   rfl
theorem occ_pair (t : List UInt8) (i : Nat) : Lib.occAt t [60, 60] i = true ↔ pairT t i := by
 constructor
 · intro h
   have h2 : i + 2 ≤ t.length := by
    rcases Lib.occAt_room h with h2 | h2
    · exact h2
    · cases h2
   rw [Lib.occAt_iff_take t [60, 60] i h2] at h
   have h3 : (t.drop i).take 2 = [60, 60] := by simpa using h
   have e0 : cB ((t.drop i).take 2) 0 = 60 := by rw [h3]; rfl
   have e1 : cB ((t.drop i).take 2) 1 = 60 := by rw [h3]; rfl
   rw [cB_take (by omega), cB_drop] at e0 e1
   exact ⟨e0, e1⟩
 · intro ⟨h0, h1⟩
   have l1 := cB_in h1
   rw [Lib.occAt_iff_take t [60, 60] i (by simp; omega)]
   rw [cB_get (by omega)] at h0
   rw [cB_get l1] at h1
   have e0 : t[i] = 60 := UInt8.toNat_inj.1 (Int.ofNat_inj.1 h0)
   have e1 : t[i + 1] = 60 := UInt8.toNat_inj.1 (Int.ofNat_inj.1 h1)
   rw [List.drop_eq_getElem_cons (by omega), List.drop_eq_getElem_cons l1, e0, e1]
   rfl
theorem cut_none {t : List UInt8} (h : ∀ i, ¬ pairT t i) : Lib.cut t [60, 60] = (t, [], false) := by
 unfold Lib.cut
 rw [Lib.index_none (fun j _ => by
  rcases hb : Lib.occAt t [60, 60] j with _ | _
  · rfl
  · exact absurd ((occ_pair t j).1 hb) (h j))]
 rfl
theorem cut_some {t : List UInt8} {p : Nat} (h : pairT t p) (h2 : ∀ i, i < p → ¬ pairT t i) : Lib.cut t [60, 60] = (t.take p, t.drop (p + 2), true) := by
 unfold Lib.cut
 rw [Lib.index_first (i := p) (by have := cB_in h.1; omega) ((occ_pair t p).2 h) (fun j hj => by
  rcases hb : Lib.occAt t [60, 60] j with _ | _
  · rfl
  · exact absurd ((occ_pair t j).1 hb) (h2 j hj))]
 simp
theorem first_pair {t : List UInt8} {j : Nat} (h : pairT t j) : ∃ p, p ≤ j ∧ pairT t p ∧ ∀ i, i < p → ¬ pairT t i := by
 induction j using Nat.strongRecOn with
 | _ j ih =>
  by_cases h2 : ∃ i, i < j ∧ pairT t i
  · obtain ⟨i, hi, hp⟩ := h2
    obtain ⟨p, h3, h4, h5⟩ := ih i hi hp
    exact ⟨p, by omega, h4, h5⟩
  · exact ⟨j, Nat.le_refl _, h, fun i hi hp => h2 ⟨i, hi, hp⟩⟩
theorem name_ex {x : List UInt8} (hc : ∀ k, k < x.length → ltrB (cB x k) = true ∨ cB x k = 60) (h0 : cB x 0 ≠ 60) (hl : x = [] ∨ cB x (x.length - 1) ≠ 60) (hp : ∀ i, ¬ pairT x i) : nameL (exL 60 32 x) = true := by
 refine nameL_good fun k hk => ?_
 rw [exL_length] at hk
 rcases hc k hk with h | h
 · refine okP_let ?_
   rw [cB_ex]
   split
   · rename_i e; rw [e] at h; cases h
   · exact h
 ·
  have hk0 : k ≠ 0 := by intro e; subst e; exact h0 h
  have hkl : k + 1 < x.length := by
   rcases hl with e | e
   · rw [e] at hk; simp at hk
   · have : x.length - 1 ≠ k := by intro e2; rw [e2] at e; exact e h
     omega
  have hL : cB x (k - 1) ≠ 60 := fun e => hp (k - 1) ⟨e, by rw [show k - 1 + 1 = k by omega]; exact h⟩
  have hR : cB x (k + 1) ≠ 60 := fun e => hp k ⟨h, e⟩
  unfold okP gapL
  rw [Bool.or_eq_true]
  refine .inr (decide_eq_true ⟨by rw [cB_ex, if_pos h], by omega, by rw [exL_length]; exact hkl, ?_, ?_⟩)
  · rw [cB_ex, if_neg hL]
    exact (hc (k - 1) (by omega)).resolve_right hL
  · rw [cB_ex, if_neg hR]
    exact (hc (k + 1) hkl).resolve_right hR
theorem gap_of {x : List UInt8} (h : nameL (exL 60 32 x) = true) {k : Nat} (hk : cB x k = 60) : 0 < k ∧ k + 1 < x.length ∧ cB x (k - 1) ≠ 60 ∧ cB x (k + 1) ≠ 60 := by
 have hl := cB_in hk
 have h1 := nameL_at h k (by rw [exL_length]; exact hl)
 have e : cB (exL 60 32 x) k = 32 := by rw [cB_ex, if_pos hk]
 unfold okP at h1
 rw [e, show ltrB 32 = false from rfl, Bool.false_or] at h1
 have h2 := of_decide_eq_true h1
 rw [exL_length] at h2
 refine ⟨h2.2.1, h2.2.2.1, fun e2 => ?_, fun e2 => ?_⟩
 · have := h2.2.2.2.1
   rw [cB_ex, if_pos e2] at this
   cases this
 · have := h2.2.2.2.2
   rw [cB_ex, if_pos e2] at this
   cases this
theorem good_iff {t : List UInt8} (hc : ∀ k, k < t.length → ltrB (cB t k) = true ∨ cB t k = 60) (hl : t = [] ∨ cB t (t.length - 1) ≠ 60) :
 (surL t ≠ [] ∧ nameL (surL t) = true ∧ nameL (givL t) = true) ↔ goodT t := by
 by_cases hp : ∃ j, pairT t j
 ·
  obtain ⟨j, hj⟩ := hp
  obtain ⟨p, _, h1, h2⟩ := first_pair hj
  have hcut := cut_some h1 h2
  have hlen := cB_in h1.2
  unfold surL givL
  rw [hcut]
  constructor
  ·
   intro ⟨a1, a2, a3⟩
   have hp0 : 0 < p := by
    rcases Nat.eq_zero_or_pos p with e | e
    · subst e; simp [exL] at a1
    · exact e
   refine ⟨(by intro e; rw [e] at hlen; simp at hlen), fun e => ?_, fun i j hij hi hj => ?_⟩
   · have := (gap_of a2 (k := 0) (by show cB (t.take p) 0 = 60; rw [cB_take hp0]; exact e)).1
     omega
   ·
    have hpi : p ≤ i := by
     rcases Nat.lt_or_ge i p with h | h
     · exact absurd hi (h2 i h)
     · exact h
    rcases Nat.lt_or_ge j (p + 2) with h | h
    · have e : j = p + 1 := by omega
      subst e
      have := (gap_of a3 (k := 0) (by show cB (t.drop (p + 2)) 0 = 60; rw [cB_drop]; exact hj.2)).1
      omega
    · have h3 := (gap_of a3 (k := j - (p + 2)) (by show cB (t.drop (p + 2)) _ = 60; rw [cB_drop, show p + 2 + (j - (p + 2)) = j by omega]; exact hj.1)).2.2.2
      refine h3 ?_
      show cB (t.drop (p + 2)) _ = 60
      rw [cB_drop, show p + 2 + (j - (p + 2) + 1) = j + 1 by omega]
      exact hj.2
  ·
   intro ⟨g1, g2, g3⟩
   have hp0 : 0 < p := by
    rcases Nat.eq_zero_or_pos p with e | e
    · subst e; exact absurd h1.1 g2
    · exact e
   refine ⟨?_, ?_, ?_⟩
   · intro e
     have := congrArg List.length e
     rw [exL_length, List.length_take] at this
     simp only [List.length_nil] at this
     omega
   ·
    refine name_ex (fun k hk => ?_) ?_ (.inr ?_) (fun i hi => ?_)
    · simp at hk
      rw [show (t.take p, t.drop (p + 2), true).1 = t.take p from rfl, cB_take (by omega)]
      exact hc k (by omega)
    · rw [show (t.take p, t.drop (p + 2), true).1 = t.take p from rfl, cB_take hp0]; exact g2
    · rw [show (t.take p, t.drop (p + 2), true).1 = t.take p from rfl]
      have : (t.take p).length = p := by simp; omega
      rw [this, cB_take (by omega)]
      intro e
      exact h2 (p - 1) (by omega) ⟨e, by rw [show p - 1 + 1 = p by omega]; exact h1.1⟩
    · have hi' : pairT (t.take p) i := hi
      have hb := cB_in hi'.2
      simp at hb
      refine h2 i (by omega) ⟨?_, ?_⟩
      · rw [← cB_take (k := p) (by omega)]; exact hi'.1
      · rw [← cB_take (k := p) (by omega)]; exact hi'.2
   ·
    show nameL (exL 60 32 (t.drop (p + 2))) = true
    refine name_ex (fun k hk => ?_) ?_ ?_ (fun i hi => ?_)
    · simp at hk
      rw [cB_drop]
      exact hc _ (by omega)
    · rw [cB_drop]
      intro e
      exact g3 p (p + 1) (by omega) h1 ⟨h1.2, e⟩
    · rcases hl with e | e
      · rw [e] at hlen; simp at hlen
      · by_cases h0 : t.length = p + 2
        · exact .inl (List.drop_eq_nil_of_le (by omega))
        · refine .inr ?_
          rw [cB_drop, List.length_drop, show p + 2 + (t.length - (p + 2) - 1) = t.length - 1 by omega]
          exact e
    · have h3 := hi.1
      have h4 := hi.2
      rw [cB_drop] at h3 h4
      exact g3 p (p + 2 + i) (by omega) h1 ⟨h3, h4⟩
 · have hp' : ∀ i, ¬ pairT t i := fun i h => hp ⟨i, h⟩
   unfold surL givL
   rw [cut_none hp']
   constructor
   · intro ⟨a1, a2, _⟩
     refine ⟨fun e => a1 (by rw [e]; rfl), fun e => ?_, fun i j _ hi _ => hp' i hi⟩
     have := (gap_of a2 (k := 0) e).1
     omega
   · intro ⟨g1, g2, g3⟩
     refine ⟨fun e => g1 ?_, name_ex hc g2 hl hp', rfl⟩
     have := congrArg List.length e
     rw [exL_length] at this
     exact List.eq_nil_of_length_eq_zero this
def RI (t : List UInt8) (m r : Nat) (a : Nat) (P0 P1 : List UInt8) : Prop :=
 m + r ≤ t.length ∧ (∀ j, m ≤ j → j < m + r → cB t j = 60) ∧ (0 < m → cB t (m - 1) ≠ 60) ∧ (0 < m → cB t 0 ≠ 60) ∧
 ((a = 0 ∧ (∀ j, j + 1 < m → ¬ pairT t j) ∧ P0 = exL 60 32 (t.take m) ∧ P1 = []) ∨
  (a = 1 ∧ ∃ p, 0 < p ∧ p + 2 < m ∧ pairT t p ∧ (∀ j, j + 1 < m → pairT t j → j = p) ∧ P0 = exL 60 32 (t.take p) ∧ P1 = exL 60 32 ((t.take m).drop (p + 2))))
section
variable {t : List UInt8} {m r a : Nat} {P0 P1 : List UInt8}
theorem RI.start (t : List UInt8) : RI t 0 0 0 [] [] :=
 ⟨by omega, fun j h1 h2 => by omega, fun h => by omega, fun h => by omega, .inl ⟨rfl, fun j h => by omega, by simp [exL], rfl⟩⟩
theorem take_snoc {x : List UInt8} {k : Nat} (h : k < x.length) : x.take (k + 1) = x.take k ++ [x[k]] := List.take_succ_eq_append_getElem h
theorem ex_let {x : List UInt8} {k : Nat} (h : k < x.length) (hc : cB x k ≠ 60) : exL 60 32 [x[k]] = [x[k]] := by
 have : x[k] ≠ 60 := fun e => hc (by rw [cB_get h, e]; rfl)
 simp [exL, exB, this]
theorem ex_app (x y : List UInt8) : exL 60 32 (x ++ y) = exL 60 32 x ++ exL 60 32 y := by simp [exL]
theorem get_60 {x : List UInt8} {k : Nat} (h : k < x.length) (hc : cB x k = 60) : x[k] = 60 := by
 rw [cB_get h] at hc
 exact UInt8.toNat_inj.1 (Int.ofNat_inj.1 hc)
theorem RI.zero (h : RI t m 0 a P0 P1) (hi : m < t.length) (hc : cB t m ≠ 60) : RI t (m + 1) 0 a (if a = 0 then P0 ++ [t[m]] else P0) (if a = 0 then P1 else P1 ++ [t[m]]) := by
 obtain ⟨h1, h2, h3, h4, h5⟩ := h
 refine ⟨by omega, fun j j1 j2 => by omega, fun _ => hc, fun _ => ?_, ?_⟩
 · rcases Nat.eq_zero_or_pos m with e | e
   · subst e; exact hc
   · exact h4 e
 · rcases h5 with ⟨rfl, h6, h7, h8⟩ | ⟨rfl, p, p0, p1, p2, p3, h7, h8⟩
   · refine .inl ⟨rfl, fun j hj hp => ?_, ?_, h8⟩
     · rcases Nat.lt_or_ge (j + 1) m with h | h
       · exact h6 j h hp
       · exact hc (by rw [show m = j + 1 by omega]; exact hp.2)
     · rw [if_pos rfl, take_snoc hi, ex_app, ex_let hi hc, ← h7]
   · refine .inr ⟨rfl, p, p0, by omega, p2, fun j hj hp => ?_, h7, ?_⟩
     · rcases Nat.lt_or_ge (j + 1) m with h | h
       · exact p3 j h hp
       · exact absurd (by rw [show m = j + 1 by omega]; exact hp.2) hc
     · rw [if_neg (by omega), take_snoc hi, List.drop_append_of_le_length (by simp; omega), ex_app, ex_let hi hc, ← h8]
theorem RI.done (h : RI t m r a P0 P1) (he : m + r = t.length) (hl : t = [] ∨ cB t (t.length - 1) ≠ 60) : (P0 = [] → ¬ goodT t) ∧ (P0 ≠ [] → goodT t ∧ P0 = surL t ∧ P1 = givL t) := by
 obtain ⟨h1, h2, h3, h4, h5⟩ := h
 have hr : r = 0 := by
  rcases Nat.eq_zero_or_pos r with e | e
  · exact e
  · exfalso
    rcases hl with e2 | e2
    · rw [e2] at he; simp at he; omega
    · exact e2 (h2 _ (by omega) (by omega))
 subst hr
 have hm : m = t.length := by omega
 subst hm
 have htk : t.take t.length = t := List.take_length
 rw [htk] at h5
 constructor
 · intro e ⟨g1, g2, g3⟩
   have hpos : 0 < t.length := List.length_pos_iff.2 g1
   rcases h5 with ⟨_, _, h7, _⟩ | ⟨_, p, p0, p1, _, _, h7, _⟩
   · rw [h7] at e
     have := congrArg List.length e
     rw [exL_length] at this
     simp only [List.length_nil] at this
     omega
   · rw [h7] at e
     have := congrArg List.length e
     rw [exL_length, List.length_take] at this
     simp only [List.length_nil] at this
     omega
 ·
  intro e
  rcases h5 with ⟨_, h6, h7, h8⟩ | ⟨_, p, p0, p1, p2, p3, h7, h8⟩
  · have hne : t ≠ [] := fun e2 => e (by rw [h7, e2]; rfl)
    have hnp : ∀ i, ¬ pairT t i := fun i hp => h6 i (by have := cB_in hp.2; omega) hp
    refine ⟨⟨hne, h4 (List.length_pos_iff.2 hne), fun i j _ hi _ => hnp i hi⟩, ?_, ?_⟩
    · unfold surL; rw [cut_none hnp, h7]
    · unfold givL; rw [cut_none hnp, h8]; rfl
  · have hne : t ≠ [] := fun e2 => by rw [e2] at p1; simp at p1
    refine ⟨⟨hne, h4 (by omega), fun i j hij hi hj => ?_⟩, ?_, ?_⟩
    · have e1 := p3 i (by have := cB_in hi.2; omega) hi
      have e2 := p3 j (by have := cB_in hj.2; omega) hj
      omega
    · unfold surL; rw [cut_some p2 (fun i hi hp => by have := p3 i (by omega) hp; omega), h7]
    · unfold givL; rw [cut_some p2 (fun i hi hp => by have := p3 i (by omega) hp; omega), h8]
end
def fieldB (x : List UInt8) : Bool := decide (∀ k, k < x.length → ltrB (cB x k) = true ∨ cB x k = 60)
theorem field_bad {x : List UInt8} {k : Nat} (hk : k < x.length) (h1 : ltrB (cB x k) = false) (h2 : cB x k ≠ 60) : fieldB x = false := by
 unfold fieldB
 rw [decide_eq_false_iff_not]
 intro h
 rcases h k hk with h | h
 · rw [h1] at h; cases h
 · exact h2 h
theorem field_good {x : List UInt8} (h : ∀ k, k < x.length → ltrB (cB x k) = true ∨ cB x k = 60) : fieldB x = true := by unfold fieldB; exact decide_eq_true h
theorem field_at {x : List UInt8} (h : fieldB x = true) : ∀ k, k < x.length → ltrB (cB x k) = true ∨ cB x k = 60 := by unfold fieldB at h; exact of_decide_eq_true h
theorem p_field (s : ByteArray) (x : List UInt8) (hx : s = S x) (w : World) (hm : s.size ≤ 140737488355328) :
 Calls Tryz.prog 133 #[.string s] w fun e w' => e = .returned (.bool (fieldB x)) ∧ w' = w := by
 have hl : s.size = x.length := by rw [hx, S_size]
 have HX := Lib.hid hx
 have HL := Lib.hid hl
 obtain ⟨N, hN⟩ : ∃ N, fieldB x = N := ⟨_, rfl⟩
 rw [hN]
 have HN := Lib.hid hN
 clear hx hl hN
 go_enter Tryz.func133, Tryz.ntmps133
 go_wp2
 go_loop [6] (fun i => ∃ k : Nat, k ≤ s.size ∧ i = .int .i64 k ∧ Hid (∀ j, j < k → ltrB (cB x j) = true ∨ cB x j = 60)) (fun i => s.size - (intOf i).toNat)
 case atStart => exact ⟨0, Nat.zero_le _, rfl, Lib.hid (fun j h => by omega)⟩
 case round =>
  obtain ⟨k, hk, rfl, HG⟩ := hrel
  by_cases hlt : k < s.size
  ·
   have hc := s_at HX.out k hlt
   obtain ⟨b, hb⟩ : ∃ b, ltrB (cB x k) = b := ⟨_, rfl⟩
   have hbs : ltrB ((s[k]'hlt).toNat : Int) = b := by rw [hc]; exact hb
   have HB := Lib.hid hb
   have HBS := Lib.hid hbs
   clear hb hbs
   have hgood : (ltrB (cB x k) = true ∨ cB x k = 60) → Hid (∀ j, j < k + 1 → ltrB (cB x j) = true ∨ cB x j = 60) := fun h => Lib.hid (fun j hj => by
    rcases Nat.lt_or_ge j k with h2 | h2
    · exact HG.out j h2
    · obtain rfl : j = k := by omega
      exact h)
   rcases b with _ | _
   ·
    by_cases h60 : cB x k = 60
    · have HQ := hgood (.inr h60)
      rw [← hc] at h60
      clear hc hgood
      have d0 : ((s[k].toNat : Int) != 60) = false := by rw [h60]; rfl
      go_wp2_with (go_at_call 66; refine (p_letter 60 false (by decide) _).mono ?_; rintro e w' ⟨rfl, hw⟩; rw [hw]; clear hw)
      go_round
      case rel => exact ⟨k + 1, by omega, by go_num, HQ⟩
      case measure => simp [intOf]; omega
    · have hf : N = false := by rw [← HN.out]; exact field_bad (k := k) (by have := HL.out; omega) HB.out h60
      subst hf
      rw [← hc] at h60
      clear hc hgood
      have d0 : ((s[k].toNat : Int) != 60) = true := by simpa using h60
      go_wp2_with (go_at_call 66; refine (p_letter _ false HBS.out _).mono ?_; rintro e w' ⟨rfl, hw⟩; rw [hw]; clear hw)
      go_ret
      exact ⟨rfl, rfl⟩
   · have HQ := hgood (.inl HB.out)
     clear hc hgood
     go_wp2_with (go_at_call 66; refine (p_letter _ true HBS.out _).mono ?_; rintro e w' ⟨rfl, hw⟩; rw [hw]; clear hw)
     go_round
     case rel => exact ⟨k + 1, by omega, by go_num, HQ⟩
     case measure => simp [intOf]; omega
  · have hf : N = true := by rw [← HN.out]; exact field_good (fun j hj => HG.out j (by have := HL.out; omega))
    subst hf
    go_wp2
    go_ret
    exact ⟨rfl, rfl⟩
def trimT (x : List UInt8) : List UInt8 := Lib.trimRightB x 60
theorem trim_take (x : List UInt8) : ∃ k, k ≤ x.length ∧ trimT x = x.take k ∧ (∀ j, k ≤ j → j < x.length → cB x j = 60) ∧ (0 < k → cB x (k - 1) ≠ 60) := by
 have key : ∀ n, n ≤ x.length → (∀ j, n ≤ j → j < x.length → cB x j = 60) → ∃ k, k ≤ n ∧ (∀ j, k ≤ j → j < x.length → cB x j = 60) ∧ (0 < k → cB x (k - 1) ≠ 60) := by
  intro n
  induction n with
  | zero => intro _ h; exact ⟨0, Nat.le_refl _, h, fun h => by omega⟩
  | succ n ih =>
   intro hn h
   by_cases e : cB x n = 60
   · obtain ⟨k, h1, h2, h3⟩ := ih (by omega) (fun j j1 j2 => by
      rcases Nat.lt_or_ge n j with h4 | h4
      · exact h j h4 j2
      · rw [show j = n by omega]; exact e)
     exact ⟨k, by omega, h2, h3⟩
   · exact ⟨n + 1, Nat.le_refl _, h, fun _ => e⟩
 obtain ⟨k, h1, h2, h3⟩ := key x.length (Nat.le_refl _) (fun j j1 j2 => by omega)
 refine ⟨k, h1, ?_, h2, h3⟩
 refine Lib.trimRightB_take x 60 k h1 (fun j b hj hb => ?_) (fun b hk hb => ?_)
 · obtain ⟨hl, rfl⟩ := List.getElem?_eq_some_iff.1 hb
   exact get_60 hl (h2 j hj hl)
 · obtain ⟨hl, rfl⟩ := List.getElem?_eq_some_iff.1 hb
   intro e
   exact h3 hk (by rw [cB_get hl, e]; rfl)
theorem trim_last (x : List UInt8) : trimT x = [] ∨ cB (trimT x) ((trimT x).length - 1) ≠ 60 := by
 obtain ⟨k, h1, h2, h3, h4⟩ := trim_take x
 rcases Nat.eq_zero_or_pos k with e | e
 · exact .inl (by rw [h2, e]; rfl)
 · refine .inr ?_
   rw [h2, List.length_take, Nat.min_eq_left h1, cB_take (by omega)]
   exact h4 e
theorem trim_chars {x : List UInt8} (h : fieldB x = true) : ∀ k, k < (trimT x).length → ltrB (cB (trimT x) k) = true ∨ cB (trimT x) k = 60 := by
 obtain ⟨n, h1, h2, _, _⟩ := trim_take x
 intro k hk
 rw [h2] at hk ⊢
 simp at hk
 rw [cB_take (by omega)]
 exact field_at h k (by omega)
theorem trim_full {x : List UInt8} (h : x ≠ []) : (trimT x).length = x.length ↔ cB x (x.length - 1) ≠ 60 := by
 have hp := List.length_pos_iff.2 h
 obtain ⟨n, h1, h2, h3, h4⟩ := trim_take x
 rw [h2, List.length_take, Nat.min_eq_left h1]
 constructor
 · intro e; rw [← e]; exact h4 (by omega)
 · intro e
   rcases Nat.lt_or_ge n x.length with h5 | h5
   · exact absurd (h3 (x.length - 1) (by omega) (by omega)) e
   · omega
theorem trim_len (x : List UInt8) : (trimT x).length ≤ x.length := by
 obtain ⟨n, h1, h2, _⟩ := trim_take x
 rw [h2]; simp; omega
def spE (x : List UInt8) : Int := if x.length < 1 ∨ 64 < x.length then 2 else if fieldB x = false then 12 else if surL (trimT x) ≠ [] ∧ nameL (surL (trimT x)) = true ∧ nameL (givL (trimT x)) = true then 0 else 1
def spA (x : List UInt8) : List UInt8 := if spE x = 0 then surL (trimT x) else []
def spB (x : List UInt8) : List UInt8 := if spE x = 0 then givL (trimT x) else []
def spF (x : List UInt8) : Bool := if spE x = 0 then decide (cB x (x.length - 1) ≠ 60) else false
theorem sp_no {x : List UInt8} {e : Int} (h : spE x = e) (he : e ≠ 0) : spA x = [] ∧ spB x = [] ∧ spF x = false := by
 have : spE x ≠ 0 := by rw [h]; exact he
 unfold spA spB spF
 rw [if_neg this, if_neg this, if_neg this]
 exact ⟨rfl, rfl, rfl⟩
theorem sp_yes {x : List UInt8} (h : spE x = 0) : spA x = surL (trimT x) ∧ spB x = givL (trimT x) ∧ spF x = decide (cB x (x.length - 1) ≠ 60) := by
 unfold spA spB spF
 rw [if_pos h, if_pos h, if_pos h]
 exact ⟨rfl, rfl, rfl⟩
theorem results_4 {fn : Func} {t u v z : Tmp} (h : fn.results = #[.tmp t, .tmp u, .tmp v, .tmp z]) (tmps : Array Value) (P : Program) (w : World) :
 (results fn tmps).run P w = .ok (.tuple #[tmps.getD t undef, tmps.getD u undef, tmps.getD v undef, tmps.getD z undef]) w := by
 simp [results, h]
theorem ret4 {P : Program} {fn : Func} {t u v z : Tmp} (h : fn.results = #[.tmp t, .tmp u, .tmp v, .tmp z]) {a : Act} {w : World} {post : Ending → World → Prop} (hd : a.defers = [])
 (hp : post (.returned (.tuple #[a.tmps.getD t undef, a.tmps.getD u undef, a.tmps.getD v undef, a.tmps.getD z undef])) w) : bodyPost P fn post .ret a w :=
 bodyPost_ret (results_4 h _ _ _) hd hp
theorem p_ex_fs (s : ByteArray) (x : List UInt8) (hx : s = S x) (w : World) (hm : s.size ≤ 140737488355328) :
 Calls Tryz.prog 134 #[.string s, .int .u8 60, .int .u8 32] w fun e w' => e = .returned (.string (S (exL 60 32 x))) ∧ Below w.heap.size w w' := p_exchange s x hx 60 32 w hm
theorem p_trim (s : ByteArray) (x : List UInt8) (hx : s = S x) (w : World) (hm : s.size ≤ 140737488355328) :
 Calls Tryz.prog 131 #[.string s, .string ⟨#[60]⟩] w fun e w' => e = .returned (.string (S (trimT x))) ∧ w' = w := by
 have h := sh_strings_TrimRight_one s 60 (by decide) w (by omega)
 rw [show s.data.toList = x by rw [hx, S_data]] at h
 exact h
theorem p_cut (s : ByteArray) (x : List UInt8) (hx : s = S x) (m : Int) (w : World) (hs : s.size ≤ 64) (hm : w.cell? ⟨3, 0, none⟩ = some (.int .i64 m)) :
 Calls Tryz.prog 132 #[.string s, .string ⟨#[60, 60]⟩] w fun e w' => e = .returned (.tuple #[.string (S (Lib.cut x [60, 60]).1), .string (S (Lib.cut x [60, 60]).2.1), .bool (Lib.cut x [60, 60]).2.2]) ∧ ∃ n, w' = w.drewN n := by
 have h := sh_strings_Cut s ⟨#[60, 60]⟩ m w (by omega) hm
 rw [show s.data.toList = x by rw [hx, S_data]] at h
 exact h
set_option maxHeartbeats 1600000 in
theorem p_split (s : ByteArray) (x : List UInt8) (hx : s = S x) (w : World) (hm : s.size ≤ 140737488355328) (mx : Int) (hmx : w.cell? ⟨3, 0, none⟩ = some (.int .i64 mx)) :
 Calls Tryz.prog 100 #[.string s] w fun e w' => e = .returned (.tuple #[.string (S (spA x)), .string (S (spB x)), .bool (spF x), .int .i64 (spE x)]) ∧ Below w.heap.size w w' := by
 have hl : s.size = x.length := by rw [hx, S_size]
 have HX := Lib.hid hx
 have HL := Lib.hid hl
 have HMX := Lib.hid hmx
 clear hx hmx
 by_cases h1 : x.length < 1 ∨ 64 < x.length
 · have e : spE x = 2 := by unfold spE; rw [if_pos h1]
   obtain ⟨a1, a2, a3⟩ := sp_no e (by decide)
   rw [a1, a2, a3, e]
   rw [← hl] at h1
   clear hl e a1 a2 a3
   rcases h1 with h1 | h1
   all_goals
    go_enter Tryz.func100, Tryz.ntmps100
    go_wp2_with fail
    refine ret4 rfl rfl ?_
    exact ⟨rfl, Below.refl _ _⟩
 ·
  have b1 : 1 ≤ s.size := by omega
  have b2 : s.size ≤ 64 := by omega
  rcases hf : fieldB x with _ | _
  · have e : spE x = 12 := by unfold spE; rw [if_neg h1, if_pos hf]
    obtain ⟨a1, a2, a3⟩ := sp_no e (by decide)
    rw [a1, a2, a3, e]
    have HF := Lib.hid hf
    clear hl e a1 a2 a3 h1 hf
    go_enter Tryz.func100, Tryz.ntmps100
    go_wp2_with (go_at_call 133; refine (p_field s x HX.out _ hm).mono ?_; rintro e w' ⟨rfl, hw⟩; rw [hw, HF.out]; clear hw)
    refine ret4 rfl rfl ?_
    exact ⟨rfl, Below.refl _ _⟩
  ·
   have HF := Lib.hid hf
   obtain ⟨T, hT⟩ : ∃ T, S (trimT x) = T := ⟨_, rfl⟩
   have hTs : T.size = (trimT x).length := by rw [← hT, S_size]
   have hT64 : T.size ≤ 64 := by have := trim_len x; omega
   obtain ⟨FA, hFA⟩ : ∃ FA, S (Lib.cut (trimT x) [60, 60]).1 = FA := ⟨_, rfl⟩
   obtain ⟨FB, hFB⟩ : ∃ FB, S (Lib.cut (trimT x) [60, 60]).2.1 = FB := ⟨_, rfl⟩
   obtain ⟨SA, hSA⟩ : ∃ SA, S (surL (trimT x)) = SA := ⟨_, rfl⟩
   obtain ⟨SB, hSB⟩ : ∃ SB, S (givL (trimT x)) = SB := ⟨_, rfl⟩
   have hca : (Lib.cut (trimT x) [60, 60]).1.length ≤ 64 ∧ (Lib.cut (trimT x) [60, 60]).2.1.length ≤ 64 := by
    have := trim_len x
    unfold Lib.cut
    split
    · simp; omega
    · simp; omega
   have hA64 : FA.size ≤ 140737488355328 := by rw [← hFA, S_size]; omega
   have hB64 : FB.size ≤ 140737488355328 := by rw [← hFB, S_size]; omega
   have hSA64 : SA.size ≤ 140737488355328 := by rw [← hSA, S_size]; unfold surL; rw [exL_length]; omega
   have hSB64 : SB.size ≤ 140737488355328 := by rw [← hSB, S_size]; unfold givL; rw [exL_length]; omega
   have HT := Lib.hid hT
   have HFA := Lib.hid hFA
   have HFB := Lib.hid hFB
   have HSA := Lib.hid hSA
   have HSB := Lib.hid hSB
   have hfull : ((T.size : Int) == (s.size : Int)) = decide (cB x (x.length - 1) ≠ 60) := by
    rw [hTs, hl]
    have hne : x ≠ [] := by intro e; rw [e] at hl; simp only [List.length_nil] at hl; omega
    by_cases e : (trimT x).length = x.length
    · rw [e, decide_eq_true ((trim_full hne).1 e)]; simp
    · rw [decide_eq_false (fun e2 => e ((trim_full hne).2 e2))]; rw [beq_eq_false_iff_ne]; omega
   obtain ⟨FU, hFU⟩ : ∃ FU, decide (cB x (x.length - 1) ≠ 60) = FU := ⟨_, rfl⟩
   rw [hFU] at hfull
   have HFU := Lib.hid hFU
   clear hT hFA hFB hca hFU
   by_cases n0 : surL (trimT x) = []
   ·
    have e : spE x = 1 := by unfold spE; rw [if_neg h1, if_neg (by rw [hf]; decide), if_neg (fun g => g.1 n0)]
    obtain ⟨a1, a2, a3⟩ := sp_no e (by decide)
    rw [a1, a2, a3, e]
    have hem := s_nil hSA.symm n0
    clear hl e a1 a2 a3 h1 hf hSA hSB n0 hTs
    go_enter Tryz.func100, Tryz.ntmps100
    go_wp2_with (first
     | (go_at_call 133; refine (p_field s x HX.out _ hm).mono ?_; rintro e w' ⟨rfl, hw⟩; rw [hw, HF.out]; clear hw)
     | (go_at_call 131; refine (p_trim s x HX.out _ hm).mono ?_; rintro e w' ⟨rfl, hw⟩; rw [hw, HT.out]; clear hw)
     | (go_at_call 132; refine (p_cut T _ HT.out.symm mx _ hT64 HMX.out).mono ?_; rintro e w1 ⟨rfl, hw1⟩; rw [HFA.out, HFB.out])
     | (go_at_call 134; first
      | ((with_reducible refine (p_ex_fs FA _ HFA.out.symm _ hA64).mono ?_); rintro e w2 ⟨rfl, hw2⟩; rw [show S (exL 60 32 (Lib.cut (trimT x) [60, 60]).1) = SA from HSA.out])
      | ((with_reducible refine (p_ex_fs FB _ HFB.out.symm _ hB64).mono ?_); rintro e w3 ⟨rfl, hw3⟩; rw [show S (exL 60 32 (Lib.cut (trimT x) [60, 60]).2.1) = SB from HSB.out])))
    refine ret4 rfl rfl ?_
    exact ⟨rfl, below_on (below_on (below_dr hw1) hw2) hw3⟩
   ·
    have hne := s_ne hSA.symm n0
    rcases hna : nameL (surL (trimT x)) with _ | _
    ·
     have e : spE x = 1 := by unfold spE; rw [if_neg h1, if_neg (by rw [hf]; decide), if_neg (fun g => by rw [hna] at g; exact absurd g.2.1 (by decide))]
     obtain ⟨a1, a2, a3⟩ := sp_no e (by decide)
     rw [a1, a2, a3, e]
     have HNA := Lib.hid hna
     clear hl e a1 a2 a3 h1 hf hSA hSB n0 hTs hna
     go_enter Tryz.func100, Tryz.ntmps100
     go_wp2_with (first
      | (go_at_call 133; refine (p_field s x HX.out _ hm).mono ?_; rintro e w' ⟨rfl, hw⟩; rw [hw, HF.out]; clear hw)
      | (go_at_call 131; refine (p_trim s x HX.out _ hm).mono ?_; rintro e w' ⟨rfl, hw⟩; rw [hw, HT.out]; clear hw)
      | (go_at_call 132; refine (p_cut T _ HT.out.symm mx _ hT64 HMX.out).mono ?_; rintro e w1 ⟨rfl, hw1⟩; rw [HFA.out, HFB.out])
      | (go_at_call 134; first
       | ((with_reducible refine (p_ex_fs FA _ HFA.out.symm _ hA64).mono ?_); rintro e w2 ⟨rfl, hw2⟩; rw [show S (exL 60 32 (Lib.cut (trimT x) [60, 60]).1) = SA from HSA.out])
       | ((with_reducible refine (p_ex_fs FB _ HFB.out.symm _ hB64).mono ?_); rintro e w3 ⟨rfl, hw3⟩; rw [show S (exL 60 32 (Lib.cut (trimT x) [60, 60]).2.1) = SB from HSB.out]))
      | (go_at_call 103; first
       | (with_reducible refine (p_name SA _ HSA.out.symm _ hSA64).mono ?_; rintro e w' ⟨rfl, hw⟩; rw [hw, HNA.out]; clear hw)
       | (with_reducible refine (p_name SB _ HSB.out.symm _ hSB64).mono ?_; rintro e w' ⟨rfl, hw⟩; rw [hw, HNB.out]; clear hw)))
     refine ret4 rfl rfl ?_
     exact ⟨rfl, below_on (below_on (below_dr hw1) hw2) hw3⟩
    ·
     have HNA := Lib.hid hna
     rcases hnb : nameL (givL (trimT x)) with _ | _
     ·
      have e : spE x = 1 := by unfold spE; rw [if_neg h1, if_neg (by rw [hf]; decide), if_neg (fun g => by rw [hnb] at g; exact absurd g.2.2 (by decide))]
      obtain ⟨a1, a2, a3⟩ := sp_no e (by decide)
      rw [a1, a2, a3, e]
      have HNB := Lib.hid hnb
      clear hl e a1 a2 a3 h1 hf hSA hSB n0 hTs hna hnb
      go_enter Tryz.func100, Tryz.ntmps100
      go_wp2_with (first
       | (go_at_call 133; refine (p_field s x HX.out _ hm).mono ?_; rintro e w' ⟨rfl, hw⟩; rw [hw, HF.out]; clear hw)
       | (go_at_call 131; refine (p_trim s x HX.out _ hm).mono ?_; rintro e w' ⟨rfl, hw⟩; rw [hw, HT.out]; clear hw)
       | (go_at_call 132; refine (p_cut T _ HT.out.symm mx _ hT64 HMX.out).mono ?_; rintro e w1 ⟨rfl, hw1⟩; rw [HFA.out, HFB.out])
       | (go_at_call 134; first
        | ((with_reducible refine (p_ex_fs FA _ HFA.out.symm _ hA64).mono ?_); rintro e w2 ⟨rfl, hw2⟩; rw [show S (exL 60 32 (Lib.cut (trimT x) [60, 60]).1) = SA from HSA.out])
        | ((with_reducible refine (p_ex_fs FB _ HFB.out.symm _ hB64).mono ?_); rintro e w3 ⟨rfl, hw3⟩; rw [show S (exL 60 32 (Lib.cut (trimT x) [60, 60]).2.1) = SB from HSB.out]))
       | (go_at_call 103; first
        | (with_reducible refine (p_name SA _ HSA.out.symm _ hSA64).mono ?_; rintro e w' ⟨rfl, hw⟩; rw [hw, HNA.out]; clear hw)
        | (with_reducible refine (p_name SB _ HSB.out.symm _ hSB64).mono ?_; rintro e w' ⟨rfl, hw⟩; rw [hw, HNB.out]; clear hw)))
      refine ret4 rfl rfl ?_
      exact ⟨rfl, below_on (below_on (below_dr hw1) hw2) hw3⟩
     ·
      have e : spE x = 0 := by unfold spE; rw [if_neg h1, if_neg (by rw [hf]; decide), if_pos ⟨n0, hna, hnb⟩]
      obtain ⟨a1, a2, a3⟩ := sp_yes e
      rw [a1, a2, a3, e, HSA.out, HSB.out, HFU.out]
      have HNB := Lib.hid hnb
      clear hl e a1 a2 a3 h1 hf hSA hSB n0 hTs hna hnb
      go_enter Tryz.func100, Tryz.ntmps100
      go_wp2_with (first
       | (go_at_call 133; refine (p_field s x HX.out _ hm).mono ?_; rintro e w' ⟨rfl, hw⟩; rw [hw, HF.out]; clear hw)
       | (go_at_call 131; refine (p_trim s x HX.out _ hm).mono ?_; rintro e w' ⟨rfl, hw⟩; rw [hw, HT.out]; clear hw)
       | (go_at_call 132; refine (p_cut T _ HT.out.symm mx _ hT64 HMX.out).mono ?_; rintro e w1 ⟨rfl, hw1⟩; rw [HFA.out, HFB.out])
       | (go_at_call 134; first
        | ((with_reducible refine (p_ex_fs FA _ HFA.out.symm _ hA64).mono ?_); rintro e w2 ⟨rfl, hw2⟩; rw [show S (exL 60 32 (Lib.cut (trimT x) [60, 60]).1) = SA from HSA.out])
        | ((with_reducible refine (p_ex_fs FB _ HFB.out.symm _ hB64).mono ?_); rintro e w3 ⟨rfl, hw3⟩; rw [show S (exL 60 32 (Lib.cut (trimT x) [60, 60]).2.1) = SB from HSB.out]))
       | (go_at_call 103; first
        | (with_reducible refine (p_name SA _ HSA.out.symm _ hSA64).mono ?_; rintro e w' ⟨rfl, hw⟩; rw [hw, HNA.out]; clear hw)
        | (with_reducible refine (p_name SB _ HSB.out.symm _ hSB64).mono ?_; rintro e w' ⟨rfl, hw⟩; rw [hw, HNB.out]; clear hw)))
      refine ret4 rfl rfl ?_
      exact ⟨rfl, below_on (below_on (below_dr hw1) hw2) hw3⟩
theorem RI.len {t : List UInt8} {m r a : Nat} {P0 P1 : List UInt8} (h : RI t m r a P0 P1) : P0.length ≤ t.length ∧ P1.length ≤ t.length := by
 obtain ⟨_, _, _, _, h5⟩ := h
 rcases h5 with ⟨_, _, h7, h8⟩ | ⟨_, p, _, _, _, _, h7, h8⟩
 · rw [h7, h8, exL_length]; simp; omega
 · rw [h7, h8, exL_length, exL_length]; simp; omega
theorem take_one {x : List UInt8} {k : Nat} (h : k < x.length) : (x.drop k).take 1 = [x[k]] := by rw [List.drop_eq_getElem_cons h]; rfl
theorem spE_good {x : List UInt8} (h1 : ¬ (x.length < 1 ∨ 64 < x.length)) (hf : fieldB x = true) : (goodT (trimT x) → spE x = 0) ∧ (¬ goodT (trimT x) → spE x = 1) := by
 have hi := good_iff (trim_chars hf) (trim_last x)
 constructor
 · intro h; unfold spE; rw [if_neg h1, if_neg (by rw [hf]; decide), if_pos (hi.2 h)]
 · intro h; unfold spE; rw [if_neg h1, if_neg (by rw [hf]; decide), if_neg (fun g => h (hi.1 g))]
theorem cB_app (x y : List UInt8) (i : Nat) : cB (x ++ y) i = if i < x.length then cB x i else cB y (i - x.length) := by
 unfold cB
 rw [List.getD_eq_getElem?_getD, List.getD_eq_getElem?_getD, List.getD_eq_getElem?_getD]
 split
 · rename_i h; rw [List.getElem?_append_left h]
 · rename_i h; rw [List.getElem?_append_right (by omega)]
theorem cB_fi (x : List UInt8) (i : Nat) : cB (exL 32 60 x) i = if cB x i = 32 then 60 else cB x i := by
 rcases Nat.lt_or_ge i x.length with h | h
 · have h2 : i < (exL 32 60 x).length := by rw [exL_length]; exact h
   rw [cB_get h2, cB_get h]
   simp only [exL, List.getElem_map, exB]
   by_cases e : x[i] = 32
   · rw [if_pos e, if_pos (by rw [e]; rfl)]; rfl
   · rw [if_neg e, if_neg]
     intro e2
     exact e (UInt8.toNat_inj.1 (Int.ofNat_inj.1 e2))
 · rw [cB_out (by rw [exL_length]; exact h), cB_out h]
   rfl
theorem ltr_bd {n : Int} (h : ltrB n = true) : 65 ≤ n ∧ n ≤ 90 := of_decide_eq_true h
theorem name_chars {x : List UInt8} (h : nameL x = true) {k : Nat} (hk : k < x.length) : ltrB (cB x k) = true ∨ (cB x k = 32 ∧ 0 < k ∧ k + 1 < x.length ∧ ltrB (cB x (k - 1)) = true ∧ ltrB (cB x (k + 1)) = true) := by
 have h1 := nameL_at h k hk
 unfold okP at h1
 rw [Bool.or_eq_true] at h1
 rcases h1 with h1 | h1
 · exact .inl h1
 · exact .inr (of_decide_eq_true h1)
def PartOk (y : List UInt8) : Prop := (∀ k, k < y.length → ltrB (cB y k) = true ∨ cB y k = 60) ∧ (y ≠ [] → cB y 0 ≠ 60 ∧ cB y (y.length - 1) ≠ 60) ∧ (∀ i, ¬ pairT y i)
theorem part_ok {x : List UInt8} (h : nameL x = true) : PartOk (exL 32 60 x) := by
 refine ⟨fun k hk => ?_, fun hne => ?_, fun i hp => ?_⟩
 · rw [exL_length] at hk
   rw [cB_fi]
   rcases name_chars h hk with h1 | h1
   · rw [if_neg (fun e => by rw [e] at h1; cases h1)]; exact .inl h1
   · rw [if_pos h1.1]; exact .inr rfl
 · have hp : 0 < x.length := by rw [← exL_length 32 60 x]; exact List.length_pos_iff.2 hne
   rw [exL_length, cB_fi, cB_fi]
   constructor
   · rcases name_chars h hp with h1 | h1
     · have := ltr_bd h1
       rw [if_neg (by omega)]; omega
     · omega
   · rcases name_chars h (show x.length - 1 < x.length by omega) with h1 | h1
     · have := ltr_bd h1
       rw [if_neg (by omega)]; omega
     · omega
 · have l1 := cB_in hp.1
   rw [exL_length] at l1
   obtain ⟨h0, h1⟩ := hp
   rw [cB_fi] at h0 h1
   rcases name_chars h l1 with h2 | h2
   · have := ltr_bd h2
     rw [if_neg (by omega)] at h0
     omega
   · have := ltr_bd h2.2.2.2.2
     rw [if_neg (by omega)] at h1
     omega
theorem ex_back {x : List UInt8} (h : nameL x = true) : exL 60 32 (exL 32 60 x) = x := by
 unfold exL
 rw [List.map_map]
 have : ∀ c ∈ x, (exB 60 32 ∘ exB 32 60) c = c := by
  intro c hc
  obtain ⟨k, hk, rfl⟩ := List.getElem_of_mem hc
  have h1 := name_chars h hk
  rw [cB_get hk] at h1
  show exB 60 32 (exB 32 60 x[k]) = x[k]
  unfold exB
  by_cases e : x[k] = 32
  · rw [if_pos e, if_pos rfl, e]
  · rw [if_neg e, if_neg]
    intro e2
    rw [e2] at h1
    rcases h1 with h1 | h1
    · exact absurd (ltr_bd h1).1 (by decide)
    · exact absurd h1.1 (by decide)
 conv => rhs; rw [← List.map_id x]
 exact List.map_congr_left this
def joinN (x y : List UInt8) : List UInt8 := exL 32 60 x ++ (if y = [] then [] else [60, 60] ++ exL 32 60 y)
theorem joinN_len (x y : List UInt8) : (joinN x y).length = x.length + if y = [] then 0 else 2 + y.length := by
 unfold joinN
 rw [List.length_append, exL_length]
 split
 · rfl
 · rw [List.length_append, exL_length]; rfl
theorem field_join (x y : List UInt8) (w : Nat) : fieldL x y w = (joinN x y ++ List.replicate (w + 2) 60).take w := by
 unfold joinN
 by_cases h : y = []
 · rw [if_pos h, List.append_nil, h, field_none, take_fill _ w (w + 2) (by omega)]
 · rw [if_neg h, field_some, take_fill _ w (w + 2) (by omega)]
theorem join_pair {x y : List UInt8} (hx : nameL x = true) (hy : nameL y = true) {i : Nat} (h : pairT (joinN x y) i) : i = x.length ∧ y ≠ [] := by
 have px := part_ok hx
 have py := part_ok hy
 unfold joinN at h
 by_cases hy0 : y = []
 · rw [if_pos hy0, List.append_nil] at h
   exact absurd h (px.2.2 i)
 ·
  rw [if_neg hy0] at h
  refine ⟨?_, hy0⟩
  have hny : exL 32 60 y ≠ [] := fun e => hy0 (by have := congrArg List.length e; rw [exL_length] at this; exact List.eq_nil_of_length_eq_zero this)
  have hyp : 0 < y.length := List.length_pos_iff.2 hy0
  obtain ⟨h0, h1⟩ := h
  rw [cB_app, exL_length] at h0 h1
  rcases Nat.lt_or_ge i x.length with c | c
  · exfalso
    rw [if_pos c] at h0
    rcases Nat.lt_or_ge (i + 1) x.length with c2 | c2
    · rw [if_pos c2] at h1
      exact px.2.2 i ⟨h0, h1⟩
    · have hne : exL 32 60 x ≠ [] := fun e => by have := congrArg List.length e; rw [exL_length] at this; simp only [List.length_nil] at this; omega
      have h3 := (px.2.1 hne).2
      rw [exL_length, show x.length - 1 = i by omega] at h3
      exact h3 h0
  · rw [if_neg (by omega), cB_app] at h0 h1
    simp only [List.length_cons, List.length_nil] at h0 h1
    rcases Nat.lt_or_ge (i - x.length) 1 with c2 | c2
    · omega
    · exfalso
      rcases (show i - x.length = 1 ∨ 2 ≤ i - x.length by omega) with c3 | c3
      · rw [if_neg (by omega), show i + 1 - x.length - (0 + 1 + 1) = 0 by omega] at h1
        exact (py.2.1 hny).1 h1
      · rw [if_neg (by omega)] at h0 h1
        exact py.2.2 (i - x.length - (0 + 1 + 1)) ⟨h0, by rw [show i - x.length - (0 + 1 + 1) + 1 = i + 1 - x.length - (0 + 1 + 1) by omega]; exact h1⟩
theorem join_chars {x y : List UInt8} (hx : nameL x = true) (hy : nameL y = true) (k : Nat) (hk : k < (joinN x y).length) : ltrB (cB (joinN x y) k) = true ∨ cB (joinN x y) k = 60 := by
 have px := part_ok hx
 have py := part_ok hy
 rw [joinN_len] at hk
 unfold joinN
 by_cases hy0 : y = []
 · rw [if_pos hy0] at hk ⊢
   rw [List.append_nil]
   exact px.1 k (by rw [exL_length]; omega)
 · rw [if_neg hy0] at hk ⊢
   rw [cB_app, exL_length]
   split
   · exact px.1 k (by rw [exL_length]; omega)
   · rw [cB_app]
     simp only [List.length_cons, List.length_nil]
     split
     · rcases (show k - x.length = 0 ∨ k - x.length = 1 by omega) with e | e <;> rw [e] <;> exact .inr rfl
     · exact py.1 _ (by rw [exL_length]; omega)
theorem join_ends {x y : List UInt8} (hx : nameL x = true) (hy : nameL y = true) (hx0 : x ≠ []) : cB (joinN x y) 0 ≠ 60 ∧ cB (joinN x y) ((joinN x y).length - 1) ≠ 60 := by
 have px := part_ok hx
 have py := part_ok hy
 have hp := List.length_pos_iff.2 hx0
 have hne : exL 32 60 x ≠ [] := fun e => by have := congrArg List.length e; rw [exL_length] at this; simp only [List.length_nil] at this; omega
 have ex := px.2.1 hne
 rw [exL_length] at ex
 rw [joinN_len]
 unfold joinN
 constructor
 · rw [cB_app, exL_length, if_pos hp]; exact ex.1
 · by_cases hy0 : y = []
   · rw [if_pos hy0, if_pos hy0, List.append_nil]; exact ex.2
   · have hyp : 0 < y.length := List.length_pos_iff.2 hy0
     have hny : exL 32 60 y ≠ [] := fun e => by have := congrArg List.length e; rw [exL_length] at this; simp only [List.length_nil] at this; omega
     have ey := (py.2.1 hny).2
     rw [exL_length] at ey
     rw [if_neg hy0, if_neg hy0, cB_app, exL_length, if_neg (by omega), cB_app]
     simp only [List.length_cons, List.length_nil]
     rw [if_neg (by omega), show x.length + (2 + y.length) - 1 - x.length - (0 + 1 + 1) = y.length - 1 by omega]
     exact ey
theorem field_back {x y : List UInt8} (hx : nameL x = true) (hy : nameL y = true) (hx0 : x ≠ []) {w : Nat} (h1 : 1 ≤ w) (h2 : w ≤ 64) :
 spE (fieldL x y w) = 0 ∧ (fieldL x y w).length = w ∧
 ((joinN x y).length ≤ w → spA (fieldL x y w) = x ∧ spB (fieldL x y w) = y ∧ spF (fieldL x y w) = decide ((joinN x y).length = w)) ∧
 (w < (joinN x y).length → (spA (fieldL x y w)).length ≤ x.length ∧ x.take (spA (fieldL x y w)).length = spA (fieldL x y w)) := by
 obtain ⟨G, hG⟩ : ∃ G, joinN x y = G := ⟨_, rfl⟩
 obtain ⟨F, hF⟩ : ∃ F, fieldL x y w = F := ⟨_, rfl⟩
 have hFG : F = (G ++ List.replicate (w + 2) 60).take w := by rw [← hF, field_join, hG]
 have hch := join_chars hx hy
 have hen := join_ends hx hy hx0
 have hpr := fun i (h : pairT (joinN x y) i) => join_pair hx hy h
 have hGl := joinN_len x y
 have hxp := List.length_pos_iff.2 hx0
 rw [hG] at hch hen hpr hGl
 rw [hF, hG]
 have hlen : F.length = w := by rw [hFG, List.length_take, List.length_append, List.length_replicate]; omega
 have hcF : ∀ i, cB F i = if i < w then (if i < G.length then cB G i else 60) else 0 := by
  intro i
  by_cases hi : i < w
  · rw [if_pos hi, hFG, cB_take hi, cB_app]
    split
    · rfl
    · unfold cB
      rw [List.getD_eq_getElem?_getD, List.getElem?_replicate, if_pos (by omega)]
      rfl
  · rw [if_neg hi, cB_out (by omega)]
 have hfb : fieldB F = true := field_good (fun k hk => by
  rw [hcF, if_pos (by omega)]
  split
  · rename_i h; exact hch k h
  · exact .inr rfl)
 obtain ⟨k, k1, k2, k3, k4⟩ := trim_take F
 obtain ⟨t, ht⟩ : ∃ t, trimT F = t := ⟨_, rfl⟩
 rw [ht] at k2
 have hkG : k ≤ G.length := by
  rcases Nat.lt_or_ge G.length k with h | h
  · exfalso
    have := k4 (by omega)
    rw [hcF, if_pos (by omega), if_neg (by omega)] at this
    exact this rfl
  · exact h
 have htl : t.length = k := by rw [k2, List.length_take]; omega
 have hct : ∀ i, i < k → cB t i = cB G i := fun i hi => by rw [k2, cB_take hi, hcF, if_pos (by omega), if_pos (by omega)]
 have hk0 : 0 < k := by
  rcases Nat.eq_zero_or_pos k with e | e
  · exfalso
    have h3 := k3 0 (by omega) (by omega)
    rw [hcF, if_pos (by omega), if_pos (by omega)] at h3
    exact hen.1 h3
  · exact e
 have htG : t = G.take k := by
  rw [k2, hFG, List.take_take, Nat.min_eq_left (by omega), List.take_append_of_le_length hkG]
 have hpt : ∀ i, pairT t i → i = x.length ∧ y ≠ [] ∧ i + 1 < k := fun i hp => by
  have l1 := cB_in hp.2
  rw [htl] at l1
  have := hpr i ⟨by rw [← hct i (by omega)]; exact hp.1, by rw [← hct (i + 1) l1]; exact hp.2⟩
  exact ⟨this.1, this.2, l1⟩
 have hgood : goodT t := by
  refine ⟨fun e => by rw [e] at htl; simp only [List.length_nil] at htl; omega, ?_, fun i j hij hi hj => ?_⟩
  · rw [hct 0 hk0]; exact hen.1
  · have e1 := (hpt i hi).1
    have e2 := (hpt j hj).1
    omega
 have hsE : spE F = 0 := (spE_good (by rw [hlen]; omega) hfb).1 (by rw [ht]; exact hgood)
 obtain ⟨a1, a2, a3⟩ := sp_yes hsE
 rw [ht] at a1 a2
 refine ⟨hsE, hlen, fun hle => ?_, fun hlt => ?_⟩
 ·
  have hkk : k = G.length := by
   rcases Nat.lt_or_ge k G.length with h | h
   · exfalso
     have h3 := k3 (G.length - 1) (by omega) (by omega)
     rw [hcF, if_pos (by omega), if_pos (by omega)] at h3
     exact hen.2 h3
   · omega
  have htg : t = G := by rw [htG, hkk, List.take_length]
  refine ⟨?_, ?_, ?_⟩
  ·
   rw [a1]
   unfold surL
   by_cases hy0 : y = []
   · rw [cut_none (fun i hp => (hpt i hp).2.1 hy0), htg, ← hG]
     unfold joinN
     rw [if_pos hy0, List.append_nil]
     exact ex_back hx
   · have hp : pairT t x.length := by
      rw [htg, ← hG]
      unfold joinN
      rw [if_neg hy0]
      refine ⟨?_, ?_⟩
      · rw [cB_app, exL_length, if_neg (by omega), Nat.sub_self]; rfl
      · rw [cB_app, exL_length, if_neg (by omega), show x.length + 1 - x.length = 1 by omega]; rfl
     rw [cut_some hp (fun i hi hp2 => by have := (hpt i hp2).1; omega), htg, ← hG]
     unfold joinN
     show exL 60 32 (List.take x.length (exL 32 60 x ++ _)) = x
     rw [List.take_left' (exL_length _ _ _)]
     exact ex_back hx
  ·
   rw [a2]
   unfold givL
   by_cases hy0 : y = []
   · rw [cut_none (fun i hp => (hpt i hp).2.1 hy0), hy0]; rfl
   · have hp : pairT t x.length := by
      rw [htg, ← hG]
      unfold joinN
      rw [if_neg hy0]
      refine ⟨?_, ?_⟩
      · rw [cB_app, exL_length, if_neg (by omega), Nat.sub_self]; rfl
      · rw [cB_app, exL_length, if_neg (by omega), show x.length + 1 - x.length = 1 by omega]; rfl
     rw [cut_some hp (fun i hi hp2 => by have := (hpt i hp2).1; omega), htg, ← hG]
     unfold joinN
     rw [if_neg hy0]
     show exL 60 32 (List.drop (x.length + 2) (exL 32 60 x ++ ([60, 60] ++ exL 32 60 y))) = y
     rw [← List.append_assoc, List.drop_left' (by rw [List.length_append, exL_length]; rfl)]
     exact ex_back hy
  · rw [a3, hlen, hcF, if_pos (by omega)]
    by_cases e : G.length = w
    · rw [if_pos (by omega), decide_eq_true e]
      refine decide_eq_true ?_
      rw [← e]; exact hen.2
    · rw [if_neg (by omega), decide_eq_false e]
      exact decide_eq_false (fun h => h rfl)
 ·
  rw [a1]
  have hkx : ∀ (h : ¬ ∃ i, pairT t i), k ≤ x.length := by
   intro h
   by_cases hy0 : y = []
   · rw [if_pos hy0] at hGl; omega
   · rcases Nat.lt_or_ge x.length k with c | c
     · exfalso
       have c0 : cB G x.length = 60 := by
        rw [← hG]; unfold joinN; rw [if_neg hy0, cB_app, exL_length, if_neg (by omega), Nat.sub_self]; rfl
       have c1 : cB G (x.length + 1) = 60 := by
        rw [← hG]; unfold joinN; rw [if_neg hy0, cB_app, exL_length, if_neg (by omega), show x.length + 1 - x.length = 1 by omega]; rfl
       rcases Nat.lt_or_ge (x.length + 1) k with c2 | c2
       · exact h ⟨x.length, by rw [hct _ c]; exact c0, by rw [hct _ c2]; exact c1⟩
       · have h5 := k4 hk0
         rw [hcF, if_pos (by omega), if_pos (by omega), show k - 1 = x.length by omega] at h5
         exact h5 c0
     · exact c
  unfold surL
  by_cases hp : ∃ i, pairT t i
  · obtain ⟨i, hi⟩ := hp
    obtain ⟨rfl, hy0, hik⟩ := hpt i hi
    rw [cut_some hi (fun j hj hp2 => by have := (hpt j hp2).1; omega)]
    have e : exL 60 32 (t.take x.length) = x := by
     rw [htG, List.take_take, Nat.min_eq_left (by omega), ← hG]
     unfold joinN
     rw [List.take_left' (exL_length _ _ _)]
     exact ex_back hx
    show (exL 60 32 (t.take x.length)).length ≤ _ ∧ _ = exL 60 32 (t.take x.length)
    rw [e]
    exact ⟨Nat.le_refl _, List.take_length⟩
  · have hkl := hkx hp
    rw [cut_none (fun i h => hp ⟨i, h⟩)]
    have e : exL 60 32 t = x.take k := by
     rw [htG, ← hG]
     unfold joinN
     rw [List.take_append_of_le_length (by rw [exL_length]; exact hkl)]
     have : exL 60 32 ((exL 32 60 x).take k) = (exL 60 32 (exL 32 60 x)).take k := by unfold exL; rw [List.map_take]
     rw [this, ex_back hx]
    show (exL 60 32 t).length ≤ _ ∧ _ = exL 60 32 t
    rw [e, List.length_take, Nat.min_eq_left hkl]
    exact ⟨hkl, rfl⟩
end Go.Proofs.YtibahbkjjfmbgaaGreatDoor
