/-
  What is proved here: plain facts on fields of names: without its fillers at the end a field consists of two names exactly if it begins with no filler and has at most one pair of fillers; what a walk over it, letter by letter, gathers. Nothing of the program is used.
-/
import Derived.Test.YtdlcoilpkelbaaaGreatDoorOn
import Derived.Test.YtdlcoilpkelbaaaGreatDoorOe
import Derived.Lib.IndexMore
import Derived.Lib.TrimByte
namespace Go.Proofs.YtdlcoilpkelbaaaGreatDoor
open Go.RowKit

def pairT (t : List UInt8) (i : Nat) : Prop := cB t i = 60 ∧ cB t (i + 1) = 60
def goodT (t : List UInt8) : Prop := t ≠ [] ∧ cB t 0 ≠ 60 ∧ ∀ i j, i < j → pairT t i → pairT t j → False
def surL (t : List UInt8) : List UInt8 := exL 60 32 (Lib.cut t [60, 60]).1
def givL (t : List UInt8) : List UInt8 := exL 60 32 (Lib.cut t [60, 60]).2.1

theorem cB_out {x : List UInt8} {i : Nat} (h : x.length ≤ i) : cB x i = 0 := by
  unfold cB
  rw [List.getD_eq_getElem?_getD, List.getElem?_eq_none h]
  rfl
theorem cB_take {x : List UInt8} {i k : Nat} (h : i < k) : cB (x.take k) i = cB x i := by
  unfold cB
  rw [List.getD_eq_getElem?_getD, List.getD_eq_getElem?_getD, List.getElem?_take, if_pos h]
theorem cB_drop (x : List UInt8) (i k : Nat) : cB (x.drop k) i = cB x (k + i) := by
  unfold cB
  rw [List.getD_eq_getElem?_getD, List.getD_eq_getElem?_getD, List.getElem?_drop]
theorem cB_in {x : List UInt8} {i : Nat} (h : cB x i = 60) : i < x.length := by
  rcases Nat.lt_or_ge i x.length with h1 | h1
  · exact h1
  · rw [cB_out h1] at h; cases h
theorem cB_ex (x : List UInt8) (i : Nat) : cB (exL 60 32 x) i = if cB x i = 60 then 32 else cB x i := by
  rcases Nat.lt_or_ge i x.length with h | h
  · have h2 : i < (exL 60 32 x).length := by rw [exL_length]; exact h
    rw [cB_get h2, cB_get h]
    simp only [exL, List.getElem_map, exB]
    by_cases e : x[i] = 60
    · rw [if_pos e, if_pos (by rw [e]; rfl)]; rfl
    · rw [if_neg e, if_neg]
      intro e2
      exact e (UInt8.toNat_inj.1 (Int.ofNat_inj.1 e2))
  · rw [cB_out (by rw [exL_length]; exact h), cB_out h]
    rfl
theorem occ_pair (t : List UInt8) (i : Nat) : Lib.occAt t [60, 60] i = true ↔ pairT t i := by
  constructor
  · intro h
    have h2 : i + 2 ≤ t.length := by
      rcases Lib.occAt_room h with h2 | h2
      · exact h2
      · cases h2
    rw [Lib.occAt_iff_take t [60, 60] i h2] at h
    have h3 : (t.drop i).take 2 = [60, 60] := by simpa using h
    have e0 : cB ((t.drop i).take 2) 0 = 60 := by rw [h3]; rfl
    have e1 : cB ((t.drop i).take 2) 1 = 60 := by rw [h3]; rfl
    rw [cB_take (by omega), cB_drop] at e0 e1
    exact ⟨e0, e1⟩
  · intro ⟨h0, h1⟩
    have l1 := cB_in h1
    rw [Lib.occAt_iff_take t [60, 60] i (by simp; omega)]
    rw [cB_get (by omega)] at h0
    rw [cB_get l1] at h1
    have e0 : t[i] = 60 := UInt8.toNat_inj.1 (Int.ofNat_inj.1 h0)
    have e1 : t[i + 1] = 60 := UInt8.toNat_inj.1 (Int.ofNat_inj.1 h1)
    rw [List.drop_eq_getElem_cons (by omega), List.drop_eq_getElem_cons l1, e0, e1]
    rfl
theorem cut_none {t : List UInt8} (h : ∀ i, ¬ pairT t i) : Lib.cut t [60, 60] = (t, [], false) := by
  unfold Lib.cut
  rw [Lib.index_none (fun j _ => by
    rcases hb : Lib.occAt t [60, 60] j with _ | _
    · rfl
    · exact absurd ((occ_pair t j).1 hb) (h j))]
  rfl
theorem cut_some {t : List UInt8} {p : Nat} (h : pairT t p) (h2 : ∀ i, i < p → ¬ pairT t i) : Lib.cut t [60, 60] = (t.take p, t.drop (p + 2), true) := by
  unfold Lib.cut
  rw [Lib.index_first (i := p) (by have := cB_in h.1; omega) ((occ_pair t p).2 h) (fun j hj => by
    rcases hb : Lib.occAt t [60, 60] j with _ | _
    · rfl
    · exact absurd ((occ_pair t j).1 hb) (h2 j hj))]
  simp
theorem first_pair {t : List UInt8} {j : Nat} (h : pairT t j) : ∃ p, p ≤ j ∧ pairT t p ∧ ∀ i, i < p → ¬ pairT t i := by
  induction j using Nat.strongRecOn with
  | _ j ih =>
    by_cases h2 : ∃ i, i < j ∧ pairT t i
    · obtain ⟨i, hi, hp⟩ := h2
      obtain ⟨p, h3, h4, h5⟩ := ih i hi hp
      exact ⟨p, by omega, h4, h5⟩
    · exact ⟨j, Nat.le_refl _, h, fun i hi hp => h2 ⟨i, hi, hp⟩⟩

/-- of a part: names with fillers for spaces -/
theorem name_ex {x : List UInt8} (hc : ∀ k, k < x.length → ltrB (cB x k) = true ∨ cB x k = 60) (h0 : cB x 0 ≠ 60) (hl : x = [] ∨ cB x (x.length - 1) ≠ 60) (hp : ∀ i, ¬ pairT x i) : nameL (exL 60 32 x) = true := by
  refine nameL_good fun k hk => ?_
  rw [exL_length] at hk
  rcases hc k hk with h | h
  · refine okP_let ?_
    rw [cB_ex]
    split
    · rename_i e; rw [e] at h; cases h
    · exact h
  · have hk0 : k ≠ 0 := by intro e; subst e; exact h0 h
    have hkl : k + 1 < x.length := by
      rcases hl with e | e
      · rw [e] at hk; simp at hk
      · have : x.length - 1 ≠ k := by intro e2; rw [e2] at e; exact e h
        omega
    have hL : cB x (k - 1) ≠ 60 := fun e => hp (k - 1) ⟨e, by rw [show k - 1 + 1 = k by omega]; exact h⟩
    have hR : cB x (k + 1) ≠ 60 := fun e => hp k ⟨h, e⟩
    unfold okP gapL
    rw [Bool.or_eq_true]
    refine .inr (decide_eq_true ⟨by rw [cB_ex, if_pos h], by omega, by rw [exL_length]; exact hkl, ?_, ?_⟩)
    · rw [cB_ex, if_neg hL]
      exact (hc (k - 1) (by omega)).resolve_right hL
    · rw [cB_ex, if_neg hR]
      exact (hc (k + 1) hkl).resolve_right hR
theorem gap_of {x : List UInt8} (h : nameL (exL 60 32 x) = true) {k : Nat} (hk : cB x k = 60) : 0 < k ∧ k + 1 < x.length ∧ cB x (k - 1) ≠ 60 ∧ cB x (k + 1) ≠ 60 := by
  have hl := cB_in hk
  have h1 := nameL_at h k (by rw [exL_length]; exact hl)
  have e : cB (exL 60 32 x) k = 32 := by rw [cB_ex, if_pos hk]
  unfold okP at h1
  rw [e, show ltrB 32 = false from rfl, Bool.false_or] at h1
  have h2 := of_decide_eq_true h1
  rw [exL_length] at h2
  refine ⟨h2.2.1, h2.2.2.1, fun e2 => ?_, fun e2 => ?_⟩
  · have := h2.2.2.2.1
    rw [cB_ex, if_pos e2] at this
    cases this
  · have := h2.2.2.2.2
    rw [cB_ex, if_pos e2] at this
    cases this

theorem good_iff {t : List UInt8} (hc : ∀ k, k < t.length → ltrB (cB t k) = true ∨ cB t k = 60) (hl : t = [] ∨ cB t (t.length - 1) ≠ 60) :
    (surL t ≠ [] ∧ nameL (surL t) = true ∧ nameL (givL t) = true) ↔ goodT t := by
  by_cases hp : ∃ j, pairT t j
  · obtain ⟨j, hj⟩ := hp
    obtain ⟨p, _, h1, h2⟩ := first_pair hj
    have hcut := cut_some h1 h2
    have hlen := cB_in h1.2
    unfold surL givL
    rw [hcut]
    constructor
    · intro ⟨a1, a2, a3⟩
      have hp0 : 0 < p := by
        rcases Nat.eq_zero_or_pos p with e | e
        · subst e; simp [exL] at a1
        · exact e
      refine ⟨(by intro e; rw [e] at hlen; simp at hlen), fun e => ?_, fun i j hij hi hj => ?_⟩
      · have := (gap_of a2 (k := 0) (by show cB (t.take p) 0 = 60; rw [cB_take hp0]; exact e)).1
        omega
      · have hpi : p ≤ i := by
          rcases Nat.lt_or_ge i p with h | h
          · exact absurd hi (h2 i h)
          · exact h
        rcases Nat.lt_or_ge j (p + 2) with h | h
        · have e : j = p + 1 := by omega
          subst e
          have := (gap_of a3 (k := 0) (by show cB (t.drop (p + 2)) 0 = 60; rw [cB_drop]; exact hj.2)).1
          omega
        · have h3 := (gap_of a3 (k := j - (p + 2)) (by show cB (t.drop (p + 2)) _ = 60; rw [cB_drop, show p + 2 + (j - (p + 2)) = j by omega]; exact hj.1)).2.2.2
          refine h3 ?_
          show cB (t.drop (p + 2)) _ = 60
          rw [cB_drop, show p + 2 + (j - (p + 2) + 1) = j + 1 by omega]
          exact hj.2
    · intro ⟨g1, g2, g3⟩
      have hp0 : 0 < p := by
        rcases Nat.eq_zero_or_pos p with e | e
        · subst e; exact absurd h1.1 g2
        · exact e
      refine ⟨?_, ?_, ?_⟩
      · intro e
        have := congrArg List.length e
        rw [exL_length, List.length_take] at this
        simp only [List.length_nil] at this
        omega
      · refine name_ex (fun k hk => ?_) ?_ (.inr ?_) (fun i hi => ?_)
        · simp at hk
          rw [show (t.take p, t.drop (p + 2), true).1 = t.take p from rfl, cB_take (by omega)]
          exact hc k (by omega)
        · rw [show (t.take p, t.drop (p + 2), true).1 = t.take p from rfl, cB_take hp0]; exact g2
        · rw [show (t.take p, t.drop (p + 2), true).1 = t.take p from rfl]
          have : (t.take p).length = p := by simp; omega
          rw [this, cB_take (by omega)]
          intro e
          exact h2 (p - 1) (by omega) ⟨e, by rw [show p - 1 + 1 = p by omega]; exact h1.1⟩
        · have hi' : pairT (t.take p) i := hi
          have hb := cB_in hi'.2
          simp at hb
          refine h2 i (by omega) ⟨?_, ?_⟩
          · rw [← cB_take (k := p) (by omega)]; exact hi'.1
          · rw [← cB_take (k := p) (by omega)]; exact hi'.2
      · show nameL (exL 60 32 (t.drop (p + 2))) = true
        refine name_ex (fun k hk => ?_) ?_ ?_ (fun i hi => ?_)
        · simp at hk
          rw [cB_drop]
          exact hc _ (by omega)
        · rw [cB_drop]
          intro e
          exact g3 p (p + 1) (by omega) h1 ⟨h1.2, e⟩
        · rcases hl with e | e
          · rw [e] at hlen; simp at hlen
          · by_cases h0 : t.length = p + 2
            · exact .inl (List.drop_eq_nil_of_le (by omega))
            · refine .inr ?_
              rw [cB_drop, List.length_drop, show p + 2 + (t.length - (p + 2) - 1) = t.length - 1 by omega]
              exact e
        · have h3 := hi.1
          have h4 := hi.2
          rw [cB_drop] at h3 h4
          exact g3 p (p + 2 + i) (by omega) h1 ⟨h3, h4⟩
  · have hp' : ∀ i, ¬ pairT t i := fun i h => hp ⟨i, h⟩
    unfold surL givL
    rw [cut_none hp']
    constructor
    · intro ⟨a1, a2, _⟩
      refine ⟨fun e => a1 (by rw [e]; rfl), fun e => ?_, fun i j _ hi _ => hp' i hi⟩
      have := (gap_of a2 (k := 0) e).1
      omega
    · intro ⟨g1, g2, g3⟩
      refine ⟨fun e => g1 ?_, name_ex hc g2 hl hp', rfl⟩
      have := congrArg List.length e
      rw [exL_length] at this
      exact List.eq_nil_of_length_eq_zero this

/-! ### the walk over a field, letter by letter: m letters are gathered, r fillers follow -/
def RI (t : List UInt8) (m r : Nat) (a : Nat) (P0 P1 : List UInt8) : Prop :=
  m + r ≤ t.length ∧ (∀ j, m ≤ j → j < m + r → cB t j = 60) ∧ (0 < m → cB t (m - 1) ≠ 60) ∧ (0 < m → cB t 0 ≠ 60) ∧
  ((a = 0 ∧ (∀ j, j + 1 < m → ¬ pairT t j) ∧ P0 = exL 60 32 (t.take m) ∧ P1 = []) ∨
   (a = 1 ∧ ∃ p, 0 < p ∧ p + 2 < m ∧ pairT t p ∧ (∀ j, j + 1 < m → pairT t j → j = p) ∧ P0 = exL 60 32 (t.take p) ∧ P1 = exL 60 32 ((t.take m).drop (p + 2))))
section
variable {t : List UInt8} {m r a : Nat} {P0 P1 : List UInt8}
theorem RI.start (t : List UInt8) : RI t 0 0 0 [] [] :=
  ⟨by omega, fun j h1 h2 => by omega, fun h => by omega, fun h => by omega, .inl ⟨rfl, fun j h => by omega, by simp [exL], rfl⟩⟩
theorem RI.fill (h : RI t m r a P0 P1) (hi : m + r < t.length) (hc : cB t (m + r) = 60) : RI t m (r + 1) a P0 P1 := by
  obtain ⟨h1, h2, h3, h4, h5⟩ := h
  refine ⟨by omega, fun j j1 j2 => ?_, h3, h4, h5⟩
  rcases Nat.lt_or_ge j (m + r) with h | h
  · exact h2 j j1 h
  · rw [show j = m + r by omega]; exact hc
theorem take_snoc {x : List UInt8} {k : Nat} (h : k < x.length) : x.take (k + 1) = x.take k ++ [x[k]] := List.take_succ_eq_append_getElem h
theorem ex_let {x : List UInt8} {k : Nat} (h : k < x.length) (hc : cB x k ≠ 60) : exL 60 32 [x[k]] = [x[k]] := by
  have : x[k] ≠ 60 := fun e => hc (by rw [cB_get h, e]; rfl)
  simp [exL, exB, this]
theorem ex_app (x y : List UInt8) : exL 60 32 (x ++ y) = exL 60 32 x ++ exL 60 32 y := by simp [exL]
theorem get_60 {x : List UInt8} {k : Nat} (h : k < x.length) (hc : cB x k = 60) : x[k] = 60 := by
  rw [cB_get h] at hc
  exact UInt8.toNat_inj.1 (Int.ofNat_inj.1 hc)
/-- a letter more, no filler ahead of it -/
theorem RI.zero (h : RI t m 0 a P0 P1) (hi : m < t.length) (hc : cB t m ≠ 60) : RI t (m + 1) 0 a (if a = 0 then P0 ++ [t[m]] else P0) (if a = 0 then P1 else P1 ++ [t[m]]) := by
  obtain ⟨h1, h2, h3, h4, h5⟩ := h
  refine ⟨by omega, fun j j1 j2 => by omega, fun _ => hc, fun _ => ?_, ?_⟩
  · rcases Nat.eq_zero_or_pos m with e | e
    · subst e; exact hc
    · exact h4 e
  · rcases h5 with ⟨rfl, h6, h7, h8⟩ | ⟨rfl, p, p0, p1, p2, p3, h7, h8⟩
    · refine .inl ⟨rfl, fun j hj hp => ?_, ?_, h8⟩
      · rcases Nat.lt_or_ge (j + 1) m with h | h
        · exact h6 j h hp
        · exact hc (by rw [show m = j + 1 by omega]; exact hp.2)
      · rw [if_pos rfl, take_snoc hi, ex_app, ex_let hi hc, ← h7]
    · refine .inr ⟨rfl, p, p0, by omega, p2, fun j hj hp => ?_, h7, ?_⟩
      · rcases Nat.lt_or_ge (j + 1) m with h | h
        · exact p3 j h hp
        · exact absurd (by rw [show m = j + 1 by omega]; exact hp.2) hc
      · rw [if_neg (by omega), take_snoc hi, List.drop_append_of_le_length (by simp; omega), ex_app, ex_let hi hc, ← h8]
/-- a letter more, one filler ahead of it -/
theorem RI.one (h : RI t m 1 a P0 P1) (hi : m + 1 < t.length) (hm : 0 < m) (hc : cB t (m + 1) ≠ 60) : RI t (m + 2) 0 a (if a = 0 then P0 ++ [32] ++ [t[m + 1]] else P0) (if a = 0 then P1 else P1 ++ [32] ++ [t[m + 1]]) := by
  obtain ⟨h1, h2, h3, h4, h5⟩ := h
  have h60 := h2 m (Nat.le_refl _) (by omega)
  have e60 := get_60 (by omega) h60
  have ht : t.take (m + 2) = t.take m ++ [60] ++ [t[m + 1]] := by rw [take_snoc hi, take_snoc (by omega : m < t.length), e60]
  refine ⟨by omega, fun j j1 j2 => by omega, fun _ => hc, fun _ => h4 hm, ?_⟩
  have hnp : ∀ j, j + 1 < m + 2 → pairT t j → j + 1 < m := fun j hj hp => by
    rcases Nat.lt_or_ge (j + 1) m with h | h
    · exact h
    · exfalso
      rcases (show j + 1 = m ∨ j = m by omega) with e | e
      · exact h3 hm (by rw [show m - 1 = j by omega]; exact hp.1)
      · subst e; exact hc hp.2
  rcases h5 with ⟨rfl, h6, h7, h8⟩ | ⟨rfl, p, p0, p1, p2, p3, h7, h8⟩
  · refine .inl ⟨rfl, fun j hj hp => h6 j (hnp j hj hp) hp, ?_, h8⟩
    rw [if_pos rfl, ht, ex_app, ex_app, ex_let hi hc, ← h7]
    rfl
  · refine .inr ⟨rfl, p, p0, by omega, p2, fun j hj hp => p3 j (hnp j hj hp) hp, h7, ?_⟩
    rw [if_neg (by omega), ht, List.append_assoc (t.take m), List.drop_append_of_le_length (by simp; omega), ex_app, ex_app, ex_let hi hc, ← h8, List.append_assoc]
    rfl
/-- a letter more, two fillers ahead of it: the second part begins -/
theorem RI.two (h : RI t m 2 0 P0 P1) (hi : m + 2 < t.length) (hm : 0 < m) (hc : cB t (m + 2) ≠ 60) : RI t (m + 3) 0 1 P0 (P1 ++ [t[m + 2]]) := by
  obtain ⟨h1, h2, h3, h4, h5⟩ := h
  have f0 := h2 m (Nat.le_refl _) (by omega)
  have f1 := h2 (m + 1) (by omega) (by omega)
  refine ⟨by omega, fun j j1 j2 => by omega, fun _ => hc, fun _ => h4 hm, .inr ⟨rfl, m, hm, by omega, ⟨f0, f1⟩, fun j hj hp => ?_, ?_, ?_⟩⟩
  · rcases h5 with ⟨_, h6, _, _⟩ | ⟨e, _⟩
    · rcases Nat.lt_or_ge (j + 1) m with h | h
      · exact absurd hp (h6 j h)
      · rcases (show j + 1 = m ∨ j = m ∨ j = m + 1 by omega) with e | e | e
        · exact absurd (by rw [show m - 1 = j by omega]; exact hp.1) (h3 hm)
        · exact e
        · subst e; exact absurd hp.2 hc
    · cases e
  · rcases h5 with ⟨_, _, h7, _⟩ | ⟨e, _⟩
    · exact h7
    · cases e
  · rcases h5 with ⟨_, _, _, h8⟩ | ⟨e, _⟩
    · rw [h8, take_snoc hi, List.drop_append_of_le_length (by simp; omega), List.drop_eq_nil_of_le (by simp; omega), List.nil_append, ex_let hi hc]
    · cases e
/-- where the walk stops with an error -/
theorem RI.bad (h : RI t m r a P0 P1) (hi : m + r < t.length) (hb : 2 < r ∨ (0 < r ∧ m = 0) ∨ (r = 2 ∧ a = 1)) : ¬ goodT t := by
  obtain ⟨h1, h2, h3, h4, h5⟩ := h
  intro ⟨g1, g2, g3⟩
  rcases hb with hb | ⟨hb, e⟩ | ⟨hb, e⟩
  · exact g3 m (m + 1) (by omega) ⟨h2 m (by omega) (by omega), h2 (m + 1) (by omega) (by omega)⟩ ⟨h2 (m + 1) (by omega) (by omega), h2 (m + 2) (by omega) (by omega)⟩
  · subst e
    exact g2 (h2 0 (by omega) (by omega))
  · subst hb
    rcases h5 with ⟨e2, _⟩ | ⟨_, p, p0, p1, p2, _⟩
    · omega
    · exact g3 p m (by omega) p2 ⟨h2 m (by omega) (by omega), h2 (m + 1) (by omega) (by omega)⟩
/-- where it comes to the end -/
theorem RI.done (h : RI t m r a P0 P1) (he : m + r = t.length) (hl : t = [] ∨ cB t (t.length - 1) ≠ 60) : (P0 = [] → ¬ goodT t) ∧ (P0 ≠ [] → goodT t ∧ P0 = surL t ∧ P1 = givL t) := by
  obtain ⟨h1, h2, h3, h4, h5⟩ := h
  have hr : r = 0 := by
    rcases Nat.eq_zero_or_pos r with e | e
    · exact e
    · exfalso
      rcases hl with e2 | e2
      · rw [e2] at he; simp at he; omega
      · exact e2 (h2 _ (by omega) (by omega))
  subst hr
  have hm : m = t.length := by omega
  subst hm
  have htk : t.take t.length = t := List.take_length
  rw [htk] at h5
  constructor
  · intro e ⟨g1, g2, g3⟩
    have hpos : 0 < t.length := List.length_pos_iff.2 g1
    rcases h5 with ⟨_, _, h7, _⟩ | ⟨_, p, p0, p1, _, _, h7, _⟩
    · rw [h7] at e
      have := congrArg List.length e
      rw [exL_length] at this
      simp only [List.length_nil] at this
      omega
    · rw [h7] at e
      have := congrArg List.length e
      rw [exL_length, List.length_take] at this
      simp only [List.length_nil] at this
      omega
  · intro e
    rcases h5 with ⟨_, h6, h7, h8⟩ | ⟨_, p, p0, p1, p2, p3, h7, h8⟩
    · have hne : t ≠ [] := fun e2 => e (by rw [h7, e2]; rfl)
      have hnp : ∀ i, ¬ pairT t i := fun i hp => h6 i (by have := cB_in hp.2; omega) hp
      refine ⟨⟨hne, h4 (List.length_pos_iff.2 hne), fun i j _ hi _ => hnp i hi⟩, ?_, ?_⟩
      · unfold surL; rw [cut_none hnp, h7]
      · unfold givL; rw [cut_none hnp, h8]; rfl
    · have hne : t ≠ [] := fun e2 => by rw [e2] at p1; simp at p1
      refine ⟨⟨hne, h4 (by omega), fun i j hij hi hj => ?_⟩, ?_, ?_⟩
      · have e1 := p3 i (by have := cB_in hi.2; omega) hi
        have e2 := p3 j (by have := cB_in hj.2; omega) hj
        omega
      · unfold surL; rw [cut_some p2 (fun i hi hp => by have := p3 i (by omega) hp; omega), h7]
      · unfold givL; rw [cut_some p2 (fun i hi hp => by have := p3 i (by omega) hp; omega), h8]
end

end Go.Proofs.YtdlcoilpkelbaaaGreatDoor
