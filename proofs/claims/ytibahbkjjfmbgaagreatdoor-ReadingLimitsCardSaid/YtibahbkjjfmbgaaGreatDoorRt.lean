/-
  What is proved here: a region that draws its order, all of whose operations but the last only read (or call what lays blocks of its own), and whose last waits for all others: one walk in the order of the text. Nothing of the program is used.
-/
import Derived.Test.YtibahbkjjfmbgaaGreatDoorRs
import Derived.Lib.QuietBelow
namespace Go.Proofs.YtibahbkjjfmbgaaGreatDoor
open Go.RowKit
set_option linter.unusedVariables false

def tailB (head : Array Oper) (t : Oper) : Bool :=
  ((List.range head.size).all fun i => match head[i]? with
    | none => true
    | some o => o.guard.isNone && o.after.all (fun e => decide (e.on < i))) && t.guard.isNone && (List.range head.size).all fun i => t.after.any fun e => Region.binds .any e && decide (e.on = i)
theorem tailB_at {head : Array Oper} {t : Oper} (h : tailB head t = true) : (∀ (i : Nat) (o : Oper), head[i]? = some o → o.guard = none ∧ ∀ e ∈ o.after, e.on < i) ∧ t.guard = none ∧ ∀ i, i < head.size → ∃ e ∈ t.after, Region.binds .any e = true ∧ e.on = i := by
  unfold tailB at h
  simp only [Bool.and_eq_true, List.all_eq_true] at h
  obtain ⟨⟨h1, h2⟩, h3⟩ := h
  refine ⟨fun i o hi => ?_, by simpa using h2, fun i hi => ?_⟩
  · have h4 := h1 i (List.mem_range.2 (Array.getElem?_eq_some_iff.1 hi).1)
    rw [hi] at h4
    simp only [Bool.and_eq_true] at h4
    refine ⟨by simpa using h4.1, fun e he => ?_⟩
    have h5 := h4.2
    rw [Array.all_eq_true'] at h5
    simpa using h5 e he
  · have h4 := h3 i (List.mem_range.2 hi)
    rw [Array.any_eq_true'] at h4
    obtain ⟨e, he, h5⟩ := h4
    simp only [Bool.and_eq_true, decide_eq_true_eq] at h5
    exact ⟨e, he, h5⟩
section
variable {head : Array Oper} {t : Oper} {L : Array Bool}
theorem push_D {j : Nat} (b : Bool) (hj : j < L.size) : (L.push false).getD j b = L.getD j b := by
  simp [Array.getD_eq_getD_getElem?, Array.getElem?_push, Nat.ne_of_lt hj]
theorem push_last (b : Bool) : (L.push false).getD L.size b = false := by simp [Array.getD_eq_getD_getElem?]
theorem D_eq {j : Nat} (hj : j < L.size) : L.getD j true = L.getD j false := by
  simp [Array.getD_eq_getD_getElem?, hj]
theorem ready_iff {md : Region.Mode} {ops : Array Oper} {i : Nat} : i ∈ Region.ready md ops L ↔ i < ops.size ∧ L.getD i true = false ∧ ∀ o, ops[i]? = some o → ∀ e ∈ o.after, Region.binds md e = true → L.getD e.on false = true := by
  unfold Region.ready
  rw [List.mem_filter, List.mem_range]
  constructor
  · rintro ⟨h1, h2⟩
    rw [Array.getElem?_eq_getElem h1] at h2 ⊢
    simp only [Option.map_some, Option.getD_some, Bool.and_eq_true, Bool.not_eq_true'] at h2
    refine ⟨h1, h2.1, fun o ho e he hb => ?_⟩
    injection ho with ho
    subst ho
    have h3 := h2.2
    rw [Array.all_eq_true'] at h3
    have := h3 e he
    rw [hb] at this
    simpa using this
  · rintro ⟨h1, h2, h3⟩
    refine ⟨h1, ?_⟩
    rw [h2, Array.getElem?_eq_getElem h1]
    simp only [Bool.not_false, Bool.true_and, Option.map_some, Option.getD_some]
    rw [Array.all_eq_true']
    intro e he
    rcases hb : Region.binds md e with _ | _
    · rfl
    · rw [h3 _ (Array.getElem?_eq_getElem h1) e he hb]; rfl
theorem ready_head (hB : tailB head t = true) (hL : L.size = head.size) {i : Nat} (hi : i < head.size) : i ∈ Region.ready .any (head.push t) (L.push false) ↔ i ∈ Region.ready .any head L := by
  rw [ready_iff, ready_iff]
  have e1 : (head.push t)[i]? = head[i]? := by simp [Array.getElem?_push, Nat.ne_of_lt hi]
  rw [e1, push_D true (by omega), Array.size_push]
  constructor
  · rintro ⟨h1, h2, h3⟩
    refine ⟨hi, h2, fun o ho e he hb => ?_⟩
    have := h3 o ho e he hb
    rwa [push_D false (by have := ((tailB_at hB).1 i o ho).2 e he; omega)] at this
  · rintro ⟨h1, h2, h3⟩
    refine ⟨by omega, h2, fun o ho e he hb => ?_⟩
    have := h3 o ho e he hb
    rwa [push_D false (by have := ((tailB_at hB).1 i o ho).2 e he; omega)]
theorem ready_last (hB : tailB head t = true) (hL : L.size = head.size) : head.size ∈ Region.ready .any (head.push t) (L.push false) → ∀ j, j < head.size → L.getD j false = true := by
  rw [ready_iff]
  rintro ⟨_, _, h3⟩ j hj
  obtain ⟨e, he, hb, ho⟩ := (tailB_at hB).2.2 j hj
  have := h3 t (by simp) e he hb
  rw [ho, push_D false (by omega)] at this
  exact this
theorem ready_none (hB : tailB head t = true) (hL : L.size = head.size) (h0 : Region.ready .any head L = []) : ∀ j, j < head.size → L.getD j false = true := by
  intro j
  induction j using Nat.strongRecOn with
  | _ j ih =>
    intro hj
    rcases hc : L.getD j false with _ | _
    · exfalso
      have : j ∈ Region.ready .any head L := by
        rw [ready_iff]
        refine ⟨hj, by rw [D_eq (by omega)]; exact hc, fun o ho e he hb => ?_⟩
        have := ((tailB_at hB).1 j o ho).2 e he
        exact ih e.on this (by omega)
      rw [h0] at this
      simp at this
    · rfl
theorem last_ready (hL : L.size = head.size) (hlow : ∀ e ∈ t.after, e.on < head.size) (hall : ∀ j, j < head.size → L.getD j false = true) : head.size ∈ Region.ready .any (head.push t) (L.push false) := by
  rw [ready_iff]
  refine ⟨by simp, by rw [← hL]; exact push_last _, fun o ho e he hb => ?_⟩
  have ho' : o = t := by simpa using ho.symm
  subst ho'
  rw [push_D false (by have := hlow e he; omega)]
  exact hall _ (hlow e he)
end
theorem tail_of_Q {P : Program} {head : Array Oper} {t : Oper} {Q : Exit → Act → World → Prop} {C : World → Prop} {Lq : Act → Prop} (hB : tailB head t = true) (hlow : ∀ e ∈ t.after, e.on < head.size)
    (hT : ∀ a w, C w → Lq a → wpOp P (head.push t) Q head.size (fun a w => Q .normal a w) a w) :
    ∀ (fuel : Nat) (L : Array Bool) (a : Act) (w : World), L.size = head.size → C w → wpAnyQ P .any head C Lq fuel L a → wpAny P .any (head.push t) Q (fuel + 1) (L.push false) a w
  | fuel, L, a, w, hL, hC, h => by
    have hne : Region.ready .any (head.push t) (L.push false) ≠ [] := by
      intro h0
      have h1 : Region.ready .any head L = [] := by
        rw [List.eq_nil_iff_forall_not_mem]
        intro i hi
        have hlt := (ready_iff.1 hi).1
        have := (ready_head hB hL hlt).2 hi
        rw [h0] at this
        simp at this
      have := last_ready (t := t) hL hlow (ready_none hB hL h1)
      rw [h0] at this
      simp at this
    have hlast : (∀ j, j < head.size → L.getD j false = true) → Lq a → wpOp P (head.push t) Q head.size (wpAny P .any (head.push t) Q fuel ((L.push false).setIfInBounds head.size true)) a w := by
      intro hall hq
      refine wpOp_mono (fun a' w' hn => ?_) (hT a w hC hq)
      have h0 : Region.ready .any (head.push t) ((L.push false).setIfInBounds head.size true) = [] := by
        rw [List.eq_nil_iff_forall_not_mem]
        intro i hi
        obtain ⟨h1, h2, _⟩ := ready_iff.1 hi
        rw [Array.size_push] at h1
        by_cases e : i = head.size
        · subst e
          simp [Array.getD_eq_getD_getElem?, hL] at h2
        · have : ((L.push false).setIfInBounds head.size true).getD i true = L.getD i true := by
            rw [← push_D true (by omega : i < L.size)]
            simp [Array.getD_eq_getD_getElem?, Ne.symm e]
          rw [this, D_eq (by omega), hall i (by omega)] at h2
          cases h2
      cases fuel with
      | zero => exact ⟨h0, hn⟩
      | succ f => exact ⟨fun _ => hn, fun i hi => by rw [h0] at hi; simp at hi⟩
    refine ⟨fun h0 => absurd h0 hne, fun i hi => ?_⟩
    have hisz := (ready_iff.1 hi).1
    rw [Array.size_push] at hisz
    by_cases e : i = head.size
    · subst e
      have hall := ready_last hB hL hi
      have h0 : Region.ready .any head L = [] := by
        rw [List.eq_nil_iff_forall_not_mem]
        intro j hj
        obtain ⟨h1, h2, _⟩ := ready_iff.1 hj
        rw [D_eq (by omega), hall j h1] at h2
        cases h2
      refine hlast hall ?_
      cases fuel with
      | zero => exact h.2
      | succ f => exact h.1 h0
    · have hlt : i < head.size := by omega
      have hi' := (ready_head hB hL hlt).1 hi
      cases fuel with
      | zero => have := h.1; rw [this] at hi'; simp at hi'
      | succ f =>
        have hq := h.2 i hi'
        have e1 : (head.push t)[i]? = head[i]? := by simp [Array.getElem?_push, e]
        have hq2 : qOp P (head.push t) C i (wpAnyQ P .any head C Lq f (L.setIfInBounds i true)) a := by
          unfold qOp at hq ⊢
          rw [e1]
          rcases ho : head[i]? with _ | o
          · rw [ho] at hq; exact hq
          · rw [ho] at hq
            have hg := ((tailB_at hB).1 i o ho).1
            have w1 : Region.wanted o (yielded head a.tmps) = true := by simp [Region.wanted, hg]
            have w2 : Region.wanted o (yielded (head.push t) a.tmps) = true := by simp [Region.wanted, hg]
            simp only [w1, w2, if_true] at hq ⊢
            exact hq
        have e2 : (L.push false).setIfInBounds i true = (L.setIfInBounds i true).push false := by
          apply Array.ext_getElem?
          intro j
          by_cases ej : j = i
          · subst ej
            have hj : j < L.size := by omega
            rw [Array.getElem?_push, Array.getElem?_setIfInBounds_self_of_lt (by simp; omega), if_neg (by simp; omega), Array.getElem?_setIfInBounds_self_of_lt hj]
          · simp [Array.getElem?_push, Ne.symm ej]
        rw [e2]
        exact wpOp_of_qOp hC (fun a' w' hC' hk => tail_of_Q hB hlow hT f _ a' w' (by simpa using hL) hC' hk) hq2
/-- THE REGION -/
theorem wp_region_quiet_tail {P : Program} {id : Nat} {Q : Exit → Act → World → Prop} {a : Act} {w : World} {head : List Oper} {t : Oper} (hm : P.follows .mixedOrders = true) (hX : Region.lexB .any head.toArray = true) (hB : tailB head.toArray t = true) (hlow : t.after.all (fun e => decide (e.on < head.length)) = true)
    (h : wpQuiet P head.toArray (fun w' => ∃ p : Regrown, w' = Go.Sort.grow (redrawn w p.d) p.os) (fun a' => ∀ w', (∃ p : Regrown, w' = Go.Sort.grow (redrawn w p.d) p.os) → wpList P (head.toArray.push t) Q [t] a' w') head a) :
    (Code.region id (head ++ [t]).toArray true).wp P Q a w := by
  have he : (head ++ [t]).toArray = head.toArray.push t := by simp
  rw [he]
  simp only [Region.lexB, Bool.and_eq_true] at hX
  refine wp_region_any hm ?_
  have hs : (head.toArray.push t).size = head.toArray.size + 1 := by simp
  rw [hs]
  have hr : Array.replicate (head.toArray.size + 1) false = (Array.replicate head.toArray.size false).push false := by
    rw [Array.replicate_succ]
  rw [hr]
  refine tail_of_Q (C := fun w' => ∃ p : Regrown, w' = Go.Sort.grow (redrawn w p.d) p.os) (Lq := fun a' => ∀ w', (∃ p : Regrown, w' = Go.Sort.grow (redrawn w p.d) p.os) → wpList P (head.toArray.push t) Q [t] a' w') hB (fun e he => ?_) (fun a' w' hC hl => ?_) _ _ _ _ (by simp) ⟨⟨w.drawn + 1, #[]⟩, by rw [Go.Sort.grow_empty]; rfl⟩ ?_
  · rw [Array.all_eq_true'] at hlow
    simpa using hlow e he
  · have hg := (tailB_at hB).2.1
    have hl2 := hl w' hC
    have e2 : (head.toArray.push t)[head.toArray.size]? = some t := by simp
    unfold wpOp
    rw [e2]
    exact hl2
  · have := wpAnyQ_lex (md := .any) hX.1 head 0 (Array.replicate head.toArray.size false) a (by simp) (by simpa using hX.2) h
    simpa using this
end Go.Proofs.YtibahbkjjfmbgaaGreatDoor
