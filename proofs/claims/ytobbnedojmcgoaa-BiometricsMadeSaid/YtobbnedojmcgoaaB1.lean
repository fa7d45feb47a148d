/-
  What is proved here: which templates are valid, by the program and by the reference.
-/
import Derived.Test.YtobbnedojmcgoaaBp
namespace Go.Proofs.Ytobbnedojmcgoaa
open Go.RowKit
set_option linter.unusedVariables false
set_option linter.unusedSimpArgs false

theorem part_cases (k p : Int) : ((k == 1) = true ∧ (p == 0) = true ∧ partB k p = true) ∨ ((k == 1) = true ∧ (p == 0) = false ∧ partB k p = false) ∨
    ((k == 1) = false ∧ (k == 2) = true ∧ decide (1 ≤ p) = false ∧ partB k p = false) ∨ ((k == 1) = false ∧ (k == 2) = true ∧ decide (1 ≤ p) = true ∧ decide (p ≤ 10) = false ∧ partB k p = false) ∨ ((k == 1) = false ∧ (k == 2) = true ∧ decide (1 ≤ p) = true ∧ decide (p ≤ 10) = true ∧ partB k p = true) ∨
    ((k == 1) = false ∧ (k == 2) = false ∧ (k == 3) = true ∧ decide (1 ≤ p) = false ∧ partB k p = false) ∨ ((k == 1) = false ∧ (k == 2) = false ∧ (k == 3) = true ∧ decide (1 ≤ p) = true ∧ decide (p ≤ 2) = false ∧ partB k p = false) ∨ ((k == 1) = false ∧ (k == 2) = false ∧ (k == 3) = true ∧ decide (1 ≤ p) = true ∧ decide (p ≤ 2) = true ∧ partB k p = true) ∨
    ((k == 1) = false ∧ (k == 2) = false ∧ (k == 3) = false ∧ partB k p = false) := by
  unfold partB
  by_cases h1 : k = 1
  · subst h1
    by_cases h2 : p = 0
    · subst h2; simp
    · simp [h2]
  · by_cases h2 : k = 2
    · subst h2
      by_cases h3 : 1 ≤ p
      · by_cases h4 : p ≤ 10 <;> simp [h3, h4]
      · simp [h3]
    · by_cases h3 : k = 3
      · subst h3
        by_cases h4 : 1 ≤ p
        · by_cases h5 : p ≤ 2 <;> simp [h4, h5]
        · simp [h4]
      · simp [h1, h2, h3]
theorem p_has_part (k p : Int) (w : World) : Calls Try.prog 27 #[.int .i64 k, .int .i64 p] w fun e w' => e = .returned (.bool (partB k p)) ∧ w = w' := by
  rcases part_cases k p with ⟨h1, h2, hv⟩ | ⟨h1, h2, hv⟩ | ⟨h1, h2, h3, hv⟩ | ⟨h1, h2, h3, h4, hv⟩ | ⟨h1, h2, h3, h4, hv⟩ | ⟨h1, h2, h3, h4, hv⟩ | ⟨h1, h2, h3, h4, h5, hv⟩ | ⟨h1, h2, h3, h4, h5, hv⟩ | ⟨h1, h2, h3, hv⟩
  all_goals
    rw [hv]
    clear hv
    go_enter Try.func27, Try.ntmps27
    go_wp2
    go_ret
    exact ⟨rfl, rfl⟩
/-- in which order the errors of a template come -/
theorem vT_cases (x : Tm) (n : Nat) (hn : x.d.length = n) :
    (partB x.k x.p = false ∧ vT x = 14) ∨ (partB x.k x.p = true ∧ dayB x.f = false ∧ vT x = 8) ∨ (partB x.k x.p = true ∧ dayB x.f = true ∧ dayB x.t = false ∧ vT x = 8) ∨ (partB x.k x.p = true ∧ dayB x.f = true ∧ dayB x.t = true ∧ decide (x.t < x.f) = true ∧ vT x = 8) ∨
    (partB x.k x.p = true ∧ dayB x.f = true ∧ dayB x.t = true ∧ decide (x.t < x.f) = false ∧ ((decide (x.fo < 0) = true ∧ vT x = 3) ∨ (decide (x.fo < 0) = false ∧ decide (65535 < x.fo) = true ∧ vT x = 3) ∨ (decide (x.fo < 0) = false ∧ decide (65535 < x.fo) = false ∧ decide (x.q < 0) = true ∧ vT x = 3) ∨ (decide (x.fo < 0) = false ∧ decide (65535 < x.fo) = false ∧ decide (x.q < 0) = false ∧ decide (100 < x.q) = true ∧ vT x = 3) ∨
      (decide (x.fo < 0) = false ∧ decide (65535 < x.fo) = false ∧ decide (x.q < 0) = false ∧ decide (100 < x.q) = false ∧ (((n = 0) ∧ vT x = 2) ∨ (1 ≤ n ∧ decide (1024 < (n : Int)) = true ∧ vT x = 2) ∨ (1 ≤ n ∧ decide (1024 < (n : Int)) = false ∧ vT x = 0))))) := by
  subst hn
  rcases h1 : partB x.k x.p with _ | _
  · simp [vT, h1]
  rcases h2 : dayB x.f with _ | _
  · simp [vT, h1, h2, dateT]
  rcases h3 : dayB x.t with _ | _
  · simp [vT, h1, h2, h3, dateT]
  by_cases h4 : x.t < x.f
  · have : ¬ x.f ≤ x.t := by omega
    simp [vT, h1, h2, h3, h4, dateT, this]
  have h4' : x.f ≤ x.t := by omega
  by_cases h5 : x.fo < 0
  · have : ¬ 0 ≤ x.fo := by omega
    simp [vT, h1, h2, h3, h4, h4', dateT, rangT, h5, this]
  have h5' : 0 ≤ x.fo := by omega
  by_cases h6 : 65535 < x.fo
  · have : ¬ x.fo ≤ 65535 := by omega
    simp [vT, h1, h2, h3, h4, h4', dateT, rangT, h5, h5', h6, this]
  have h6' : x.fo ≤ 65535 := by omega
  by_cases h7 : x.q < 0
  · have : ¬ 0 ≤ x.q := by omega
    simp [vT, h1, h2, h3, h4, h4', dateT, rangT, h5, h5', h6, h6', h7, this]
  have h7' : 0 ≤ x.q := by omega
  by_cases h8 : 100 < x.q
  · have : ¬ x.q ≤ 100 := by omega
    simp [vT, h1, h2, h3, h4, h4', dateT, rangT, h5, h5', h6, h6', h7, h7', h8, this]
  have h8' : x.q ≤ 100 := by omega
  by_cases h9 : x.d.length = 0
  · have : ¬ 1 ≤ x.d.length := by omega
    simp [vT, h1, h2, h3, h4, h4', dateT, rangT, h5, h5', h6, h6', h7, h7', h8, h8', sizeT, h9, this]
  have h9' : 1 ≤ x.d.length := by omega
  by_cases h10 : 1024 < x.d.length
  · have a : ¬ x.d.length ≤ 1024 := by omega
    have b : (1024 : Int) < (x.d.length : Int) := by omega
    simp [vT, h1, h2, h3, h4, h4', dateT, rangT, h5, h5', h6, h6', h7, h7', h8, h8', sizeT, h9', a, b]
  · have a : x.d.length ≤ 1024 := by omega
    have b : ¬ (1024 : Int) < (x.d.length : Int) := by omega
    simp [vT, h1, h2, h3, h4, h4', dateT, rangT, h5, h5', h6, h6', h7, h7', h8, h8', sizeT, h9', a, b]
theorem below_al1 (w : World) (o : Obj) : Below w.heap.size w (w.alloc o) := (Below.refl _ _).alloc (Nat.le_refl _) o
set_option maxHeartbeats 1600000 in
theorem p_valid (x : Tm) (A : Option Addr) (c : Nat) (w : World) : Calls Try.prog 7 #[.agg (x.cs A c).toArray] w fun e w' => e = .returned (.int .i64 (vT x)) ∧ Below w.heap.size w w' := by
  have hP := fun w => p_has_part x.k x.p w
  have hF := fun w => day_valid x.f w
  have hT := fun w => day_valid x.t w
  obtain ⟨n, hn⟩ : ∃ n, x.d.length = n := ⟨_, rfl⟩
  have hc := vT_cases x n hn
  have ha : (x.cs A c).toArray = #[.int .i64 x.k, .int .i64 x.p, .int .i64 x.f, .int .i64 x.t, .int .i64 x.fo, .int .i64 x.q, .slice A n c] := by rw [← hn]; rfl
  rw [ha]
  clear ha hn
  obtain ⟨v, hv⟩ : ∃ v, vT x = v := ⟨_, rfl⟩
  obtain ⟨k, p, f, t, fo, q, d⟩ := x
  simp only at hP hF hT hc ⊢
  rw [hv] at hc ⊢
  obtain ⟨b1, hb1⟩ : ∃ b, partB k p = b := ⟨_, rfl⟩
  obtain ⟨b2, hb2⟩ : ∃ b, dayB f = b := ⟨_, rfl⟩
  obtain ⟨b3, hb3⟩ : ∃ b, dayB t = b := ⟨_, rfl⟩
  rw [hb1] at hP hc
  rw [hb2] at hF hc
  rw [hb3] at hT hc
  have HP := Lib.hid (show _ ∧ _ ∧ _ from ⟨hP, hF, hT⟩)
  clear hP hF hT hb1 hb2 hb3 hv
  rcases hc with ⟨rfl, rfl⟩ | ⟨rfl, rfl, rfl⟩ | ⟨rfl, rfl, rfl, rfl⟩ | ⟨rfl, rfl, rfl, h4, rfl⟩ | ⟨rfl, rfl, rfl, h4, ⟨h5, rfl⟩ | ⟨h5, h6, rfl⟩ | ⟨h5, h6, h7, rfl⟩ | ⟨h5, h6, h7, h8, rfl⟩ | ⟨h5, h6, h7, h8, ⟨rfl, rfl⟩ | ⟨h9, h10, rfl⟩ | ⟨h9, h10, rfl⟩⟩⟩
  all_goals
    go_enter Try.func7, Try.ntmps7
    go_wp2_with (first
      | (go_at_call 27; ((with_reducible refine (HP.out.1 _).mono ?_); rintro e w' ⟨rfl, rfl⟩))
      | (go_at_call 28; ((with_reducible refine (HP.out.2.1 _).mono ?_); rintro e w' ⟨rfl, rfl⟩))
      | (go_at_call 28; ((with_reducible refine (HP.out.2.2 _).mono ?_); rintro e w' ⟨rfl, rfl⟩)))
    go_ret
    exact ⟨rfl, below_al1 _ _⟩
end Go.Proofs.Ytobbnedojmcgoaa
