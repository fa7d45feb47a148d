/-
  What is proved here: which templates are valid, by the reference.
-/
import Derived.Test.YtobbnedojmcgoaaB1
namespace Go.Proofs.Ytobbnedojmcgoaa
open Go.RowKit
set_option linter.unusedVariables false
set_option linter.unusedSimpArgs false

theorem rpart_cases (k p : Int) : ((k == 1) = false ∧ (k == 2) = false ∧ (k == 3) = false ∧ partB k p = false) ∨
    (k = 1 ∧ decide (p < 0) = true ∧ partB k p = false) ∨ (k = 1 ∧ decide (p < 0) = false ∧ decide (0 < p) = true ∧ partB k p = false) ∨ (k = 1 ∧ decide (p < 0) = false ∧ decide (0 < p) = false ∧ partB k p = true) ∨
    (k = 2 ∧ decide (p < 0) = true ∧ partB k p = false) ∨ (k = 2 ∧ decide (p < 0) = false ∧ decide (10 < p) = true ∧ partB k p = false) ∨ (k = 2 ∧ decide (p < 0) = false ∧ decide (10 < p) = false ∧ (p == 0) = true ∧ partB k p = false) ∨ (k = 2 ∧ decide (p < 0) = false ∧ decide (10 < p) = false ∧ (p == 0) = false ∧ partB k p = true) ∨
    (k = 3 ∧ decide (p < 0) = true ∧ partB k p = false) ∨ (k = 3 ∧ decide (p < 0) = false ∧ decide (2 < p) = true ∧ partB k p = false) ∨ (k = 3 ∧ decide (p < 0) = false ∧ decide (2 < p) = false ∧ (p == 0) = true ∧ partB k p = false) ∨ (k = 3 ∧ decide (p < 0) = false ∧ decide (2 < p) = false ∧ (p == 0) = false ∧ partB k p = true) := by
  unfold partB
  by_cases h1 : k = 1
  · subst h1
    simp
    omega
  · by_cases h2 : k = 2
    · subst h2
      simp
      omega
    · by_cases h3 : k = 3
      · subst h3
        simp
        omega
      · simp [h1, h2, h3]
set_option maxHeartbeats 6400000 in
theorem r_valid (x : Tm) (A : Option Addr) (c : Nat) (w : World) : Calls Try.prog 8 #[.agg (x.cs A c).toArray] w fun e w' => e = .returned (.int .i64 (vT x)) ∧ Below w.heap.size w w' := by
  have hF := fun w => rd_valid x.f w
  have hT := fun w => rd_valid x.t w
  obtain ⟨n, hn⟩ : ∃ n, x.d.length = n := ⟨_, rfl⟩
  have hc := vT_cases x n hn
  have hk := rpart_cases x.k x.p
  have ha : (x.cs A c).toArray = #[.int .i64 x.k, .int .i64 x.p, .int .i64 x.f, .int .i64 x.t, .int .i64 x.fo, .int .i64 x.q, .slice A n c] := by rw [← hn]; rfl
  rw [ha]
  clear ha hn
  obtain ⟨v, hv⟩ : ∃ v, vT x = v := ⟨_, rfl⟩
  obtain ⟨k, p, f, t, fo, q, d⟩ := x
  simp only at hF hT hc hk ⊢
  rw [hv] at hc ⊢
  obtain ⟨b1, hb1⟩ : ∃ b, partB k p = b := ⟨_, rfl⟩
  obtain ⟨b2, hb2⟩ : ∃ b, dayB f = b := ⟨_, rfl⟩
  obtain ⟨b3, hb3⟩ : ∃ b, dayB t = b := ⟨_, rfl⟩
  rw [hb1] at hk hc
  rw [hb2] at hF hc
  rw [hb3] at hT hc
  have HP := Lib.hid (show _ ∧ _ from ⟨hF, hT⟩)
  clear hF hT hb1 hb2 hb3 hv
  rcases hk with ⟨h1, h2, h3, rfl⟩ | ⟨rfl, h1, rfl⟩ | ⟨rfl, h1, h2, rfl⟩ | ⟨rfl, h1, h2, rfl⟩ | ⟨rfl, h1, rfl⟩ | ⟨rfl, h1, h2, rfl⟩ | ⟨rfl, h1, h2, h3, rfl⟩ | ⟨rfl, h1, h2, h3, rfl⟩ | ⟨rfl, h1, rfl⟩ | ⟨rfl, h1, h2, rfl⟩ | ⟨rfl, h1, h2, h3, rfl⟩ | ⟨rfl, h1, h2, h3, rfl⟩
  all_goals
    simp only [Bool.false_eq_true, Bool.true_eq_false, true_and, false_and, or_false, false_or] at hc
  all_goals first
    | subst hc
    | rcases hc with ⟨rfl, rfl⟩ | ⟨rfl, rfl, rfl⟩ | ⟨rfl, rfl, h4, rfl⟩ | ⟨rfl, rfl, h4, ⟨h5, rfl⟩ | ⟨h5, h6, rfl⟩ | ⟨h5, h6, h7, rfl⟩ | ⟨h5, h6, h7, h8, rfl⟩ | ⟨h5, h6, h7, h8, ⟨rfl, rfl⟩ | ⟨h9, h10, rfl⟩ | ⟨h9, h10, rfl⟩⟩⟩
  all_goals
    go_enter Try.func8, Try.ntmps8
    go_wp2_with (first
      | (go_at_call 29; ((with_reducible refine (HP.out.1 _).mono ?_); rintro e w' ⟨rfl, rfl⟩))
      | (go_at_call 29; ((with_reducible refine (HP.out.2 _).mono ?_); rintro e w' ⟨rfl, rfl⟩)))
    go_ret
    exact ⟨rfl, below_al1 _ _⟩
end Go.Proofs.Ytobbnedojmcgoaa
