/-
  What is proved here: what Element, Multiply, Power, Invert, Public and Share return, of the program and of the reference, for all numbers.
-/
import Derived.Test.YtaikoeoabgkglaaDoorGr
namespace Go.Proofs.YtaikoeoabgkglaaDoor
open Go.RowKit

/-- whether a number is an element, and what the functions answer: the number and the code -/
def elB (x : Int) : Bool := resB x && (x != 1) && (pwZ x 1073741789 == 1)
theorem elB_res {x : Int} (h : elB x = true) : resB x = true := by
  unfold elB at h; rw [Bool.and_eq_true, Bool.and_eq_true] at h; exact h.1.1
theorem elB_bd {x : Int} (h : elB x = true) : 1 ≤ x ∧ x < 2147483579 := resB_yes (elB_res h)
theorem ret2_i64 {a b c d : Int} (h : a = b) (g : c = d) : Ending.returned (.tuple #[.int .i64 a, .int .i64 c]) = .returned (.tuple #[.int .i64 b, .int .i64 d]) := by rw [h, g]
def muV (a b : Int) : Int := if resB a = true ∧ resB b = true then muZ a b else 0
def muE (a b : Int) : Int := if resB a = true ∧ resB b = true then 0 else 3
theorem mu_yes {a b : Int} (h : resB a = true) (g : resB b = true) : muV a b = muZ a b ∧ muE a b = 0 := by simp [muV, muE, h, g]
theorem mu_no {a b : Int} (h : resB a = false ∨ resB b = false) : muV a b = 0 ∧ muE a b = 3 := by rcases h with h | h <;> simp [muV, muE, h]
def poV (x k : Int) : Int := if resB x = true ∧ 0 ≤ k ∧ k ≤ 1073741789 then pwZ x k else 0
def poE (x k : Int) : Int := if resB x = true ∧ 0 ≤ k ∧ k ≤ 1073741789 then 0 else 3
theorem po_yes {x k : Int} (h : resB x = true) (g : 0 ≤ k) (f : k ≤ 1073741789) : poV x k = pwZ x k ∧ poE x k = 0 := by simp [poV, poE, h, g, f]
theorem po_no {x k : Int} (h : resB x = false ∨ k < 0 ∨ 1073741789 < k) : poV x k = 0 ∧ poE x k = 3 := by
  have hn : ¬ (resB x = true ∧ 0 ≤ k ∧ k ≤ 1073741789) := by
    rintro ⟨a, b, c⟩
    rcases h with h | h | h
    · rw [h] at a; cases a
    · omega
    · omega
  unfold poV poE; rw [if_neg hn, if_neg hn]; exact ⟨rfl, rfl⟩
def inV (x : Int) : Int := if resB x = true then pwZ x 2147483577 else 0
def inE (x : Int) : Int := if resB x = true then 0 else 3
theorem in_yes {x : Int} (h : resB x = true) : inV x = pwZ x 2147483577 ∧ inE x = 0 := by simp [inV, inE, h]
theorem in_no {x : Int} (h : resB x = false) : inV x = 0 ∧ inE x = 3 := by simp [inV, inE, h]
def puV (k : Int) : Int := if secB k = true then pwZ 4 k else 0
def puE (k : Int) : Int := if secB k = true then 0 else 3
theorem pu_yes {x : Int} (h : secB x = true) : puV x = pwZ 4 x ∧ puE x = 0 := by simp [puV, puE, h]
theorem pu_no {x : Int} (h : secB x = false) : puV x = 0 ∧ puE x = 3 := by simp [puV, puE, h]
def shV (k x : Int) : Int := if secB k = true ∧ elB x = true then pwZ x k else 0
def shE (k x : Int) : Int := if secB k = true then (if elB x = true then 0 else 10) else 3
theorem sh_yes {k x : Int} (h : secB k = true) (g : elB x = true) : shV k x = pwZ x k ∧ shE k x = 0 := by simp [shV, shE, h, g]
theorem sh_el {k x : Int} (h : secB k = true) (g : elB x = false) : shV k x = 0 ∧ shE k x = 10 := by simp [shV, shE, h, g]
theorem sh_no {k x : Int} (h : secB k = false) : shV k x = 0 ∧ shE k x = 3 := by simp [shV, shE, h]

theorem grp_element (x : Int) (w : World) : Calls Tryd.prog 31 #[.int .i64 x] w fun e w' => e = .returned (.bool (elB x)) ∧ w = w' := by
  by_cases h : resB x = true
  · obtain ⟨h1, h2⟩ := resB_yes h
    by_cases hx : x = 1
    · have hd : (x != 1) = false := by simpa using hx
      have hv : elB x = false := by unfold elB; rw [hd, Bool.and_false, Bool.false_and]
      rw [hv]; clear hv hx
      go_enter Tryd.func31, Tryd.ntmps31
      go_wp2_with (go_at_call 42; ((with_reducible refine (grp_residue x _).mono ?_); rintro e w' ⟨rfl, rfl⟩))
      go_ret
      exact ⟨rfl, rfl⟩
    · have hd : (x != 1) = true := by simpa using hx
      have hv : elB x = (pwZ x 1073741789 == 1) := by unfold elB; rw [h, hd, Bool.true_and, Bool.true_and]
      rw [hv]; clear hv hx
      go_enter Tryd.func31, Tryd.ntmps31
      go_wp2_with (first | (go_at_call 42; ((with_reducible refine (grp_residue x _).mono ?_); rintro e w' ⟨rfl, rfl⟩)) | (go_at_call 43; ((with_reducible refine (grp_power x 1073741789 _ (by omega) h2 (by decide) (by decide)).mono ?_); rintro e w' ⟨rfl, rfl⟩)))
      go_ret
      exact ⟨rfl, rfl⟩
  · have hr : resB x = false := by simpa using h
    have hv : elB x = false := by unfold elB; rw [hr, Bool.false_and, Bool.false_and]
    rw [hv]; clear hv h
    go_enter Tryd.func31, Tryd.ntmps31
    go_wp2_with (go_at_call 42; ((with_reducible refine (grp_residue x _).mono ?_); rintro e w' ⟨rfl, rfl⟩))
    go_ret
    exact ⟨rfl, rfl⟩
theorem grp_multiply (a b : Int) (w : World) : Calls Tryd.prog 47 #[.int .i64 a, .int .i64 b] w fun e w' => e = .returned (.tuple #[.int .i64 (muV a b), .int .i64 (muE a b)]) ∧ w = w' := by
  by_cases ha : resB a = true
  · by_cases hb : resB b = true
    · obtain ⟨h1, h2⟩ := resB_yes ha
      obtain ⟨h3, h4⟩ := resB_yes hb
      obtain ⟨v1, v2⟩ := mu_yes ha hb
      rw [v1, v2]; clear v1 v2
      go_enter Tryd.func47, Tryd.ntmps47
      go_wp2_with (first | (go_at_call 42; ((with_reducible refine (grp_residue a _).mono ?_); rintro e w' ⟨rfl, rfl⟩)) | (go_at_call 42; ((with_reducible refine (grp_residue b _).mono ?_); rintro e w' ⟨rfl, rfl⟩)) | (go_at_call 55; ((with_reducible refine (grp_product a b _ (by omega) h2 (by omega) h4).mono ?_); rintro e w' ⟨rfl, rfl⟩)))
      go_ret2
      exact ⟨rfl, rfl⟩
    · have hr : resB b = false := by simpa using hb
      obtain ⟨v1, v2⟩ := mu_no (a := a) (.inr hr)
      rw [v1, v2]; clear v1 v2 hb
      go_enter Tryd.func47, Tryd.ntmps47
      go_wp2_with (first | (go_at_call 42; ((with_reducible refine (grp_residue a _).mono ?_); rintro e w' ⟨rfl, rfl⟩)) | (go_at_call 42; ((with_reducible refine (grp_residue b _).mono ?_); rintro e w' ⟨rfl, rfl⟩)))
      go_ret2
      exact ⟨rfl, rfl⟩
  · have hr : resB a = false := by simpa using ha
    obtain ⟨v1, v2⟩ := mu_no (b := b) (.inl hr)
    rw [v1, v2]; clear v1 v2 ha
    go_enter Tryd.func47, Tryd.ntmps47
    go_wp2_with (first | (go_at_call 42; ((with_reducible refine (grp_residue a _).mono ?_); rintro e w' ⟨rfl, rfl⟩)) | (go_at_call 42; ((with_reducible refine (grp_residue b _).mono ?_); rintro e w' ⟨rfl, rfl⟩)))
    go_ret2
    exact ⟨rfl, rfl⟩
theorem grp_power_any (x k : Int) (w : World) : Calls Tryd.prog 22 #[.int .i64 x, .int .i64 k] w fun e w' => e = .returned (.tuple #[.int .i64 (poV x k), .int .i64 (poE x k)]) ∧ w = w' := by
  by_cases ha : resB x = true
  · obtain ⟨h1, h2⟩ := resB_yes ha
    by_cases h3 : 0 ≤ k
    · by_cases h4 : k ≤ 1073741789
      · obtain ⟨v1, v2⟩ := po_yes ha h3 h4
        rw [v1, v2]; clear v1 v2
        go_enter Tryd.func22, Tryd.ntmps22
        go_wp2_with (first | (go_at_call 42; ((with_reducible refine (grp_residue x _).mono ?_); rintro e w' ⟨rfl, rfl⟩)) | (go_at_call 43; ((with_reducible refine (grp_power x k _ (by omega) h2 h3 (by omega)).mono ?_); rintro e w' ⟨rfl, rfl⟩)))
        go_ret2
        exact ⟨rfl, rfl⟩
      · obtain ⟨v1, v2⟩ := po_no (x := x) (k := k) (.inr (.inr (by omega)))
        rw [v1, v2]; clear v1 v2
        go_enter Tryd.func22, Tryd.ntmps22
        go_wp2_with (go_at_call 42; ((with_reducible refine (grp_residue x _).mono ?_); rintro e w' ⟨rfl, rfl⟩))
        go_ret2
        exact ⟨rfl, rfl⟩
    · obtain ⟨v1, v2⟩ := po_no (x := x) (k := k) (.inr (.inl (by omega)))
      rw [v1, v2]; clear v1 v2
      go_enter Tryd.func22, Tryd.ntmps22
      go_wp2_with (go_at_call 42; ((with_reducible refine (grp_residue x _).mono ?_); rintro e w' ⟨rfl, rfl⟩))
      go_ret2
      exact ⟨rfl, rfl⟩
  · have hr : resB x = false := by simpa using ha
    obtain ⟨v1, v2⟩ := po_no (x := x) (k := k) (.inl hr)
    rw [v1, v2]; clear v1 v2 ha
    go_enter Tryd.func22, Tryd.ntmps22
    go_wp2_with (go_at_call 42; ((with_reducible refine (grp_residue x _).mono ?_); rintro e w' ⟨rfl, rfl⟩))
    go_ret2
    exact ⟨rfl, rfl⟩
theorem ref_secret (x : Int) (w : World) : Calls Tryd.prog 24 #[.int .i64 x] w fun e w' => e = .returned (.bool (secB x)) ∧ w = w' := by
  by_cases h : 1 ≤ x
  · have d : decide (1 ≤ x) = true := by simpa using h
    have hv : secB x = decide (x < 1073741789) := by unfold secB; rw [d, Bool.true_and]
    rw [hv]; clear h hv
    go_enter Tryd.func24, Tryd.ntmps24
    go_wp2
    go_ret
    exact ⟨rfl, rfl⟩
  · have d : decide (1 ≤ x) = false := by simpa using h
    have hv : secB x = false := by unfold secB; rw [d, Bool.false_and]
    rw [hv]; clear h hv
    go_enter Tryd.func24, Tryd.ntmps24
    go_wp2
    go_ret
    exact ⟨rfl, rfl⟩

theorem ref_element (x : Int) (w : World) : Calls Tryd.prog 35 #[.int .i64 x] w fun e w' => e = .returned (.bool (elB x)) ∧ w = w' := by
  by_cases h : resB x = true
  · obtain ⟨h1, h2⟩ := resB_yes h
    by_cases hx : x = 1
    · have hd : (x != 1) = false := by simpa using hx
      have hv : elB x = false := by unfold elB; rw [hd, Bool.and_false, Bool.false_and]
      rw [hv]; clear hv hx
      go_enter Tryd.func35, Tryd.ntmps35
      go_wp2_with (go_at_call 48; ((with_reducible refine (ref_residue x _).mono ?_); rintro e w' ⟨rfl, rfl⟩))
      go_ret
      exact ⟨rfl, rfl⟩
    · have hd : (x != 1) = true := by simpa using hx
      have hv : elB x = (pwZ x 1073741789 == 1) := by unfold elB; rw [h, hd, Bool.true_and, Bool.true_and]
      rw [hv]; clear hv hx
      go_enter Tryd.func35, Tryd.ntmps35
      go_wp2_with (first | (go_at_call 48; ((with_reducible refine (ref_residue x _).mono ?_); rintro e w' ⟨rfl, rfl⟩)) | (go_at_call 30; ((with_reducible refine (ref_pow x 1073741789 _ (by omega) h2 (by decide) (by decide)).mono ?_); rintro e w' ⟨rfl, rfl⟩)))
      go_ret
      exact ⟨rfl, rfl⟩
  · have hr : resB x = false := by simpa using h
    have hv : elB x = false := by unfold elB; rw [hr, Bool.false_and, Bool.false_and]
    rw [hv]; clear hv h
    go_enter Tryd.func35, Tryd.ntmps35
    go_wp2_with (go_at_call 48; ((with_reducible refine (ref_residue x _).mono ?_); rintro e w' ⟨rfl, rfl⟩))
    go_ret
    exact ⟨rfl, rfl⟩
theorem ref_public (k : Int) (w : World) : Calls Tryd.prog 14 #[.int .i64 k] w fun e w' => e = .returned (.tuple #[.int .i64 (puV k), .int .i64 (puE k)]) ∧ w = w' := by
  by_cases ha : secB k = true
  · obtain ⟨h1, h2⟩ := secB_yes ha
    obtain ⟨v1, v2⟩ := pu_yes ha
    rw [v1, v2]; clear v1 v2
    go_enter Tryd.func14, Tryd.ntmps14
    go_wp2_with (first | (go_at_call 24; ((with_reducible refine (ref_secret k _).mono ?_); rintro e w' ⟨rfl, rfl⟩)) | (go_at_call 30; ((with_reducible refine (ref_pow 4 k _ (by decide) (by decide) (by omega) (by omega)).mono ?_); rintro e w' ⟨rfl, rfl⟩)))
    go_ret2
    exact ⟨rfl, rfl⟩
  · have hr : secB k = false := by simpa using ha
    obtain ⟨v1, v2⟩ := pu_no hr
    rw [v1, v2]; clear v1 v2 ha
    go_enter Tryd.func14, Tryd.ntmps14
    go_wp2_with (go_at_call 24; ((with_reducible refine (ref_secret k _).mono ?_); rintro e w' ⟨rfl, rfl⟩))
    go_ret2
    exact ⟨rfl, rfl⟩
end Go.Proofs.YtaikoeoabgkglaaDoor
