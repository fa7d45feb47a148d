/-
  What is proved here: what the reference's Valid and Constructed return, for every number.
-/
import Derived.Test.YtipmmclahngabaaRows
import Derived.Test.YtipmmclahngabaaKit
import Derived.Test.YtipmmclahngabaaTag
namespace Go.Proofs.Ytipmmclahngabaa
open Go.RowKit

theorem valid_in {t : Int} (h1 : 1 ≤ t) (h2 : t ≤ 255) : validB t = (t % 32 != 31) := by
  unfold validB
  rw [if_pos (by omega), decide_eq_true (show 0 < t by omega), Bool.true_and]
  by_cases h3 : t % 32 = 31 <;> simp [h3]
theorem valid_hi {t : Int} (h1 : 256 ≤ t) (h2 : t ≤ 65535) : validB t = (decide (t / 256 % 32 = 31) && decide (1 ≤ t % 256) && decide (t % 256 ≤ 127)) := by
  unfold validB
  rw [if_neg (by omega), decide_eq_true (show t / 256 ≤ 255 by omega), Bool.true_and]
theorem valid_out {t : Int} (h : ¬ (1 ≤ t ∧ t ≤ 255)) (h2 : ¬ (256 ≤ t ∧ t ≤ 65535)) : validB t = false := by
  cases hv : validB t with
  | false => rfl
  | true =>
    have := valid_range hv
    omega

theorem ref_valid (t : Int) (lo : -9223372036854775808 ≤ t) (hi : t ≤ 9223372036854775807) (w : World) :
    Calls Try.prog 13 #[.int .i64 t] w fun e w' => e = .returned (.bool (validB t)) ∧ w' = w := by
  by_cases h1 : 1 ≤ t
  · have d1 : decide (1 ≤ t) = true := by simpa using h1
    by_cases h2 : t ≤ 255
    · have d2 : decide (t ≤ 255) = true := by simpa using h2
      rw [valid_in h1 h2]
      clear h2
      go_enter Try.func13, Try.ntmps13
      go_wp2
      go_ret
      exact ⟨rfl, rfl⟩
    · have d2 : decide (t ≤ 255) = false := by simpa using h2
      have d3 : decide (256 ≤ t) = true := by simp; omega
      by_cases h3 : t ≤ 65535
      · have d4 : decide (t ≤ 65535) = true := by simpa using h3
        have hv := valid_hi (t := t) (by omega) h3
        by_cases h4 : t / 256 % 32 = 31
        · have d5 : (t / 256 % 32 == 31) = true := by simpa using h4
          by_cases h5 : 1 ≤ t % 256
          · have d6 : decide (1 ≤ t % 256) = true := by simpa using h5
            rw [hv, decide_eq_true h4, d6, Bool.true_and, Bool.true_and]
            clear hv h4 h5 h2 h3
            go_enter Try.func13, Try.ntmps13
            go_wp2
            go_ret
            exact ⟨rfl, rfl⟩
          · have d6 : decide (1 ≤ t % 256) = false := by simpa using h5
            rw [hv, decide_eq_true h4, d6, Bool.and_false, Bool.false_and]
            clear hv h4 h5 h2 h3
            go_enter Try.func13, Try.ntmps13
            go_wp2
            go_ret
            exact ⟨rfl, rfl⟩
        · have d5 : (t / 256 % 32 == 31) = false := by simpa using h4
          rw [hv, decide_eq_false h4, Bool.false_and, Bool.false_and]
          clear hv h4 h2 h3
          go_enter Try.func13, Try.ntmps13
          go_wp2
          go_ret
          exact ⟨rfl, rfl⟩
      · have d4 : decide (t ≤ 65535) = false := by simpa using h3
        rw [valid_out (by omega) (by omega)]
        clear h2 h3
        go_enter Try.func13, Try.ntmps13
        go_wp2
        go_ret
        exact ⟨rfl, rfl⟩
  · have d1 : decide (1 ≤ t) = false := by simpa using h1
    have d3 : decide (256 ≤ t) = false := by simp; omega
    rw [valid_out (by omega) (by omega)]
    clear h1
    go_enter Try.func13, Try.ntmps13
    go_wp2
    go_ret
    exact ⟨rfl, rfl⟩

theorem ref_cons (t : Int) (lo : -9223372036854775808 ≤ t) (hi : t ≤ 9223372036854775807) (w : World) :
    Calls Try.prog 15 #[.int .i64 t] w fun e w' => e = .returned (.bool (consB t)) ∧ w' = w := by
  cases hv : validB t
  · have hc : consB t = false := by unfold consB; rw [hv, Bool.false_and]
    have hw : ∀ u, Calls Try.prog 13 #[.int .i64 t] u fun e w' => e = .returned (.bool false) ∧ w' = u := fun u => by have := ref_valid t lo hi u; rwa [hv] at this
    have HW := Lib.hid hw
    rw [hc]
    clear hc hw
    go_enter Try.func15, Try.ntmps15
    go_wp2_with (go_at_call 13; refine (HW.out _).mono ?_; rintro e w' ⟨rfl, rfl⟩)
    go_ret
    exact ⟨rfl, rfl⟩
  · have hr := valid_range hv
    have hw : ∀ u, Calls Try.prog 13 #[.int .i64 t] u fun e w' => e = .returned (.bool true) ∧ w' = u := fun u => by have := ref_valid t lo hi u; rwa [hv] at this
    have HW := Lib.hid hw
    clear hw
    by_cases h : 255 < t
    · have d : decide (255 < t) = true := by simpa using h
      have hc : consB t = (t / 256 / 32 % 2 == 1) := by
        unfold consB firstB; rw [hv, Bool.true_and, if_neg (by omega)]
        by_cases h3 : t / 256 / 32 % 2 = 1 <;> simp [h3]
      rw [hc]
      clear hc h
      go_enter Try.func15, Try.ntmps15
      go_wp2_with (go_at_call 13; refine (HW.out _).mono ?_; rintro e w' ⟨rfl, rfl⟩)
      go_ret
      exact ⟨rfl, rfl⟩
    · have d : decide (255 < t) = false := by simpa using h
      have hc : consB t = (t / 32 % 2 == 1) := by
        unfold consB firstB; rw [hv, Bool.true_and, if_pos (by omega)]
        by_cases h3 : t / 32 % 2 = 1 <;> simp [h3]
      rw [hc]
      clear hc h
      go_enter Try.func15, Try.ntmps15
      go_wp2_with (go_at_call 13; refine (HW.out _).mono ?_; rintro e w' ⟨rfl, rfl⟩)
      go_ret
      exact ⟨rfl, rfl⟩

end Go.Proofs.Ytipmmclahngabaa
