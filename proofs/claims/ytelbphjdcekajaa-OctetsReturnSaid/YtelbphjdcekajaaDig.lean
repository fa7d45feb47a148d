/-
  What is proved here: what the reference's digit and the program's digitValue return, for every byte.
-/
import Derived.Test.YtelbphjdcekajaaRows
import Derived.Test.YtelbphjdcekajaaKit
namespace Go.Proofs.Ytelbphjdcekajaa
open Go.RowKit

/-- the value of a digit, -1 of another byte -/
def digV (n : Int) : Int := if 48 ≤ n ∧ n ≤ 57 then n - 48 else if 97 ≤ n ∧ n ≤ 102 then n - 87 else if 65 ≤ n ∧ n ≤ 70 then n - 55 else -1
def digN (n : Int) : Int := if digV n < 0 then 0 else digV n
def digB (n : Int) : Bool := decide (0 ≤ digV n)
theorem digV_le (n : Int) : -1 ≤ digV n ∧ digV n ≤ 15 := by unfold digV; repeat' split <;> omega
theorem digV_1 {n : Int} (h : 48 ≤ n) (k : n ≤ 57) : digV n = n - 48 := by unfold digV; rw [if_pos ⟨h, k⟩]
theorem digV_2 {n : Int} (h : 97 ≤ n) (k : n ≤ 102) : digV n = n - 87 := by unfold digV; rw [if_neg (by omega), if_pos ⟨h, k⟩]
theorem digV_3 {n : Int} (h : 65 ≤ n) (k : n ≤ 70) : digV n = n - 55 := by unfold digV; rw [if_neg (by omega), if_neg (by omega), if_pos ⟨h, k⟩]
theorem digV_4 {n : Int} (h1 : ¬ (48 ≤ n ∧ n ≤ 57)) (h2 : ¬ (97 ≤ n ∧ n ≤ 102)) (h3 : ¬ (65 ≤ n ∧ n ≤ 70)) : digV n = -1 := by
  unfold digV; rw [if_neg h1, if_neg h2, if_neg h3]
theorem dig_cases (n : Int) (h0 : 0 ≤ n) (h1 : n ≤ 255) : n < 48 ∨ (48 ≤ n ∧ n ≤ 57) ∨ (57 < n ∧ n < 65) ∨ (65 ≤ n ∧ n ≤ 70) ∨ (70 < n ∧ n < 97) ∨ (97 ≤ n ∧ n ≤ 102) ∨ 102 < n := by omega

theorem ret_i {k : IntKind} {a b : Int} (h : a = b) : Ending.returned (.int k a) = .returned (.int k b) := by rw [h]
theorem ret_ib {k : IntKind} {a b : Int} {x y : Bool} (h : a = b) (g : x = y) : Ending.returned (.tuple #[.int k a, .bool x]) = .returned (.tuple #[.int k b, .bool y]) := by rw [h, g]

theorem ref_digit (n : Int) (h0 : 0 ≤ n) (h1 : n ≤ 255) (w : World) :
    Calls Try.prog 25 #[.int .u8 n] w fun e w' => e = .returned (.int .i64 (digV n)) ∧ w' = w := by
  have hv : Hid ((48 ≤ n → n ≤ 57 → digV n = n - 48) ∧ (97 ≤ n → n ≤ 102 → digV n = n - 87) ∧ (65 ≤ n → n ≤ 70 → digV n = n - 55) ∧ (¬ (48 ≤ n ∧ n ≤ 57) → ¬ (97 ≤ n ∧ n ≤ 102) → ¬ (65 ≤ n ∧ n ≤ 70) → digV n = -1)) :=
    Lib.hid ⟨digV_1, digV_2, digV_3, digV_4⟩
  obtain ⟨d, hd⟩ : ∃ d, d = digV n := ⟨_, rfl⟩
  rw [← hd] at hv ⊢
  clear hd
  rcases dig_cases n h0 h1 with h | h | h | h | h | h | h
  all_goals
    go_enter Try.func25, Try.ntmps25
    go_wp2
    go_ret
    obtain ⟨v1, v2, v3, v4⟩ := hv.out
    refine ⟨ret_i ?_, rfl⟩
    first
    | (rw [v1 (by omega) (by omega)]; done)
    | (rw [v2 (by omega) (by omega)]; show _ = _; omega)
    | (rw [v3 (by omega) (by omega)]; show _ = _; omega)
    | (rw [v4 (by omega) (by omega) (by omega)]; done)

theorem oct_digit (n : Int) (h0 : 0 ≤ n) (h1 : n ≤ 255) (w : World) :
    Calls Try.prog 24 #[.int .u8 n] w fun e w' => e = .returned (.tuple #[.int .u8 (digN n), .bool (digB n)]) ∧ w' = w := by
  have hv : Hid ((48 ≤ n → n ≤ 57 → digN n = n - 48 ∧ digB n = true) ∧ (97 ≤ n → n ≤ 102 → digN n = n - 87 ∧ digB n = true) ∧ (65 ≤ n → n ≤ 70 → digN n = n - 55 ∧ digB n = true) ∧
      (¬ (48 ≤ n ∧ n ≤ 57) → ¬ (97 ≤ n ∧ n ≤ 102) → ¬ (65 ≤ n ∧ n ≤ 70) → digN n = 0 ∧ digB n = false)) := by
    refine Lib.hid ⟨fun h k => ?_, fun h k => ?_, fun h k => ?_, fun h k l => ?_⟩
    · unfold digN digB; rw [digV_1 h k]; exact ⟨if_neg (by omega), decide_eq_true (by omega)⟩
    · unfold digN digB; rw [digV_2 h k]; exact ⟨if_neg (by omega), decide_eq_true (by omega)⟩
    · unfold digN digB; rw [digV_3 h k]; exact ⟨if_neg (by omega), decide_eq_true (by omega)⟩
    · unfold digN digB; rw [digV_4 h k l]; exact ⟨rfl, rfl⟩
  obtain ⟨d, hd⟩ : ∃ d, d = digN n := ⟨_, rfl⟩
  obtain ⟨b, hb⟩ : ∃ b, b = digB n := ⟨_, rfl⟩
  rw [← hd, ← hb] at hv ⊢
  clear hd hb
  rcases dig_cases n h0 h1 with h | h | h | h | h | h | h
  all_goals
    go_enter Try.func24, Try.ntmps24
    go_wp2
    go_ret2
    obtain ⟨v1, v2, v3, v4⟩ := hv.out
    refine ⟨ret_ib ?_ ?_, rfl⟩
    · first
      | (rw [(v1 (by omega) (by omega)).1]; done)
      | (rw [(v2 (by omega) (by omega)).1]; show _ = _; omega)
      | (rw [(v3 (by omega) (by omega)).1]; show _ = _; omega)
      | (rw [(v4 (by omega) (by omega) (by omega)).1]; done)
    · first
      | (rw [(v1 (by omega) (by omega)).2]; done)
      | (rw [(v2 (by omega) (by omega)).2]; done)
      | (rw [(v3 (by omega) (by omega)).2]; done)
      | (rw [(v4 (by omega) (by omega) (by omega)).2]; done)

end Go.Proofs.Ytelbphjdcekajaa
