/-
  What is proved here: what the reference's digit returns, for every byte.
-/
import Derived.Test.YtddobbigpoplpaaRows
import Derived.Test.YtddobbigpoplpaaKit
namespace Go.Proofs.Ytddobbigpoplpaa
open Go.RowKit

/-- the value of a digit, -1 of another byte -/
def digV (n : Int) : Int := if 48 ≤ n ∧ n ≤ 57 then n - 48 else if 97 ≤ n ∧ n ≤ 102 then n - 87 else if 65 ≤ n ∧ n ≤ 70 then n - 55 else -1
def digN (n : Int) : Int := if digV n < 0 then 0 else digV n
def digB (n : Int) : Bool := decide (0 ≤ digV n)
theorem digV_le (n : Int) : -1 ≤ digV n ∧ digV n ≤ 15 := by unfold digV; repeat' split <;> omega
theorem digV_1 {n : Int} (h : 48 ≤ n) (k : n ≤ 57) : digV n = n - 48 := by unfold digV; rw [if_pos ⟨h, k⟩]
theorem digV_2 {n : Int} (h : 97 ≤ n) (k : n ≤ 102) : digV n = n - 87 := by unfold digV; rw [if_neg (by omega), if_pos ⟨h, k⟩]
theorem digV_3 {n : Int} (h : 65 ≤ n) (k : n ≤ 70) : digV n = n - 55 := by unfold digV; rw [if_neg (by omega), if_neg (by omega), if_pos ⟨h, k⟩]
theorem digV_4 {n : Int} (h1 : ¬ (48 ≤ n ∧ n ≤ 57)) (h2 : ¬ (97 ≤ n ∧ n ≤ 102)) (h3 : ¬ (65 ≤ n ∧ n ≤ 70)) : digV n = -1 := by
  unfold digV; rw [if_neg h1, if_neg h2, if_neg h3]
theorem dig_cases (n : Int) (h0 : 0 ≤ n) (h1 : n ≤ 255) : n < 48 ∨ (48 ≤ n ∧ n ≤ 57) ∨ (57 < n ∧ n < 65) ∨ (65 ≤ n ∧ n ≤ 70) ∨ (70 < n ∧ n < 97) ∨ (97 ≤ n ∧ n ≤ 102) ∨ 102 < n := by omega

theorem ret_i {k : IntKind} {a b : Int} (h : a = b) : Ending.returned (.int k a) = .returned (.int k b) := by rw [h]
theorem ret_ib {k : IntKind} {a b : Int} {x y : Bool} (h : a = b) (g : x = y) : Ending.returned (.tuple #[.int k a, .bool x]) = .returned (.tuple #[.int k b, .bool y]) := by rw [h, g]

theorem ref_digit (n : Int) (h0 : 0 ≤ n) (h1 : n ≤ 255) (w : World) :
    Calls Try.prog 54 #[.int .u8 n] w fun e w' => e = .returned (.int .i64 (digV n)) ∧ w' = w := by
  have hv : Hid ((48 ≤ n → n ≤ 57 → digV n = n - 48) ∧ (97 ≤ n → n ≤ 102 → digV n = n - 87) ∧ (65 ≤ n → n ≤ 70 → digV n = n - 55) ∧ (¬ (48 ≤ n ∧ n ≤ 57) → ¬ (97 ≤ n ∧ n ≤ 102) → ¬ (65 ≤ n ∧ n ≤ 70) → digV n = -1)) :=
    Lib.hid ⟨digV_1, digV_2, digV_3, digV_4⟩
  obtain ⟨d, hd⟩ : ∃ d, d = digV n := ⟨_, rfl⟩
  rw [← hd] at hv ⊢
  clear hd
  rcases dig_cases n h0 h1 with h | h | h | h | h | h | h
  all_goals
    go_enter Try.func54, Try.ntmps54
    go_wp2
    go_ret
    obtain ⟨v1, v2, v3, v4⟩ := hv.out
    refine ⟨ret_i ?_, rfl⟩
    first
    | (rw [v1 (by omega) (by omega)]; done)
    | (rw [v2 (by omega) (by omega)]; show _ = _; omega)
    | (rw [v3 (by omega) (by omega)]; show _ = _; omega)
    | (rw [v4 (by omega) (by omega) (by omega)]; done)

end Go.Proofs.Ytddobbigpoplpaa
