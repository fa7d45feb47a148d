/-
  What is proved here: what the program's lengthBytes returns (how many bytes follow the first one of a length in shortest form), for every length; no condition.
-/
import Derived.Test.YtipmmclahngabaaRows
import Derived.Test.YtipmmclahngabaaKit
import Derived.Test.YtipmmclahngabaaLen64
namespace Go.Proofs.Ytipmmclahngabaa
open Go.RowKit

theorem bits_len (x : Int) (w : World) (h0 : 0 ≤ x) (h1 : x ≤ 18446744073709551615) :
    Calls Try.prog 65 #[.int .u64 x] w fun e w' => e = .returned (.int .i64 (Lib.bitLen x.toNat)) ∧ w' = w := by
  go_enter Try.func65, Try.ntmps65
  go_wp2_with (go_at_call 69; refine (bits_len64 x _ h0 h1).mono ?_; rintro e w' ⟨rfl, rfl⟩)
  go_ret
  exact ⟨rfl, rfl⟩

/-- how many bytes follow the first one of a length in shortest form -/
def lb (n : Nat) : Nat := if n ≤ 127 then 0 else (Lib.bitLen n + 7) / 8
theorem bitLen_256 {n : Nat} (h : n < 256) : Lib.bitLen n ≤ 8 := Lib.bitLen_le n 8 (by decide) h
theorem bitLen_128 : ∀ n : Fin 256, 0 < n.val → 1 ≤ Lib.bitLen n.val := by decide +kernel
theorem lb_0 {n : Nat} (h : n ≤ 127) : lb n = 0 := by unfold lb; rw [if_pos h]
theorem lb_1 {n : Nat} (h : 127 < n) (h2 : n < 256) : lb n = 1 := by
  unfold lb; rw [if_neg (by omega)]
  have h3 := bitLen_256 h2
  have h4 := bitLen_128 ⟨n, h2⟩ (by simp; omega)
  simp only at h4
  omega
theorem lb_2 {n : Nat} (h : 256 ≤ n) (h2 : n < 65536) : lb n = 2 := by
  unfold lb; rw [if_neg (by omega)]
  have h3 := Lib.bitLen_shift8 n h (by omega)
  have h4 := bitLen_256 (n := n / 256) (by omega)
  have h5 := bitLen_128 ⟨n / 256, by omega⟩ (by simp; omega)
  simp only at h5
  omega
theorem lb_le {n : Nat} (h : n < 9223372036854775808) : lb n ≤ 8 := by
  unfold lb
  split
  · omega
  · have := Lib.bitLen_le n 63 (by decide) h
    omega
theorem bitLenAux_fuel_le : ∀ (f x : Nat), Lib.bitLenAux f x ≤ f
  | 0, _ => by simp [Lib.bitLenAux]
  | f + 1, x => by
    have := bitLenAux_fuel_le f (x / 2)
    simp only [Lib.bitLenAux]
    split <;> omega
theorem lb_le8 (n : Nat) : lb n ≤ 8 := by
  unfold lb
  split
  · omega
  · have := bitLenAux_fuel_le 64 n
    have : Lib.bitLen n ≤ 64 := this
    omega
theorem lb_pos {n : Nat} (h : 127 < n) (h2 : n < 9223372036854775808) : 1 ≤ lb n := by
  unfold lb; rw [if_neg (by omega)]
  by_cases h3 : n < 256
  · have h4 := bitLen_128 ⟨n, h3⟩ (by simp; omega)
    simp only at h4
    omega
  · have h3 := Lib.bitLen_shift8 n (by omega) (by omega)
    omega

theorem length_bytes (n : Nat) (h : n < 9223372036854775808) (w : World) :
    Calls Try.prog 58 #[.int .i64 (n : Int)] w fun e w' => e = .returned (.int .i64 (lb n : Nat)) ∧ w' = w := by
  by_cases h1 : n ≤ 127
  · rw [lb_0 h1]
    have d : decide ((n : Int) ≤ 127) = true := by simp; omega
    clear h1
    go_enter Try.func58, Try.ntmps58
    go_wp2_with fail
    go_ret
    exact ⟨rfl, rfl⟩
  · have d : decide ((n : Int) ≤ 127) = false := by simp; omega
    have hb := Lib.bitLen_le n 63 (by decide) h
    have hc : ∀ u, Calls Try.prog 65 #[.int .u64 (n : Int)] u fun e w' => e = .returned (.int .i64 (Lib.bitLen n : Nat)) ∧ w' = u := fun u => by
      have := bits_len (n : Int) u (by omega) (by omega)
      simpa using this
    have HC := Lib.hid hc
    have e : (lb n : Int) = ((Lib.bitLen n : Int) + 7) / 8 := by
      unfold lb; rw [if_neg h1]; omega
    rw [e]
    clear hc e h1
    go_enter Try.func58, Try.ntmps58
    go_wp2_with (go_at_call 65; refine (HC.out _).mono ?_; rintro e w' ⟨rfl, rfl⟩)
    go_ret
    exact ⟨rfl, rfl⟩

end Go.Proofs.Ytipmmclahngabaa
