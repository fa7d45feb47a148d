/-
  What is proved here: what the reference's and the program's Number return, where the argument lies in memory.
-/
import Derived.Test.YtobbnedojmcgoaaRows
import Derived.Test.YtobbnedojmcgoaaKit
namespace Go.Proofs.Ytobbnedojmcgoaa
open Go.RowKit

def numL (x : List UInt8) : Nat := x.foldl (fun n c => 256 * n + c.toNat) 0
theorem numL_snoc {x : List UInt8} {k : Nat} (h : k < x.length) : numL (x.take (k + 1)) = 256 * numL (x.take k) + (x[k]'h).toNat := by
  rw [List.take_succ_eq_append_getElem h]; unfold numL; rw [List.foldl_append]; rfl
theorem numL_lt (x : List UInt8) (k : Nat) (h : k ≤ x.length) : numL (x.take k) < 256 ^ k := by
  induction k with
  | zero => simp [numL]
  | succ k ih =>
    rw [numL_snoc (by omega), Nat.pow_succ]
    have h1 := ih (by omega)
    have h2 := UInt8.toNat_lt (x[k]'(by omega))
    omega
theorem numL_b (x : List UInt8) (k : Nat) (h : k ≤ x.length) (h7 : k ≤ 6) : numL (x.take k) < 281474976710656 :=
  Nat.lt_of_lt_of_le (numL_lt x k h) (Nat.le_trans (Nat.pow_le_pow_right (by decide) h7) (by decide))
theorem or_i64 (a b : Nat) (ha : a < 9223372036854775808) (hb : b < 9223372036854775808) : bits .or .i64 (a : Int) (b : Int) = ((a ||| b : Nat) : Int) := by
  have hx : a ||| b < 2 ^ 63 := Nat.or_lt_two_pow (by omega) (by omega)
  have h1 : (BitVec.ofInt 64 (a : Int)).toNat = a := by rw [BitVec.toNat_ofInt]; omega
  have h2 : (BitVec.ofInt 64 (b : Int)).toNat = b := by rw [BitVec.toNat_ofInt]; omega
  show IntKind.i64.wrap ((BitVec.ofInt 64 (a : Int) ||| BitVec.ofInt 64 (b : Int)).toNat : Int) = _
  rw [BitVec.toNat_or, h1, h2]
  exact IntWalk.i64_in _ (by omega)
theorem or256 (m c : Nat) (hm : m < 281474976710656) (hc : c < 256) : bits .or .i64 ((m : Int) * 256) (c : Int) = ((256 * m + c : Nat) : Int) := by
  have h := or_i64 (m * 256) c (by omega) (by omega)
  have e : m * 256 ||| c = 256 * m + c := by
    have := Nat.two_pow_add_eq_or_of_lt (i := 8) (b := c) (by omega) m
    rw [Nat.mul_comm m 256]; exact this.symm
  rw [e] at h
  simpa using h

/-- what Number answers: the number and the code -/
def numV (x : List UInt8) : Int := if x.length ≤ 7 then (numL x : Int) else 0
def numE (x : List UInt8) : Int := if x.length ≤ 7 then 0 else 2
def NumEnd (x : List UInt8) (e : Ending) : Prop := e = .returned (.tuple #[.int .i64 (numV x), .int .i64 (numE x)])
theorem num_end {x : List UInt8} {k m : Nat} (hk : x.length ≤ k) (h7 : x.length ≤ 7) (hm : m = numL (x.take k)) : NumEnd x (.returned (.tuple #[.int .i64 (m : Int), .int .i64 0])) := by
  rw [List.take_of_length_le hk] at hm
  unfold NumEnd numV numE
  rw [if_pos h7, if_pos h7, hm]
theorem num_big {x : List UInt8} (h7 : ¬ x.length ≤ 7) : NumEnd x (.returned (.tuple #[.int .i64 0, .int .i64 2])) := by
  unfold NumEnd numV numE
  rw [if_neg h7, if_neg h7]

set_option maxHeartbeats 400000 in
theorem oct_num (A : Option Addr) (c n : Nat) (x : List UInt8) (w : World) (B : Nat) (h : Sees w B A (Us x)) (l : n = x.length) (m : n ≤ maxLen) :
    Calls Try.prog 53 #[.slice A n c] w fun e w' => NumEnd x e ∧ w' = w := by
  unfold maxLen at m
  have L := Lib.hid l
  clear l
  by_cases h7 : n ≤ 7
  · have d0 : decide ((7 : Int) < (n : Int)) = false := by simp; omega
    go_enter Try.func53, Try.ntmps53
    go_wp2
    go_loop [4, 11] (fun v i => ∃ k q : Nat, k ≤ n ∧ i = .int .i64 k ∧ v = .int .i64 (q : Int) ∧ Hid (q = numL (x.take k))) (fun _ i => n - (intOf i).toNat)
    case atStart => exact ⟨0, 0, Nat.zero_le _, rfl, rfl, Lib.hid rfl⟩
    case round =>
      obtain ⟨k, q, hk, rfl, rfl, HQ⟩ := hrel
      by_cases hlt : k < n
      · have hkx : k < x.length := by have := L.out; omega
        obtain ⟨b1, o1, rfl, g1⟩ := byte_at h (Below.refl B w) hkx
        have hq : q < 281474976710656 := by rw [HQ.out]; exact numL_b x k (by omega) (by omega)
        have hc := UInt8.toNat_lt (x[k]'hkx)
        obtain ⟨d, hd⟩ : ∃ d, d = (x[k]'hkx).toNat := ⟨_, rfl⟩
        rw [← hd] at g1 hc
        have HD := Lib.hid hd
        have e1 := or256 q d hq (by omega)
        clear hd
        go_wp2
        go_round
        case rel => exact ⟨k + 1, 256 * q + d, by omega, by go_num, by go_num, Lib.hid (by rw [numL_snoc hkx, ← HQ.out, ← HD.out])⟩
        case measure => simp [intOf]; omega
      · have hf := num_end (x := x) (k := k) (by have := L.out; omega) (by have := L.out; omega) HQ.out
        have HF := Lib.hid hf
        clear hf
        go_wp2
        go_ret2
        exact ⟨HF.out, rfl⟩
  · have hf := num_big (x := x) (by have := L.out; omega)
    have HF := Lib.hid hf
    have d0 : decide ((7 : Int) < (n : Int)) = true := by simp; omega
    clear hf
    go_enter Try.func53, Try.ntmps53
    go_wp2
    go_ret2
    exact ⟨HF.out, rfl⟩

set_option maxHeartbeats 400000 in
theorem ref_num (A : Option Addr) (c n : Nat) (x : List UInt8) (w : World) (B : Nat) (h : Sees w B A (Us x)) (l : n = x.length) (m : n ≤ maxLen) :
    Calls Try.prog 38 #[.slice A n c] w fun e w' => NumEnd x e ∧ w' = w := by
  unfold maxLen at m
  have L := Lib.hid l
  clear l
  by_cases h7 : n ≤ 7
  · have d0 : decide ((7 : Int) < (n : Int)) = false := by simp; omega
    go_enter Try.func38, Try.ntmps38
    go_wp2
    go_loop [4, 5] (fun v i => ∃ k q : Nat, k ≤ n ∧ i = .int .i64 k ∧ v = .int .i64 (q : Int) ∧ Hid (q = numL (x.take k))) (fun _ i => n - (intOf i).toNat)
    case atStart => exact ⟨0, 0, Nat.zero_le _, rfl, rfl, Lib.hid rfl⟩
    case round =>
      obtain ⟨k, q, hk, rfl, rfl, HQ⟩ := hrel
      by_cases hlt : k < n
      · have hkx : k < x.length := by have := L.out; omega
        obtain ⟨b1, o1, rfl, g1⟩ := byte_at h (Below.refl B w) hkx
        have hq : q < 281474976710656 := by rw [HQ.out]; exact numL_b x k (by omega) (by omega)
        have hc := UInt8.toNat_lt (x[k]'hkx)
        obtain ⟨d, hd⟩ : ∃ d, d = (x[k]'hkx).toNat := ⟨_, rfl⟩
        rw [← hd] at g1 hc
        have HD := Lib.hid hd
        clear hd
        go_wp2
        go_round
        case rel => exact ⟨k + 1, 256 * q + d, by omega, by go_num, by go_num, Lib.hid (by rw [numL_snoc hkx, ← HQ.out, ← HD.out])⟩
        case measure => simp [intOf]; omega
      · have hf := num_end (x := x) (k := k) (by have := L.out; omega) (by have := L.out; omega) HQ.out
        have HF := Lib.hid hf
        clear hf
        go_wp2
        go_ret2
        exact ⟨HF.out, rfl⟩
  · have hf := num_big (x := x) (by have := L.out; omega)
    have HF := Lib.hid hf
    have d0 : decide ((7 : Int) < (n : Int)) = true := by simp; omega
    clear hf
    go_enter Try.func38, Try.ntmps38
    go_wp2
    go_ret2
    exact ⟨HF.out, rfl⟩

end Go.Proofs.Ytobbnedojmcgoaa
