/-
  What is proved here: plain facts on lists of bytes: Unhex of Hex, Octets of Number and a second Xor lead back; nothing of the program is used.
-/
import Derived.Test.YtelbphjdcekajaaHex
import Derived.Test.YtelbphjdcekajaaUnhex
import Derived.Test.YtelbphjdcekajaaOct
import Derived.Test.YtelbphjdcekajaaNum
import Derived.Test.YtelbphjdcekajaaXor
namespace Go.Proofs.Ytelbphjdcekajaa

theorem hexL_even : ∀ (x : List UInt8) (i : Nat) (h : i < x.length), (hexL x).getD (2 * i) 0 = hexDigit ((x[i]'h).toNat / 16)
  | c :: r, 0, _ => rfl
  | c :: r, i + 1, h => by
    have h' : i < r.length := by simpa using h
    exact hexL_even r i h'
theorem hexL_odd : ∀ (x : List UInt8) (i : Nat) (h : i < x.length), (hexL x).getD (2 * i + 1) 0 = hexDigit ((x[i]'h).toNat % 16)
  | c :: r, 0, _ => rfl
  | c :: r, i + 1, h => by
    have h' : i < r.length := by simpa using h
    exact hexL_odd r i h'
theorem digV_digit (q : Nat) (h : q < 16) : digV ((hexDigit q).toNat : Int) = (q : Int) := by
  match q, h with
  | 0, _ => decide
  | 1, _ => decide
  | 2, _ => decide
  | 3, _ => decide
  | 4, _ => decide
  | 5, _ => decide
  | 6, _ => decide
  | 7, _ => decide
  | 8, _ => decide
  | 9, _ => decide
  | 10, _ => decide
  | 11, _ => decide
  | 12, _ => decide
  | 13, _ => decide
  | 14, _ => decide
  | 15, _ => decide
  | n + 16, h => exact absurd h (by omega)
theorem back_ok (x : List UInt8) (i : Nat) (h : i < x.length) : okAt (hexL x) i = true ∧ unAt (hexL x) i = x[i] := by
  have h1 := UInt8.toNat_lt (x[i]'h)
  have d1 := digV_digit ((x[i]'h).toNat / 16) (by omega)
  have d2 := digV_digit ((x[i]'h).toNat % 16) (by omega)
  constructor
  · unfold okAt chB digB
    rw [hexL_even x i h, hexL_odd x i h, d1, d2]
    simp
    omega
  · unfold unAt chB digN
    rw [hexL_even x i h, hexL_odd x i h, d1, d2, if_neg (by omega), if_neg (by omega)]
    have e : (16 * (((x[i]'h).toNat / 16 : Nat) : Int) + (((x[i]'h).toNat % 16 : Nat) : Int)).toNat = (x[i]'h).toNat := by omega
    rw [e, UInt8.ofNat_toNat]
theorem back_hex (x : List UInt8) : unB (hexL x) = x ∧ unE (hexL x) = 0 := by
  have hl := hexL_length x
  have ok : unOk (hexL x) = true := unOk_good (k := x.length) (by omega) (by omega) fun i hi => (back_ok x i hi).1
  refine ⟨?_, (un_yes ok).2⟩
  rw [(un_yes ok).1]
  apply List.ext_getElem
  · simp; omega
  · intro i h1 h2
    rw [List.getElem_map, List.getElem_range]
    exact (back_ok x i h2).2

theorem num_div (x : List UInt8) (k j : Nat) (h : k + j ≤ x.length) : numL (x.take (k + j)) / 256 ^ j = numL (x.take k) := by
  induction j with
  | zero => simp
  | succ j ih =>
    have h1 := ih (by omega)
    have h2 := UInt8.toNat_lt (x[k + j]'(by omega))
    rw [show k + (j + 1) = (k + j) + 1 from rfl, numL_snoc (by omega), Nat.pow_succ, Nat.mul_comm (256 ^ j) 256, ← Nat.div_div_eq_div_mul]
    rw [show (256 * numL (x.take (k + j)) + (x[k + j]'(by omega)).toNat) / 256 = numL (x.take (k + j)) from by omega]
    exact h1
theorem back_num (x : List UInt8) : octL (numL x) x.length = x := by
  apply List.ext_getElem
  · simp [octL]
  · intro i h1 h2
    have hd := num_div x (i + 1) (x.length - 1 - i) (by omega)
    rw [show i + 1 + (x.length - 1 - i) = x.length from by omega, List.take_of_length_le (Nat.le_refl _)] at hd
    have hx := UInt8.toNat_lt (x[i]'h2)
    simp only [octL, List.getElem_map, List.getElem_range, octAt]
    rw [hd, numL_snoc h2]
    apply UInt8.toNat_inj.1
    rw [UInt8.toNat_ofNat']
    omega
theorem back_oct (x : List UInt8) (h : x.length ≤ 7) : octB (numL x : Nat) (x.length : Nat) = x ∧ octE (numL x : Nat) (x.length : Nat) = 0 := by
  have hl := numL_lt x x.length (Nat.le_refl _)
  rw [List.take_of_length_le (Nat.le_refl _)] at hl
  have := oct_3 h hl
  rw [back_num] at this
  exact this
theorem back_xor (x y : List UInt8) (h : x.length = y.length) : xorL (xorL x y) y = x := by
  apply List.ext_getElem
  · simp [xorL]
  · intro i h1 h2
    have hy : i < y.length := by omega
    simp [xorL, xorAt, h2, hy, UInt8.xor_assoc]

end Go.Proofs.Ytelbphjdcekajaa
