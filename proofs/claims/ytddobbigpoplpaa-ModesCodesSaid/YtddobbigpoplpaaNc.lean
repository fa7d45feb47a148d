/-
  What is proved here: powers of bytes are powers of 3; so the substitutes out of the 254th powers, bit by bit, are those of the table, and so are those of the reference's table. Nothing of the program is used.
-/
import Derived.Test.YtddobbigpoplpaaNb
import Derived.Test.YtddobbigpoplpaaGm
namespace Go.Proofs.Ytddobbigpoplpaa
open Go.RowKit
set_option linter.unusedVariables false

/-- the power n of a byte -/
def pwN (x : UInt8) : Nat → UInt8
  | 0 => 1
  | n + 1 => gm (pwN x n) x
/-- one bit more of the substitute that belongs to the inverse q, as the integers' operations have it -/
def afS (q : Nat) (k : Nat) (z : Int) : Int :=
  bits .or .i64 z (wrap64 (bits .and .i64 (bits .xor .i64 (bits .xor .i64 (bits .xor .i64 (bits .xor .i64 (bits .xor .i64 ((q : Int) / 2 ^ k) ((q : Int) / 2 ^ ((k + 4) % 8))) ((q : Int) / 2 ^ ((k + 5) % 8))) ((q : Int) / 2 ^ ((k + 6) % 8))) ((q : Int) / 2 ^ ((k + 7) % 8))) (99 / 2 ^ k)) 1 * 2 ^ k))
def afI (q : Nat) : Nat → Int
  | 0 => 0
  | k + 1 => afS q k (afI q k)

theorem aN_dbl (a : UInt8) : ∀ i, aN (dbl a) i = dbl (aN a i)
  | 0 => rfl
  | i + 1 => by rw [aN, aN_dbl a i, aN]
theorem aN_xor (x y : UInt8) : ∀ i, aN (x ^^^ y) i = aN x i ^^^ aN y i
  | 0 => rfl
  | i + 1 => by rw [aN, aN_xor x y i, dbl_xor, aN, aN]
theorem dbl_zero : dbl 0 = 0 := by decide
theorem gmP_dbl (a b : UInt8) : ∀ i, gmP (dbl a) b i = dbl (gmP a b i)
  | 0 => dbl_zero.symm
  | i + 1 => by
    rw [gmP, gmP, gmP_dbl a b i, aN_dbl]
    split
    · rw [dbl_xor]
    · rfl
theorem gmP_xor (x y b : UInt8) : ∀ i, gmP (x ^^^ y) b i = gmP x b i ^^^ gmP y b i
  | 0 => by simp [gmP]
  | i + 1 => by
    rw [gmP, gmP, gmP, gmP_xor x y b i, aN_xor]
    split
    · simp only [UInt8.xor_assoc, UInt8.xor_comm, xor_lc]
    · rfl
theorem gm_three (x b : UInt8) : gm (x ^^^ dbl x) b = gm x b ^^^ dbl (gm x b) := by
  unfold gm
  rw [gmP_xor, gmP_dbl]
theorem gm_one_n : ∀ n : Fin 256, gm 1 (UInt8.ofNat n.val) = UInt8.ofNat n.val := by decide +kernel
theorem gm_one (b : UInt8) : gm 1 b = b := by
  have h := gm_one_n ⟨b.toNat, b.toNat_lt⟩
  simpa using h
/-- 3 times, n times -/
def itN (y : UInt8) : Nat → UInt8
  | 0 => y
  | n + 1 => itN y n ^^^ dbl (itN y n)
theorem gm_pw (b : UInt8) : ∀ n, gm (pw n) b = itN b n
  | 0 => gm_one b
  | n + 1 => by rw [pw, gm_three, gm_pw b n, itN]
theorem it_pw (j : Nat) : ∀ n, itN (pw j) n = pw (j + n)
  | 0 => rfl
  | n + 1 => by rw [itN, it_pw j n]; rfl
theorem gm_pws (n j : Nat) : gm (pw n) (pw j) = pw (j + n) := by rw [gm_pw, it_pw]
theorem pwN_pw (j : Nat) : ∀ n, pwN (pw j) n = pw (n * j)
  | 0 => by rw [Nat.zero_mul]; rfl
  | n + 1 => by rw [pwN, pwN_pw j n, gm_pws, Nat.succ_mul, Nat.add_comm]
set_option maxRecDepth 100000 in
theorem pw_255 : pw 255 = pw 0 := by decide +kernel
theorem pw_per (n : Nat) : pw (255 + n) = pw n := by rw [← it_pw, pw_255, it_pw, Nat.zero_add]
theorem pw_pers (n : Nat) : ∀ k, pw (255 * k + n) = pw n
  | 0 => by rw [Nat.mul_zero, Nat.zero_add]
  | k + 1 => by rw [show 255 * (k + 1) + n = 255 + (255 * k + n) by omega, pw_per, pw_pers n k]
theorem pw_254 (j : Nat) (hj : j ≤ 255) : pw (254 * j) = pw ((255 - j) % 255) := by
  rcases Nat.eq_zero_or_pos j with h | h
  · subst h
    rfl
  · rw [show 254 * j = 255 * (j - 1) + (255 - j) by omega, pw_pers, Nat.mod_eq_of_lt (by omega)]
def lgL : List Nat := [0, 0, 25, 1, 50, 2, 26, 198, 75, 199, 27, 104, 51, 238, 223, 3, 100, 4, 224, 14, 52, 141, 129, 239, 76, 113, 8, 200, 248, 105, 28, 193, 125, 194, 29, 181, 249, 185, 39, 106, 77, 228, 166, 114, 154, 201, 9, 120, 101, 47, 138, 5, 33, 15, 225, 36, 18, 240, 130, 69, 53, 147, 218, 142, 150, 143, 219, 189, 54, 208, 206, 148, 19, 92, 210, 241, 64, 70, 131, 56, 102, 221, 253, 48, 191, 6, 139, 98, 179, 37, 226, 152, 34, 136, 145, 16, 126, 110, 72, 195, 163, 182, 30, 66, 58, 107, 40, 84, 250, 133, 61, 186, 43, 121, 10, 21, 155, 159, 94, 202, 78, 212, 172, 229, 243, 115, 167, 87, 175, 88, 168, 80, 244, 234, 214, 116, 79, 174, 233, 213, 231, 230, 173, 232, 44, 215, 117, 122, 235, 22, 11, 245, 89, 203, 95, 176, 156, 169, 81, 160, 127, 12, 246, 111, 23, 196, 73, 236, 216, 67, 31, 45, 164, 118, 123, 183, 204, 187, 62, 90, 251, 96, 177, 134, 59, 82, 161, 108, 170, 85, 41, 157, 151, 178, 135, 144, 97, 190, 220, 252, 188, 149, 207, 205, 55, 63, 91, 209, 83, 57, 132, 60, 65, 162, 109, 71, 20, 42, 158, 93, 86, 242, 211, 171, 68, 17, 146, 217, 35, 32, 46, 137, 180, 124, 184, 38, 119, 153, 227, 165, 103, 74, 237, 222, 197, 49, 254, 24, 13, 99, 140, 128, 192, 247, 112, 7]
set_option maxRecDepth 100000 in
theorem lg_n : ∀ n : Fin 256, n.val = 0 ∨ (lgL.getD n.val 0 < 255 ∧ pw (lgL.getD n.val 0) = UInt8.ofNat n.val) := by decide +kernel
set_option maxRecDepth 100000 in
theorem af_pw : ∀ j : Fin 255, afI (pw ((255 - j.val) % 255)).toNat 8 = ((sb.getD (pw j.val).toNat 0).toNat : Int) := by decide +kernel
theorem af_zero : afI 0 8 = ((sb.getD 0 0).toNat : Int) := by decide +kernel
theorem pwN_zero : pwN 0 254 = 0 := by decide +kernel
theorem subst_val (x : UInt8) : afI (pwN x 254).toNat 8 = ((sb.getD x.toNat 0).toNat : Int) := by
  rcases lg_n ⟨x.toNat, x.toNat_lt⟩ with h | ⟨h1, h2⟩
  · have hx : x = 0 := UInt8.toNat_inj.1 h
    subst hx
    rw [pwN_zero]
    exact af_zero
  · simp only [UInt8.ofNat_toNat] at h2
    obtain ⟨j, hj⟩ : ∃ j, j = lgL.getD x.toNat 0 := ⟨_, rfl⟩
    simp only [← hj] at h1 h2
    rw [← h2, pwN_pw, pw_254 j (by omega)]
    exact af_pw ⟨j, h1⟩
/-- the reference's table when n powers have been reached -/
def tbL : Nat → List UInt8
  | 0 => List.replicate 256 0
  | n + 1 => (tbL n).set (pw n).toNat (sb.getD (pw n).toNat 0)
theorem tbL_length : ∀ n, (tbL n).length = 256
  | 0 => by rw [tbL, List.length_replicate]
  | n + 1 => by rw [tbL, List.length_set, tbL_length n]
set_option maxRecDepth 100000 in
theorem tb_all : (tbL 255).set 0 99 = sb := by decide +kernel
theorem gm_3 (n : Nat) : gm (pw n) 3 = pw (n + 1) := by
  rw [show (3 : UInt8) = pw 1 by decide, gm_pws, Nat.add_comm]
set_option maxRecDepth 100000 in
theorem pw_last : pw 254 = 246 := by decide +kernel
theorem gm_246 (n : Nat) : gm (pw (254 * n)) 246 = pw (254 * (n + 1)) := by
  rw [← pw_last, gm_pws, Nat.mul_succ, Nat.add_comm]
theorem af_254 (n : Nat) (h : n < 255) : afI (pw (254 * n)).toNat 8 = ((sb.getD (pw n).toNat 0).toNat : Int) := by
  rw [pw_254 n (by omega)]
  exact af_pw ⟨n, h⟩
set_option maxRecDepth 100000 in
theorem pw_one : ∀ n : Fin 255, pw (n.val + 1) = 1 ↔ n.val + 1 = 255 := by decide +kernel

end Go.Proofs.Ytddobbigpoplpaa
