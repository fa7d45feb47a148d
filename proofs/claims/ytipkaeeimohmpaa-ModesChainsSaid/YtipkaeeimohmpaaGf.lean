/-
  What is proved here: the bytes of AES-128 as plain functions (the double, the inverses, the substitutes, the steps on a block), and their lengths. Nothing of the program is used.
-/
import Derived.KernelRfl
namespace Go.Proofs.Ytipkaeeimohmpaa
set_option linter.unusedVariables false

/-- the product with 2 -/
def dbl (x : UInt8) : UInt8 := if x < 128 then x <<< 1 else (x <<< 1) ^^^ 27
/-- the substitutes, and the bytes that they come from -/
def sb : List UInt8 := [99, 124, 119, 123, 242, 107, 111, 197, 48, 1, 103, 43, 254, 215, 171, 118, 202, 130, 201, 125, 250, 89, 71, 240, 173, 212, 162, 175, 156, 164, 114, 192,
  183, 253, 147, 38, 54, 63, 247, 204, 52, 165, 229, 241, 113, 216, 49, 21, 4, 199, 35, 195, 24, 150, 5, 154, 7, 18, 128, 226, 235, 39, 178, 117,
  9, 131, 44, 26, 27, 110, 90, 160, 82, 59, 214, 179, 41, 227, 47, 132, 83, 209, 0, 237, 32, 252, 177, 91, 106, 203, 190, 57, 74, 76, 88, 207,
  208, 239, 170, 251, 67, 77, 51, 133, 69, 249, 2, 127, 80, 60, 159, 168, 81, 163, 64, 143, 146, 157, 56, 245, 188, 182, 218, 33, 16, 255, 243, 210,
  205, 12, 19, 236, 95, 151, 68, 23, 196, 167, 126, 61, 100, 93, 25, 115, 96, 129, 79, 220, 34, 42, 144, 136, 70, 238, 184, 20, 222, 94, 11, 219,
  224, 50, 58, 10, 73, 6, 36, 92, 194, 211, 172, 98, 145, 149, 228, 121, 231, 200, 55, 109, 141, 213, 78, 169, 108, 86, 244, 234, 101, 122, 174, 8,
  186, 120, 37, 46, 28, 166, 180, 198, 232, 221, 116, 31, 75, 189, 139, 138, 112, 62, 181, 102, 72, 3, 246, 14, 97, 53, 87, 185, 134, 193, 29, 158,
  225, 248, 152, 17, 105, 217, 142, 148, 155, 30, 135, 233, 206, 85, 40, 223, 140, 161, 137, 13, 191, 230, 66, 104, 65, 153, 45, 15, 176, 84, 187, 22]
def isb : List UInt8 := [82, 9, 106, 213, 48, 54, 165, 56, 191, 64, 163, 158, 129, 243, 215, 251, 124, 227, 57, 130, 155, 47, 255, 135, 52, 142, 67, 68, 196, 222, 233, 203,
  84, 123, 148, 50, 166, 194, 35, 61, 238, 76, 149, 11, 66, 250, 195, 78, 8, 46, 161, 102, 40, 217, 36, 178, 118, 91, 162, 73, 109, 139, 209, 37,
  114, 248, 246, 100, 134, 104, 152, 22, 212, 164, 92, 204, 93, 101, 182, 146, 108, 112, 72, 80, 253, 237, 185, 218, 94, 21, 70, 87, 167, 141, 157, 132,
  144, 216, 171, 0, 140, 188, 211, 10, 247, 228, 88, 5, 184, 179, 69, 6, 208, 44, 30, 143, 202, 63, 15, 2, 193, 175, 189, 3, 1, 19, 138, 107,
  58, 145, 17, 65, 79, 103, 220, 234, 151, 242, 207, 206, 240, 180, 230, 115, 150, 172, 116, 34, 231, 173, 53, 133, 226, 249, 55, 232, 28, 117, 223, 110,
  71, 241, 26, 113, 29, 41, 197, 137, 111, 183, 98, 14, 170, 24, 190, 27, 252, 86, 62, 75, 198, 210, 121, 32, 154, 219, 192, 254, 120, 205, 90, 244,
  31, 221, 168, 51, 136, 7, 199, 49, 177, 18, 16, 89, 39, 128, 236, 95, 96, 81, 127, 169, 25, 181, 74, 13, 45, 229, 122, 159, 147, 201, 156, 239,
  160, 224, 59, 77, 174, 42, 245, 176, 200, 235, 187, 60, 131, 83, 153, 97, 23, 43, 4, 126, 186, 119, 214, 38, 225, 105, 20, 99, 85, 33, 12, 125]
theorem sb_length : sb.length = 256 := by kernel_rfl
theorem isb_length : isb.length = 256 := by kernel_rfl

/-- the powers of 3 -/
def pw : Nat → UInt8
  | 0 => 1
  | n + 1 => pw n ^^^ dbl (pw n)
/-- the first n powers, then zeros -/
def pwL : Nat → List UInt8
  | 0 => List.replicate 255 0
  | n + 1 => (pwL n).set n (pw n)
theorem pwL_length : ∀ n, (pwL n).length = 255
  | 0 => by rw [pwL, List.length_replicate]
  | n + 1 => by simp [pwL, pwL_length n]
def ivL : Nat → List UInt8
  | 0 => List.replicate 256 0
  | n + 1 => (ivL n).set ((pwL 255).getD n 0).toNat ((pwL 255).getD ((255 - n) % 255) 0)
theorem ivL_length : ∀ n, (ivL n).length = 256
  | 0 => by rw [ivL, List.length_replicate]
  | n + 1 => by simp [ivL, ivL_length n]
/-- rotated to the right by n -/
def rot8 (x : UInt8) (n : Nat) : UInt8 := (x >>> UInt8.ofNat n) ||| (x <<< UInt8.ofNat (8 - n))
/-- the inverse b, combined with its first k rotations, from 4 on -/
def mixR (b : UInt8) : Nat → UInt8
  | 0 => b
  | k + 1 => mixR b k ^^^ rot8 b (k + 4)
/-- the first n substitutes, then inverses -/
def sbL : Nat → List UInt8
  | 0 => ivL 255
  | n + 1 => (sbL n).set n (mixR ((ivL 255).getD n 0) 4 ^^^ 99)
theorem sbL_length : ∀ n, (sbL n).length = 256
  | 0 => by rw [sbL]; exact ivL_length 255
  | n + 1 => by simp [sbL, sbL_length n]
def rvL : Nat → List UInt8
  | 0 => List.replicate 256 0
  | n + 1 => (rvL n).set (sb.getD n 0).toNat (UInt8.ofNat n)
theorem rvL_length : ∀ n, (rvL n).length = 256
  | 0 => by rw [rvL, List.length_replicate]
  | n + 1 => by simp [rvL, rvL_length n]
theorem sbL_get : ∀ (n k : Nat), n ≤ k → (sbL n).getD k 0 = (ivL 255).getD k 0
  | 0, k, _ => by rw [sbL]
  | n + 1, k, h => by
    rw [sbL, List.getD, List.getElem?_set_ne (by omega)]
    exact sbL_get n k (by omega)
set_option maxRecDepth 100000 in
theorem sb_all : sbL 256 = sb := by decide +kernel
set_option maxRecDepth 100000 in
theorem rv_all : rvL 256 = isb := by decide +kernel

/-! ### the steps on a block -/
def addL (b k : List UInt8) : Nat → List UInt8
  | 0 => b
  | i + 1 => (addL b k i).set i ((addL b k i).getD i 0 ^^^ k.getD i 0)
def subL (t b : List UInt8) : Nat → List UInt8
  | 0 => b
  | i + 1 => (subL t b i).set i (t.getD ((subL t b i).getD i 0).toNat 0)
/-- the round i stands for the column i / 4, the row i % 4 -/
def rotL (b : List UInt8) (n : Nat) : Nat → List UInt8
  | 0 => List.replicate 16 0
  | i + 1 => (rotL b n i).set i (b.getD (4 * ((i / 4 + i % 4 * n) % 4) + i % 4) 0)
def sumC (b : List UInt8) (c : Nat) : UInt8 := b.getD (4 * c) 0 ^^^ b.getD (4 * c + 1) 0 ^^^ b.getD (4 * c + 2) 0 ^^^ b.getD (4 * c + 3) 0
def mixL (b : List UInt8) : Nat → List UInt8
  | 0 => List.replicate 16 0
  | i + 1 => (mixL b i).set i (sumC b (i / 4) ^^^ b.getD (4 * (i / 4) + i % 4) 0 ^^^ dbl (b.getD (4 * (i / 4) + i % 4) 0 ^^^ b.getD (4 * (i / 4) + (i % 4 + 1) % 4) 0))
theorem addL_length (b k : List UInt8) : ∀ i, (addL b k i).length = b.length
  | 0 => rfl
  | i + 1 => by simp [addL, addL_length b k i]
theorem subL_length (t b : List UInt8) : ∀ i, (subL t b i).length = b.length
  | 0 => rfl
  | i + 1 => by simp [subL, subL_length t b i]
theorem rotL_length (b : List UInt8) (n : Nat) : ∀ i, (rotL b n i).length = 16
  | 0 => by simp [rotL]
  | i + 1 => by simp [rotL, rotL_length b n i]
theorem mixL_length (b : List UInt8) : ∀ i, (mixL b i).length = 16
  | 0 => by simp [mixL]
  | i + 1 => by simp [mixL, mixL_length b i]

/-! ### the keys -/
/-- the word ahead of the rounds -/
def wdL (k : List UInt8) : Nat → List UInt8
  | 0 => List.replicate 4 0
  | r + 1 => (wdL k r).set r (sb.getD (k.getD (12 + (r + 1) % 4) 0).toNat 0)
theorem wdL_length (k : List UInt8) : ∀ r, (wdL k r).length = 4
  | 0 => by simp [wdL]
  | r + 1 => by simp [wdL, wdL_length k r]
/-- the word and the key when i bytes have been made -/
def nkL (k : List UInt8) (c : UInt8) : Nat → List UInt8 × List UInt8
  | 0 => ((wdL k 4).set 0 ((wdL k 4).getD 0 0 ^^^ c), k)
  | i + 1 => let p := nkL k c i; let v := p.1.getD (i % 4) 0 ^^^ p.2.getD i 0; (p.1.set (i % 4) v, p.2.set i v)
theorem nkL_length (k : List UInt8) (c : UInt8) : ∀ i, (nkL k c i).1.length = 4 ∧ (nkL k c i).2.length = k.length
  | 0 => by simp [nkL, wdL_length]
  | i + 1 => by have := nkL_length k c i; simp [nkL, this]
/-- the round constants -/
def rc : Nat → UInt8
  | 0 => 1
  | n + 1 => dbl (rc n)
/-- the key of round n -/
def rk (k : List UInt8) : Nat → List UInt8
  | 0 => k
  | n + 1 => (nkL (rk k n) (rc n) 16).2
theorem rk_length (k : List UInt8) : ∀ n, (rk k n).length = k.length
  | 0 => rfl
  | n + 1 => by rw [rk, (nkL_length _ _ 16).2, rk_length k n]
/-- the first n keys in a row -/
def rkA (k : List UInt8) : Nat → List UInt8
  | 0 => []
  | n + 1 => rkA k n ++ rk k n
theorem rkA_length (k : List UInt8) : ∀ n, (rkA k n).length = n * k.length
  | 0 => by simp [rkA]
  | n + 1 => by rw [rkA, List.length_append, rkA_length k n, rk_length, Nat.succ_mul]
/-- the keys when n + 1 of the 11 have been made -/
def kyL (k : List UInt8) (n : Nat) : List UInt8 := rkA k (n + 1) ++ List.replicate (160 - 16 * n) 0

/-! ### blocks, encrypted and decrypted -/
def eR (k b : List UInt8) : Nat → List UInt8
  | 0 => addL b (rk k 0) 16
  | n + 1 => addL (mixL (rotL (subL sb (eR k b n) 16) 1 16) 16) (rk k (n + 1)) 16
def encL (k b : List UInt8) : List UInt8 := addL (rotL (subL sb (eR k b 9) 16) 1 16) (rk k 10) 16
def m3 (b : List UInt8) : List UInt8 := mixL (mixL (mixL b 16) 16) 16
/-- n rounds from the last one down: the block ahead of round 9 - n's key -/
def dR (k b : List UInt8) : Nat → List UInt8
  | 0 => subL isb (rotL (addL b (rk k 10) 16) 3 16) 16
  | n + 1 => subL isb (rotL (m3 (addL (dR k b n) (rk k (9 - n)) 16)) 3 16) 16
def decL (k b : List UInt8) : List UInt8 := addL (dR k b 9) (rk k 0) 16
theorem eR_length (k b : List UInt8) (hb : b.length = 16) : ∀ n, (eR k b n).length = 16
  | 0 => by rw [eR, addL_length, hb]
  | n + 1 => by rw [eR, addL_length, mixL_length]
theorem encL_length (k b : List UInt8) : (encL k b).length = 16 := by rw [encL, addL_length, rotL_length]
theorem dR_length (k b : List UInt8) : ∀ n, (dR k b n).length = 16
  | 0 => by rw [dR, subL_length, rotL_length]
  | n + 1 => by rw [dR, subL_length, rotL_length]
theorem decL_length (k b : List UInt8) : (decL k b).length = 16 := by rw [decL, addL_length, dR_length]

end Go.Proofs.Ytipkaeeimohmpaa
