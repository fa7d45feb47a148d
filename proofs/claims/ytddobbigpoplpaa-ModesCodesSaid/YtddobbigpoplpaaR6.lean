/-
  What is proved here: what a column's products with the reference's factors come to (plain facts).
-/
import Derived.Test.YtddobbigpoplpaaGm
import Derived.Test.YtddobbigpoplpaaFl
namespace Go.Proofs.Ytddobbigpoplpaa
set_option linter.unusedVariables false
set_option linter.unusedSimpArgs false

/-- the products of a column's bytes with the factors, up to the k-th, for the row r -/
def cS (b f : List UInt8) (c r : Nat) : Nat → UInt8
  | 0 => 0
  | k + 1 => cS b f c r k ^^^ gm (b.getD (4 * c + k) 0) (f.getD ((k + 4 - r) % 4) 0)
def cX (b f : List UInt8) (c : Nat) : Nat → List UInt8
  | 0 => [0, 0, 0, 0]
  | r + 1 => (cX b f c r).set r (cS b f c r 4)
def cB (b x : List UInt8) (c : Nat) : Nat → List UInt8
  | 0 => b
  | r + 1 => (cB b x c r).set (4 * c + r) (x.getD r 0)
def mxF (b f : List UInt8) : Nat → List UInt8
  | 0 => b
  | c + 1 => cB (mxF b f c) (cX (mxF b f c) f c 4) c 4
theorem cX_length (b f : List UInt8) (c : Nat) : ∀ r, (cX b f c r).length = 4
  | 0 => rfl
  | r + 1 => by simp [cX, cX_length b f c r]
theorem cB_length (b x : List UInt8) (c : Nat) : ∀ r, (cB b x c r).length = b.length
  | 0 => rfl
  | r + 1 => by simp [cB, cB_length b x c r]
theorem mxF_length (b f : List UInt8) : ∀ c, (mxF b f c).length = b.length
  | 0 => rfl
  | c + 1 => by rw [mxF, cB_length, mxF_length b f c]
theorem gm_thr_n : ∀ n : Fin 256, gm (UInt8.ofNat n.val) 3 = dbl (UInt8.ofNat n.val) ^^^ (UInt8.ofNat n.val) := by decide +kernel
theorem gm_thr (x : UInt8) : gm x 3 = dbl x ^^^ x := by
  have h := gm_thr_n ⟨x.toNat, x.toNat_lt⟩
  simpa using h
theorem gm_un_n : ∀ n : Fin 256, gm (UInt8.ofNat n.val) 1 = (UInt8.ofNat n.val) := by decide +kernel
theorem gm_un (x : UInt8) : gm x 1 = x := by
  have h := gm_un_n ⟨x.toNat, x.toNat_lt⟩
  simpa using h
theorem gm_14_n : ∀ n : Fin 256, gm (UInt8.ofNat n.val) 14 = dbl (UInt8.ofNat n.val) ^^^ (dbl (dbl (UInt8.ofNat n.val)) ^^^ dbl (dbl (dbl (UInt8.ofNat n.val)))) := by decide +kernel
theorem gm_14 (x : UInt8) : gm x 14 = dbl x ^^^ (dbl (dbl x) ^^^ dbl (dbl (dbl x))) := by
  have h := gm_14_n ⟨x.toNat, x.toNat_lt⟩
  simpa using h
theorem gm_11_n : ∀ n : Fin 256, gm (UInt8.ofNat n.val) 11 = (UInt8.ofNat n.val) ^^^ (dbl (UInt8.ofNat n.val) ^^^ dbl (dbl (dbl (UInt8.ofNat n.val)))) := by decide +kernel
theorem gm_11 (x : UInt8) : gm x 11 = x ^^^ (dbl x ^^^ dbl (dbl (dbl x))) := by
  have h := gm_11_n ⟨x.toNat, x.toNat_lt⟩
  simpa using h
theorem gm_13_n : ∀ n : Fin 256, gm (UInt8.ofNat n.val) 13 = (UInt8.ofNat n.val) ^^^ (dbl (dbl (UInt8.ofNat n.val)) ^^^ dbl (dbl (dbl (UInt8.ofNat n.val)))) := by decide +kernel
theorem gm_13 (x : UInt8) : gm x 13 = x ^^^ (dbl (dbl x) ^^^ dbl (dbl (dbl x))) := by
  have h := gm_13_n ⟨x.toNat, x.toNat_lt⟩
  simpa using h
theorem gm_9_n : ∀ n : Fin 256, gm (UInt8.ofNat n.val) 9 = (UInt8.ofNat n.val) ^^^ dbl (dbl (dbl (UInt8.ofNat n.val))) := by decide +kernel
theorem gm_9 (x : UInt8) : gm x 9 = x ^^^ dbl (dbl (dbl x)) := by
  have h := gm_9_n ⟨x.toNat, x.toNat_lt⟩
  simpa using h
theorem mx_lit (f0 f1 f2 f3 b0 b1 b2 b3 b4 b5 b6 b7 b8 b9 b10 b11 b12 b13 b14 b15 : UInt8) : mxF [b0, b1, b2, b3, b4, b5, b6, b7, b8, b9, b10, b11, b12, b13, b14, b15] [f0, f1, f2, f3] 4 = [0 ^^^ gm b0 f0 ^^^ gm b1 f1 ^^^ gm b2 f2 ^^^ gm b3 f3, 0 ^^^ gm b0 f3 ^^^ gm b1 f0 ^^^ gm b2 f1 ^^^ gm b3 f2, 0 ^^^ gm b0 f2 ^^^ gm b1 f3 ^^^ gm b2 f0 ^^^ gm b3 f1, 0 ^^^ gm b0 f1 ^^^ gm b1 f2 ^^^ gm b2 f3 ^^^ gm b3 f0, 0 ^^^ gm b4 f0 ^^^ gm b5 f1 ^^^ gm b6 f2 ^^^ gm b7 f3, 0 ^^^ gm b4 f3 ^^^ gm b5 f0 ^^^ gm b6 f1 ^^^ gm b7 f2, 0 ^^^ gm b4 f2 ^^^ gm b5 f3 ^^^ gm b6 f0 ^^^ gm b7 f1, 0 ^^^ gm b4 f1 ^^^ gm b5 f2 ^^^ gm b6 f3 ^^^ gm b7 f0, 0 ^^^ gm b8 f0 ^^^ gm b9 f1 ^^^ gm b10 f2 ^^^ gm b11 f3, 0 ^^^ gm b8 f3 ^^^ gm b9 f0 ^^^ gm b10 f1 ^^^ gm b11 f2, 0 ^^^ gm b8 f2 ^^^ gm b9 f3 ^^^ gm b10 f0 ^^^ gm b11 f1, 0 ^^^ gm b8 f1 ^^^ gm b9 f2 ^^^ gm b10 f3 ^^^ gm b11 f0, 0 ^^^ gm b12 f0 ^^^ gm b13 f1 ^^^ gm b14 f2 ^^^ gm b15 f3, 0 ^^^ gm b12 f3 ^^^ gm b13 f0 ^^^ gm b14 f1 ^^^ gm b15 f2, 0 ^^^ gm b12 f2 ^^^ gm b13 f3 ^^^ gm b14 f0 ^^^ gm b15 f1, 0 ^^^ gm b12 f1 ^^^ gm b13 f2 ^^^ gm b14 f3 ^^^ gm b15 f0] := by kernel_rfl
theorem cE0 (a b c d : UInt8) : 0 ^^^ gm a 2 ^^^ gm b 3 ^^^ gm c 1 ^^^ gm d 1 = mc a b c d := by
  simp only [gm_two, gm_thr, gm_un, gm_14, gm_11, gm_13, gm_9, mc, qd, dbl_xor, UInt8.xor_assoc, UInt8.xor_comm, xor_lc, xor_cl, UInt8.xor_self, UInt8.xor_zero, UInt8.zero_xor]
theorem cE1 (a b c d : UInt8) : 0 ^^^ gm a 1 ^^^ gm b 2 ^^^ gm c 3 ^^^ gm d 1 = mc b c d a := by
  simp only [gm_two, gm_thr, gm_un, gm_14, gm_11, gm_13, gm_9, mc, qd, dbl_xor, UInt8.xor_assoc, UInt8.xor_comm, xor_lc, xor_cl, UInt8.xor_self, UInt8.xor_zero, UInt8.zero_xor]
theorem cE2 (a b c d : UInt8) : 0 ^^^ gm a 1 ^^^ gm b 1 ^^^ gm c 2 ^^^ gm d 3 = mc c d a b := by
  simp only [gm_two, gm_thr, gm_un, gm_14, gm_11, gm_13, gm_9, mc, qd, dbl_xor, UInt8.xor_assoc, UInt8.xor_comm, xor_lc, xor_cl, UInt8.xor_self, UInt8.xor_zero, UInt8.zero_xor]
theorem cE3 (a b c d : UInt8) : 0 ^^^ gm a 3 ^^^ gm b 1 ^^^ gm c 1 ^^^ gm d 2 = mc d a b c := by
  simp only [gm_two, gm_thr, gm_un, gm_14, gm_11, gm_13, gm_9, mc, qd, dbl_xor, UInt8.xor_assoc, UInt8.xor_comm, xor_lc, xor_cl, UInt8.xor_self, UInt8.xor_zero, UInt8.zero_xor]
theorem cD0 (a b c d : UInt8) : 0 ^^^ gm a 14 ^^^ gm b 11 ^^^ gm c 13 ^^^ gm d 9 = mc (qd a ^^^ (a ^^^ qd c)) (qd b ^^^ (b ^^^ qd d)) (qd c ^^^ (c ^^^ qd a)) (qd d ^^^ (d ^^^ qd b)) := by
  simp only [gm_two, gm_thr, gm_un, gm_14, gm_11, gm_13, gm_9, mc, qd, dbl_xor, UInt8.xor_assoc, UInt8.xor_comm, xor_lc, xor_cl, UInt8.xor_self, UInt8.xor_zero, UInt8.zero_xor]
theorem cD1 (a b c d : UInt8) : 0 ^^^ gm a 9 ^^^ gm b 14 ^^^ gm c 11 ^^^ gm d 13 = mc (qd b ^^^ (b ^^^ qd d)) (qd c ^^^ (c ^^^ qd a)) (qd d ^^^ (d ^^^ qd b)) (qd a ^^^ (a ^^^ qd c)) := by
  simp only [gm_two, gm_thr, gm_un, gm_14, gm_11, gm_13, gm_9, mc, qd, dbl_xor, UInt8.xor_assoc, UInt8.xor_comm, xor_lc, xor_cl, UInt8.xor_self, UInt8.xor_zero, UInt8.zero_xor]
theorem cD2 (a b c d : UInt8) : 0 ^^^ gm a 13 ^^^ gm b 9 ^^^ gm c 14 ^^^ gm d 11 = mc (qd c ^^^ (c ^^^ qd a)) (qd d ^^^ (d ^^^ qd b)) (qd a ^^^ (a ^^^ qd c)) (qd b ^^^ (b ^^^ qd d)) := by
  simp only [gm_two, gm_thr, gm_un, gm_14, gm_11, gm_13, gm_9, mc, qd, dbl_xor, UInt8.xor_assoc, UInt8.xor_comm, xor_lc, xor_cl, UInt8.xor_self, UInt8.xor_zero, UInt8.zero_xor]
theorem cD3 (a b c d : UInt8) : 0 ^^^ gm a 11 ^^^ gm b 13 ^^^ gm c 9 ^^^ gm d 14 = mc (qd d ^^^ (d ^^^ qd b)) (qd a ^^^ (a ^^^ qd c)) (qd b ^^^ (b ^^^ qd d)) (qd c ^^^ (c ^^^ qd a)) := by
  simp only [gm_two, gm_thr, gm_un, gm_14, gm_11, gm_13, gm_9, mc, qd, dbl_xor, UInt8.xor_assoc, UInt8.xor_comm, xor_lc, xor_cl, UInt8.xor_self, UInt8.xor_zero, UInt8.zero_xor]
theorem mx_enc {b : List UInt8} (hb : b.length = 16) : mxF b [2, 3, 1, 1] 4 = mixL b 16 := by
  obtain ⟨b0, b1, b2, b3, b4, b5, b6, b7, b8, b9, b10, b11, b12, b13, b14, b15, rfl⟩ := lit16 hb
  rw [mx_lit, mix_lit]
  simp only [cE0, cE1, cE2, cE3]
theorem mx_dec {b : List UInt8} (hb : b.length = 16) : mxF b [14, 11, 13, 9] 4 = m3 b := by
  obtain ⟨b0, b1, b2, b3, b4, b5, b6, b7, b8, b9, b10, b11, b12, b13, b14, b15, rfl⟩ := lit16 hb
  rw [m3, mix_lit, mix_lit]
  simp only [mc2]
  rw [mx_lit, mix_lit]
  simp only [cD0, cD1, cD2, cD3]

end Go.Proofs.Ytddobbigpoplpaa
