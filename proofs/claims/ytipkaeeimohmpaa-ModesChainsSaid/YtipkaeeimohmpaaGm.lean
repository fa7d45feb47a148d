/-
  What is proved here: that the steps of decryption take those of encryption back, in both orders, and the published values. Nothing of the program is used.
-/
import Derived.Test.YtipkaeeimohmpaaGf
namespace Go.Proofs.Ytipkaeeimohmpaa
set_option linter.unusedVariables false

theorem lit16 {l : List UInt8} (h : l.length = 16) : ∃ b0 b1 b2 b3 b4 b5 b6 b7 b8 b9 b10 b11 b12 b13 b14 b15, l = [b0, b1, b2, b3, b4, b5, b6, b7, b8, b9, b10, b11, b12, b13, b14, b15] := by
  match l, h with
  | [b0, b1, b2, b3, b4, b5, b6, b7, b8, b9, b10, b11, b12, b13, b14, b15], _ => exact ⟨b0, b1, b2, b3, b4, b5, b6, b7, b8, b9, b10, b11, b12, b13, b14, b15, rfl⟩
theorem add_lit (b0 b1 b2 b3 b4 b5 b6 b7 b8 b9 b10 b11 b12 b13 b14 b15 k0 k1 k2 k3 k4 k5 k6 k7 k8 k9 k10 k11 k12 k13 k14 k15 : UInt8) : addL [b0, b1, b2, b3, b4, b5, b6, b7, b8, b9, b10, b11, b12, b13, b14, b15] [k0, k1, k2, k3, k4, k5, k6, k7, k8, k9, k10, k11, k12, k13, k14, k15] 16 = [b0 ^^^ k0, b1 ^^^ k1, b2 ^^^ k2, b3 ^^^ k3, b4 ^^^ k4, b5 ^^^ k5, b6 ^^^ k6, b7 ^^^ k7, b8 ^^^ k8, b9 ^^^ k9, b10 ^^^ k10, b11 ^^^ k11, b12 ^^^ k12, b13 ^^^ k13, b14 ^^^ k14, b15 ^^^ k15] := by
  have h1 : addL [b0, b1, b2, b3, b4, b5, b6, b7, b8, b9, b10, b11, b12, b13, b14, b15] [k0, k1, k2, k3, k4, k5, k6, k7, k8, k9, k10, k11, k12, k13, k14, k15] 1 = [b0 ^^^ k0, b1, b2, b3, b4, b5, b6, b7, b8, b9, b10, b11, b12, b13, b14, b15] := by rw [addL, addL]; rfl
  have h2 : addL [b0, b1, b2, b3, b4, b5, b6, b7, b8, b9, b10, b11, b12, b13, b14, b15] [k0, k1, k2, k3, k4, k5, k6, k7, k8, k9, k10, k11, k12, k13, k14, k15] 2 = [b0 ^^^ k0, b1 ^^^ k1, b2, b3, b4, b5, b6, b7, b8, b9, b10, b11, b12, b13, b14, b15] := by rw [addL, h1]; rfl
  have h3 : addL [b0, b1, b2, b3, b4, b5, b6, b7, b8, b9, b10, b11, b12, b13, b14, b15] [k0, k1, k2, k3, k4, k5, k6, k7, k8, k9, k10, k11, k12, k13, k14, k15] 3 = [b0 ^^^ k0, b1 ^^^ k1, b2 ^^^ k2, b3, b4, b5, b6, b7, b8, b9, b10, b11, b12, b13, b14, b15] := by rw [addL, h2]; rfl
  have h4 : addL [b0, b1, b2, b3, b4, b5, b6, b7, b8, b9, b10, b11, b12, b13, b14, b15] [k0, k1, k2, k3, k4, k5, k6, k7, k8, k9, k10, k11, k12, k13, k14, k15] 4 = [b0 ^^^ k0, b1 ^^^ k1, b2 ^^^ k2, b3 ^^^ k3, b4, b5, b6, b7, b8, b9, b10, b11, b12, b13, b14, b15] := by rw [addL, h3]; rfl
  have h5 : addL [b0, b1, b2, b3, b4, b5, b6, b7, b8, b9, b10, b11, b12, b13, b14, b15] [k0, k1, k2, k3, k4, k5, k6, k7, k8, k9, k10, k11, k12, k13, k14, k15] 5 = [b0 ^^^ k0, b1 ^^^ k1, b2 ^^^ k2, b3 ^^^ k3, b4 ^^^ k4, b5, b6, b7, b8, b9, b10, b11, b12, b13, b14, b15] := by rw [addL, h4]; rfl
  have h6 : addL [b0, b1, b2, b3, b4, b5, b6, b7, b8, b9, b10, b11, b12, b13, b14, b15] [k0, k1, k2, k3, k4, k5, k6, k7, k8, k9, k10, k11, k12, k13, k14, k15] 6 = [b0 ^^^ k0, b1 ^^^ k1, b2 ^^^ k2, b3 ^^^ k3, b4 ^^^ k4, b5 ^^^ k5, b6, b7, b8, b9, b10, b11, b12, b13, b14, b15] := by rw [addL, h5]; rfl
  have h7 : addL [b0, b1, b2, b3, b4, b5, b6, b7, b8, b9, b10, b11, b12, b13, b14, b15] [k0, k1, k2, k3, k4, k5, k6, k7, k8, k9, k10, k11, k12, k13, k14, k15] 7 = [b0 ^^^ k0, b1 ^^^ k1, b2 ^^^ k2, b3 ^^^ k3, b4 ^^^ k4, b5 ^^^ k5, b6 ^^^ k6, b7, b8, b9, b10, b11, b12, b13, b14, b15] := by rw [addL, h6]; rfl
  have h8 : addL [b0, b1, b2, b3, b4, b5, b6, b7, b8, b9, b10, b11, b12, b13, b14, b15] [k0, k1, k2, k3, k4, k5, k6, k7, k8, k9, k10, k11, k12, k13, k14, k15] 8 = [b0 ^^^ k0, b1 ^^^ k1, b2 ^^^ k2, b3 ^^^ k3, b4 ^^^ k4, b5 ^^^ k5, b6 ^^^ k6, b7 ^^^ k7, b8, b9, b10, b11, b12, b13, b14, b15] := by rw [addL, h7]; rfl
  have h9 : addL [b0, b1, b2, b3, b4, b5, b6, b7, b8, b9, b10, b11, b12, b13, b14, b15] [k0, k1, k2, k3, k4, k5, k6, k7, k8, k9, k10, k11, k12, k13, k14, k15] 9 = [b0 ^^^ k0, b1 ^^^ k1, b2 ^^^ k2, b3 ^^^ k3, b4 ^^^ k4, b5 ^^^ k5, b6 ^^^ k6, b7 ^^^ k7, b8 ^^^ k8, b9, b10, b11, b12, b13, b14, b15] := by rw [addL, h8]; rfl
  have h10 : addL [b0, b1, b2, b3, b4, b5, b6, b7, b8, b9, b10, b11, b12, b13, b14, b15] [k0, k1, k2, k3, k4, k5, k6, k7, k8, k9, k10, k11, k12, k13, k14, k15] 10 = [b0 ^^^ k0, b1 ^^^ k1, b2 ^^^ k2, b3 ^^^ k3, b4 ^^^ k4, b5 ^^^ k5, b6 ^^^ k6, b7 ^^^ k7, b8 ^^^ k8, b9 ^^^ k9, b10, b11, b12, b13, b14, b15] := by rw [addL, h9]; rfl
  have h11 : addL [b0, b1, b2, b3, b4, b5, b6, b7, b8, b9, b10, b11, b12, b13, b14, b15] [k0, k1, k2, k3, k4, k5, k6, k7, k8, k9, k10, k11, k12, k13, k14, k15] 11 = [b0 ^^^ k0, b1 ^^^ k1, b2 ^^^ k2, b3 ^^^ k3, b4 ^^^ k4, b5 ^^^ k5, b6 ^^^ k6, b7 ^^^ k7, b8 ^^^ k8, b9 ^^^ k9, b10 ^^^ k10, b11, b12, b13, b14, b15] := by rw [addL, h10]; rfl
  have h12 : addL [b0, b1, b2, b3, b4, b5, b6, b7, b8, b9, b10, b11, b12, b13, b14, b15] [k0, k1, k2, k3, k4, k5, k6, k7, k8, k9, k10, k11, k12, k13, k14, k15] 12 = [b0 ^^^ k0, b1 ^^^ k1, b2 ^^^ k2, b3 ^^^ k3, b4 ^^^ k4, b5 ^^^ k5, b6 ^^^ k6, b7 ^^^ k7, b8 ^^^ k8, b9 ^^^ k9, b10 ^^^ k10, b11 ^^^ k11, b12, b13, b14, b15] := by rw [addL, h11]; rfl
  have h13 : addL [b0, b1, b2, b3, b4, b5, b6, b7, b8, b9, b10, b11, b12, b13, b14, b15] [k0, k1, k2, k3, k4, k5, k6, k7, k8, k9, k10, k11, k12, k13, k14, k15] 13 = [b0 ^^^ k0, b1 ^^^ k1, b2 ^^^ k2, b3 ^^^ k3, b4 ^^^ k4, b5 ^^^ k5, b6 ^^^ k6, b7 ^^^ k7, b8 ^^^ k8, b9 ^^^ k9, b10 ^^^ k10, b11 ^^^ k11, b12 ^^^ k12, b13, b14, b15] := by rw [addL, h12]; rfl
  have h14 : addL [b0, b1, b2, b3, b4, b5, b6, b7, b8, b9, b10, b11, b12, b13, b14, b15] [k0, k1, k2, k3, k4, k5, k6, k7, k8, k9, k10, k11, k12, k13, k14, k15] 14 = [b0 ^^^ k0, b1 ^^^ k1, b2 ^^^ k2, b3 ^^^ k3, b4 ^^^ k4, b5 ^^^ k5, b6 ^^^ k6, b7 ^^^ k7, b8 ^^^ k8, b9 ^^^ k9, b10 ^^^ k10, b11 ^^^ k11, b12 ^^^ k12, b13 ^^^ k13, b14, b15] := by rw [addL, h13]; rfl
  have h15 : addL [b0, b1, b2, b3, b4, b5, b6, b7, b8, b9, b10, b11, b12, b13, b14, b15] [k0, k1, k2, k3, k4, k5, k6, k7, k8, k9, k10, k11, k12, k13, k14, k15] 15 = [b0 ^^^ k0, b1 ^^^ k1, b2 ^^^ k2, b3 ^^^ k3, b4 ^^^ k4, b5 ^^^ k5, b6 ^^^ k6, b7 ^^^ k7, b8 ^^^ k8, b9 ^^^ k9, b10 ^^^ k10, b11 ^^^ k11, b12 ^^^ k12, b13 ^^^ k13, b14 ^^^ k14, b15] := by rw [addL, h14]; rfl
  have h16 : addL [b0, b1, b2, b3, b4, b5, b6, b7, b8, b9, b10, b11, b12, b13, b14, b15] [k0, k1, k2, k3, k4, k5, k6, k7, k8, k9, k10, k11, k12, k13, k14, k15] 16 = [b0 ^^^ k0, b1 ^^^ k1, b2 ^^^ k2, b3 ^^^ k3, b4 ^^^ k4, b5 ^^^ k5, b6 ^^^ k6, b7 ^^^ k7, b8 ^^^ k8, b9 ^^^ k9, b10 ^^^ k10, b11 ^^^ k11, b12 ^^^ k12, b13 ^^^ k13, b14 ^^^ k14, b15 ^^^ k15] := by rw [addL, h15]; rfl
  exact h16
theorem sub_lit (t : List UInt8) (b0 b1 b2 b3 b4 b5 b6 b7 b8 b9 b10 b11 b12 b13 b14 b15 : UInt8) : subL t [b0, b1, b2, b3, b4, b5, b6, b7, b8, b9, b10, b11, b12, b13, b14, b15] 16 = [t.getD b0.toNat 0, t.getD b1.toNat 0, t.getD b2.toNat 0, t.getD b3.toNat 0, t.getD b4.toNat 0, t.getD b5.toNat 0, t.getD b6.toNat 0, t.getD b7.toNat 0, t.getD b8.toNat 0, t.getD b9.toNat 0, t.getD b10.toNat 0, t.getD b11.toNat 0, t.getD b12.toNat 0, t.getD b13.toNat 0, t.getD b14.toNat 0, t.getD b15.toNat 0] := by
  have h1 : subL t [b0, b1, b2, b3, b4, b5, b6, b7, b8, b9, b10, b11, b12, b13, b14, b15] 1 = [t.getD b0.toNat 0, b1, b2, b3, b4, b5, b6, b7, b8, b9, b10, b11, b12, b13, b14, b15] := by rw [subL, subL]; rfl
  have h2 : subL t [b0, b1, b2, b3, b4, b5, b6, b7, b8, b9, b10, b11, b12, b13, b14, b15] 2 = [t.getD b0.toNat 0, t.getD b1.toNat 0, b2, b3, b4, b5, b6, b7, b8, b9, b10, b11, b12, b13, b14, b15] := by rw [subL, h1]; rfl
  have h3 : subL t [b0, b1, b2, b3, b4, b5, b6, b7, b8, b9, b10, b11, b12, b13, b14, b15] 3 = [t.getD b0.toNat 0, t.getD b1.toNat 0, t.getD b2.toNat 0, b3, b4, b5, b6, b7, b8, b9, b10, b11, b12, b13, b14, b15] := by rw [subL, h2]; rfl
  have h4 : subL t [b0, b1, b2, b3, b4, b5, b6, b7, b8, b9, b10, b11, b12, b13, b14, b15] 4 = [t.getD b0.toNat 0, t.getD b1.toNat 0, t.getD b2.toNat 0, t.getD b3.toNat 0, b4, b5, b6, b7, b8, b9, b10, b11, b12, b13, b14, b15] := by rw [subL, h3]; rfl
  have h5 : subL t [b0, b1, b2, b3, b4, b5, b6, b7, b8, b9, b10, b11, b12, b13, b14, b15] 5 = [t.getD b0.toNat 0, t.getD b1.toNat 0, t.getD b2.toNat 0, t.getD b3.toNat 0, t.getD b4.toNat 0, b5, b6, b7, b8, b9, b10, b11, b12, b13, b14, b15] := by rw [subL, h4]; rfl
  have h6 : subL t [b0, b1, b2, b3, b4, b5, b6, b7, b8, b9, b10, b11, b12, b13, b14, b15] 6 = [t.getD b0.toNat 0, t.getD b1.toNat 0, t.getD b2.toNat 0, t.getD b3.toNat 0, t.getD b4.toNat 0, t.getD b5.toNat 0, b6, b7, b8, b9, b10, b11, b12, b13, b14, b15] := by rw [subL, h5]; rfl
  have h7 : subL t [b0, b1, b2, b3, b4, b5, b6, b7, b8, b9, b10, b11, b12, b13, b14, b15] 7 = [t.getD b0.toNat 0, t.getD b1.toNat 0, t.getD b2.toNat 0, t.getD b3.toNat 0, t.getD b4.toNat 0, t.getD b5.toNat 0, t.getD b6.toNat 0, b7, b8, b9, b10, b11, b12, b13, b14, b15] := by rw [subL, h6]; rfl
  have h8 : subL t [b0, b1, b2, b3, b4, b5, b6, b7, b8, b9, b10, b11, b12, b13, b14, b15] 8 = [t.getD b0.toNat 0, t.getD b1.toNat 0, t.getD b2.toNat 0, t.getD b3.toNat 0, t.getD b4.toNat 0, t.getD b5.toNat 0, t.getD b6.toNat 0, t.getD b7.toNat 0, b8, b9, b10, b11, b12, b13, b14, b15] := by rw [subL, h7]; rfl
  have h9 : subL t [b0, b1, b2, b3, b4, b5, b6, b7, b8, b9, b10, b11, b12, b13, b14, b15] 9 = [t.getD b0.toNat 0, t.getD b1.toNat 0, t.getD b2.toNat 0, t.getD b3.toNat 0, t.getD b4.toNat 0, t.getD b5.toNat 0, t.getD b6.toNat 0, t.getD b7.toNat 0, t.getD b8.toNat 0, b9, b10, b11, b12, b13, b14, b15] := by rw [subL, h8]; rfl
  have h10 : subL t [b0, b1, b2, b3, b4, b5, b6, b7, b8, b9, b10, b11, b12, b13, b14, b15] 10 = [t.getD b0.toNat 0, t.getD b1.toNat 0, t.getD b2.toNat 0, t.getD b3.toNat 0, t.getD b4.toNat 0, t.getD b5.toNat 0, t.getD b6.toNat 0, t.getD b7.toNat 0, t.getD b8.toNat 0, t.getD b9.toNat 0, b10, b11, b12, b13, b14, b15] := by rw [subL, h9]; rfl
  have h11 : subL t [b0, b1, b2, b3, b4, b5, b6, b7, b8, b9, b10, b11, b12, b13, b14, b15] 11 = [t.getD b0.toNat 0, t.getD b1.toNat 0, t.getD b2.toNat 0, t.getD b3.toNat 0, t.getD b4.toNat 0, t.getD b5.toNat 0, t.getD b6.toNat 0, t.getD b7.toNat 0, t.getD b8.toNat 0, t.getD b9.toNat 0, t.getD b10.toNat 0, b11, b12, b13, b14, b15] := by rw [subL, h10]; rfl
  have h12 : subL t [b0, b1, b2, b3, b4, b5, b6, b7, b8, b9, b10, b11, b12, b13, b14, b15] 12 = [t.getD b0.toNat 0, t.getD b1.toNat 0, t.getD b2.toNat 0, t.getD b3.toNat 0, t.getD b4.toNat 0, t.getD b5.toNat 0, t.getD b6.toNat 0, t.getD b7.toNat 0, t.getD b8.toNat 0, t.getD b9.toNat 0, t.getD b10.toNat 0, t.getD b11.toNat 0, b12, b13, b14, b15] := by rw [subL, h11]; rfl
  have h13 : subL t [b0, b1, b2, b3, b4, b5, b6, b7, b8, b9, b10, b11, b12, b13, b14, b15] 13 = [t.getD b0.toNat 0, t.getD b1.toNat 0, t.getD b2.toNat 0, t.getD b3.toNat 0, t.getD b4.toNat 0, t.getD b5.toNat 0, t.getD b6.toNat 0, t.getD b7.toNat 0, t.getD b8.toNat 0, t.getD b9.toNat 0, t.getD b10.toNat 0, t.getD b11.toNat 0, t.getD b12.toNat 0, b13, b14, b15] := by rw [subL, h12]; rfl
  have h14 : subL t [b0, b1, b2, b3, b4, b5, b6, b7, b8, b9, b10, b11, b12, b13, b14, b15] 14 = [t.getD b0.toNat 0, t.getD b1.toNat 0, t.getD b2.toNat 0, t.getD b3.toNat 0, t.getD b4.toNat 0, t.getD b5.toNat 0, t.getD b6.toNat 0, t.getD b7.toNat 0, t.getD b8.toNat 0, t.getD b9.toNat 0, t.getD b10.toNat 0, t.getD b11.toNat 0, t.getD b12.toNat 0, t.getD b13.toNat 0, b14, b15] := by rw [subL, h13]; rfl
  have h15 : subL t [b0, b1, b2, b3, b4, b5, b6, b7, b8, b9, b10, b11, b12, b13, b14, b15] 15 = [t.getD b0.toNat 0, t.getD b1.toNat 0, t.getD b2.toNat 0, t.getD b3.toNat 0, t.getD b4.toNat 0, t.getD b5.toNat 0, t.getD b6.toNat 0, t.getD b7.toNat 0, t.getD b8.toNat 0, t.getD b9.toNat 0, t.getD b10.toNat 0, t.getD b11.toNat 0, t.getD b12.toNat 0, t.getD b13.toNat 0, t.getD b14.toNat 0, b15] := by rw [subL, h14]; rfl
  have h16 : subL t [b0, b1, b2, b3, b4, b5, b6, b7, b8, b9, b10, b11, b12, b13, b14, b15] 16 = [t.getD b0.toNat 0, t.getD b1.toNat 0, t.getD b2.toNat 0, t.getD b3.toNat 0, t.getD b4.toNat 0, t.getD b5.toNat 0, t.getD b6.toNat 0, t.getD b7.toNat 0, t.getD b8.toNat 0, t.getD b9.toNat 0, t.getD b10.toNat 0, t.getD b11.toNat 0, t.getD b12.toNat 0, t.getD b13.toNat 0, t.getD b14.toNat 0, t.getD b15.toNat 0] := by rw [subL, h15]; rfl
  exact h16
theorem rot1_lit (b0 b1 b2 b3 b4 b5 b6 b7 b8 b9 b10 b11 b12 b13 b14 b15 : UInt8) : rotL [b0, b1, b2, b3, b4, b5, b6, b7, b8, b9, b10, b11, b12, b13, b14, b15] 1 16 = [b0, b5, b10, b15, b4, b9, b14, b3, b8, b13, b2, b7, b12, b1, b6, b11] := rfl
theorem rot3_lit (b0 b1 b2 b3 b4 b5 b6 b7 b8 b9 b10 b11 b12 b13 b14 b15 : UInt8) : rotL [b0, b1, b2, b3, b4, b5, b6, b7, b8, b9, b10, b11, b12, b13, b14, b15] 3 16 = [b0, b13, b10, b7, b4, b1, b14, b11, b8, b5, b2, b15, b12, b9, b6, b3] := rfl
theorem add_add {b k : List UInt8} (hb : b.length = 16) (hk : k.length = 16) : addL (addL b k 16) k 16 = b := by
  obtain ⟨b0, b1, b2, b3, b4, b5, b6, b7, b8, b9, b10, b11, b12, b13, b14, b15, rfl⟩ := lit16 hb
  obtain ⟨k0, k1, k2, k3, k4, k5, k6, k7, k8, k9, k10, k11, k12, k13, k14, k15, rfl⟩ := lit16 hk
  rw [add_lit, add_lit]
  simp [UInt8.xor_assoc]
set_option maxRecDepth 100000 in
theorem isb_sb_n : ∀ n : Fin 256, isb.getD (sb.getD n.val 0).toNat 0 = UInt8.ofNat n.val := by decide +kernel
set_option maxRecDepth 100000 in
theorem sb_isb_n : ∀ n : Fin 256, sb.getD (isb.getD n.val 0).toNat 0 = UInt8.ofNat n.val := by decide +kernel
theorem isb_sb (x : UInt8) : isb.getD (sb.getD x.toNat 0).toNat 0 = x := by
  have h := isb_sb_n ⟨x.toNat, x.toNat_lt⟩
  rw [h]
  simp
theorem sb_isb (x : UInt8) : sb.getD (isb.getD x.toNat 0).toNat 0 = x := by
  have h := sb_isb_n ⟨x.toNat, x.toNat_lt⟩
  rw [h]
  simp
theorem sub_back {b : List UInt8} (hb : b.length = 16) : subL isb (subL sb b 16) 16 = b := by
  obtain ⟨b0, b1, b2, b3, b4, b5, b6, b7, b8, b9, b10, b11, b12, b13, b14, b15, rfl⟩ := lit16 hb
  rw [sub_lit, sub_lit]
  simp only [isb_sb]
theorem sub_forth {b : List UInt8} (hb : b.length = 16) : subL sb (subL isb b 16) 16 = b := by
  obtain ⟨b0, b1, b2, b3, b4, b5, b6, b7, b8, b9, b10, b11, b12, b13, b14, b15, rfl⟩ := lit16 hb
  rw [sub_lit, sub_lit]
  simp only [sb_isb]
theorem rot_back {b : List UInt8} (hb : b.length = 16) : rotL (rotL b 1 16) 3 16 = b := by
  obtain ⟨b0, b1, b2, b3, b4, b5, b6, b7, b8, b9, b10, b11, b12, b13, b14, b15, rfl⟩ := lit16 hb
  rw [rot1_lit, rot3_lit]
theorem rot_forth {b : List UInt8} (hb : b.length = 16) : rotL (rotL b 3 16) 1 16 = b := by
  obtain ⟨b0, b1, b2, b3, b4, b5, b6, b7, b8, b9, b10, b11, b12, b13, b14, b15, rfl⟩ := lit16 hb
  rw [rot3_lit, rot1_lit]

/-! ### columns -/
theorem dbl_xor_n : ∀ m n : Fin 256, dbl (UInt8.ofNat m.val ^^^ UInt8.ofNat n.val) = dbl (UInt8.ofNat m.val) ^^^ dbl (UInt8.ofNat n.val) := by decide +kernel
theorem dbl_xor (x y : UInt8) : dbl (x ^^^ y) = dbl x ^^^ dbl y := by
  have h := dbl_xor_n ⟨x.toNat, x.toNat_lt⟩ ⟨y.toNat, y.toNat_lt⟩
  simpa using h
/-- 2 a + 3 b + c + d -/
def mc (a b c d : UInt8) : UInt8 := dbl a ^^^ (dbl b ^^^ (b ^^^ (c ^^^ d)))
theorem xor_lc (a b c : UInt8) : a ^^^ (b ^^^ c) = b ^^^ (a ^^^ c) := by rw [← UInt8.xor_assoc, UInt8.xor_comm a b, UInt8.xor_assoc]
theorem xor_cl (x y : UInt8) : x ^^^ (x ^^^ y) = y := by rw [← UInt8.xor_assoc]; simp
theorem mc_of (a b c d s : UInt8) (h : s = a ^^^ b ^^^ c ^^^ d) : s ^^^ a ^^^ dbl (a ^^^ b) = mc a b c d := by
  subst h
  simp only [mc, dbl_xor, UInt8.xor_assoc, UInt8.xor_comm, xor_lc, xor_cl]
def qd (x : UInt8) : UInt8 := dbl (dbl x)
theorem qd_xor (x y : UInt8) : qd (x ^^^ y) = qd x ^^^ qd y := by rw [qd, dbl_xor, dbl_xor]; rfl
theorem mc2 (a b c d : UInt8) : mc (mc a b c d) (mc b c d a) (mc c d a b) (mc d a b c) = qd a ^^^ (a ^^^ qd c) := by
  simp only [mc, qd, dbl_xor, UInt8.xor_assoc, UInt8.xor_comm, xor_lc, xor_cl, UInt8.xor_self]
theorem mc4 (a c : UInt8) : qd (qd a ^^^ (a ^^^ qd c)) ^^^ ((qd a ^^^ (a ^^^ qd c)) ^^^ qd (qd c ^^^ (c ^^^ qd a))) = a := by
  simp only [qd_xor, UInt8.xor_assoc, UInt8.xor_comm, xor_lc, xor_cl, UInt8.xor_self, UInt8.xor_zero]
theorem mix_lit0 (b0 b1 b2 b3 b4 b5 b6 b7 b8 b9 b10 b11 b12 b13 b14 b15 : UInt8) : mixL [b0, b1, b2, b3, b4, b5, b6, b7, b8, b9, b10, b11, b12, b13, b14, b15] 16 = [b0 ^^^ b1 ^^^ b2 ^^^ b3 ^^^ b0 ^^^ dbl (b0 ^^^ b1), b0 ^^^ b1 ^^^ b2 ^^^ b3 ^^^ b1 ^^^ dbl (b1 ^^^ b2), b0 ^^^ b1 ^^^ b2 ^^^ b3 ^^^ b2 ^^^ dbl (b2 ^^^ b3), b0 ^^^ b1 ^^^ b2 ^^^ b3 ^^^ b3 ^^^ dbl (b3 ^^^ b0), b4 ^^^ b5 ^^^ b6 ^^^ b7 ^^^ b4 ^^^ dbl (b4 ^^^ b5), b4 ^^^ b5 ^^^ b6 ^^^ b7 ^^^ b5 ^^^ dbl (b5 ^^^ b6), b4 ^^^ b5 ^^^ b6 ^^^ b7 ^^^ b6 ^^^ dbl (b6 ^^^ b7), b4 ^^^ b5 ^^^ b6 ^^^ b7 ^^^ b7 ^^^ dbl (b7 ^^^ b4), b8 ^^^ b9 ^^^ b10 ^^^ b11 ^^^ b8 ^^^ dbl (b8 ^^^ b9), b8 ^^^ b9 ^^^ b10 ^^^ b11 ^^^ b9 ^^^ dbl (b9 ^^^ b10), b8 ^^^ b9 ^^^ b10 ^^^ b11 ^^^ b10 ^^^ dbl (b10 ^^^ b11), b8 ^^^ b9 ^^^ b10 ^^^ b11 ^^^ b11 ^^^ dbl (b11 ^^^ b8), b12 ^^^ b13 ^^^ b14 ^^^ b15 ^^^ b12 ^^^ dbl (b12 ^^^ b13), b12 ^^^ b13 ^^^ b14 ^^^ b15 ^^^ b13 ^^^ dbl (b13 ^^^ b14), b12 ^^^ b13 ^^^ b14 ^^^ b15 ^^^ b14 ^^^ dbl (b14 ^^^ b15), b12 ^^^ b13 ^^^ b14 ^^^ b15 ^^^ b15 ^^^ dbl (b15 ^^^ b12)] := rfl
theorem mcA (a b c d : UInt8) : a ^^^ b ^^^ c ^^^ d ^^^ a ^^^ dbl (a ^^^ b) = mc a b c d := mc_of a b c d _ rfl
theorem mcB (a b c d : UInt8) : a ^^^ b ^^^ c ^^^ d ^^^ b ^^^ dbl (b ^^^ c) = mc b c d a := mc_of b c d a _ (by simp only [UInt8.xor_comm, xor_lc])
theorem mcC (a b c d : UInt8) : a ^^^ b ^^^ c ^^^ d ^^^ c ^^^ dbl (c ^^^ d) = mc c d a b := mc_of c d a b _ (by simp only [UInt8.xor_comm, xor_lc])
theorem mcD (a b c d : UInt8) : a ^^^ b ^^^ c ^^^ d ^^^ d ^^^ dbl (d ^^^ a) = mc d a b c := mc_of d a b c _ (by simp only [UInt8.xor_comm, xor_lc])
theorem mix_lit (b0 b1 b2 b3 b4 b5 b6 b7 b8 b9 b10 b11 b12 b13 b14 b15 : UInt8) : mixL [b0, b1, b2, b3, b4, b5, b6, b7, b8, b9, b10, b11, b12, b13, b14, b15] 16 = [mc b0 b1 b2 b3, mc b1 b2 b3 b0, mc b2 b3 b0 b1, mc b3 b0 b1 b2, mc b4 b5 b6 b7, mc b5 b6 b7 b4, mc b6 b7 b4 b5, mc b7 b4 b5 b6, mc b8 b9 b10 b11, mc b9 b10 b11 b8, mc b10 b11 b8 b9, mc b11 b8 b9 b10, mc b12 b13 b14 b15, mc b13 b14 b15 b12, mc b14 b15 b12 b13, mc b15 b12 b13 b14] := by
  rw [mix_lit0]
  simp only [mcA, mcB, mcC, mcD]
theorem mix4 {b : List UInt8} (hb : b.length = 16) : mixL (mixL (mixL (mixL b 16) 16) 16) 16 = b := by
  obtain ⟨b0, b1, b2, b3, b4, b5, b6, b7, b8, b9, b10, b11, b12, b13, b14, b15, rfl⟩ := lit16 hb
  rw [mix_lit, mix_lit]
  simp only [mc2]
  rw [mix_lit, mix_lit]
  simp only [mc2, mc4]

/-! ### whole blocks -/
theorem dec_enc_n (k b : List UInt8) (hk : k.length = 16) (hb : b.length = 16) : ∀ n, n ≤ 9 → dR k (encL k b) n = eR k b (9 - n)
  | 0, _ => by
    rw [dR, encL, add_add (rotL_length _ _ _) (by rw [rk_length, hk]), rot_back (by rw [subL_length, eR_length k b hb]), sub_back (eR_length k b hb 9)]
  | n + 1, h => by
    obtain ⟨m, rfl⟩ : ∃ m, n = 8 - m := ⟨8 - n, by omega⟩
    have hm : 9 - (8 - m) = (9 - (8 - m + 1)) + 1 := by omega
    rw [dR, dec_enc_n k b hk hb (8 - m) (by omega), hm, eR, add_add (mixL_length _ _) (by rw [rk_length, hk]), m3, mix4 (rotL_length _ _ _), rot_back (by rw [subL_length, eR_length k b hb]), sub_back (eR_length k b hb _)]
theorem dec_enc {k b : List UInt8} (hk : k.length = 16) (hb : b.length = 16) : decL k (encL k b) = b := by
  rw [decL, dec_enc_n k b hk hb 9 (by omega), show 9 - 9 = 0 from rfl, eR, add_add hb (by rw [rk_length, hk])]
theorem enc_dec_n (k b : List UInt8) (hk : k.length = 16) (hb : b.length = 16) : ∀ n, n ≤ 9 → eR k (decL k b) n = dR k b (9 - n)
  | 0, _ => by
    rw [eR, decL, add_add (dR_length _ _ _) (by rw [rk_length, hk])]
  | n + 1, h => by
    have h1 : 9 - n = (9 - (n + 1)) + 1 := by omega
    have h2 : 9 - (9 - (n + 1)) = n + 1 := by omega
    rw [eR, enc_dec_n k b hk hb n (by omega), h1, dR, sub_forth (by rw [rotL_length]), rot_forth (by rw [m3, mixL_length]), m3, mix4 (by rw [addL_length, dR_length]), h2, add_add (dR_length _ _ _) (by rw [rk_length, hk])]
theorem enc_dec {k b : List UInt8} (hk : k.length = 16) (hb : b.length = 16) : encL k (decL k b) = b := by
  rw [encL, enc_dec_n k b hk hb 9 (by omega), show 9 - 9 = 0 from rfl, dR, sub_forth (by rw [rotL_length]), rot_forth (by rw [addL_length, hb]), add_add hb (by rw [rk_length, hk])]

/-! ### published values -/
/-- the key of the standard's example -/
def keyX : List UInt8 := [0, 1, 2, 3, 4, 5, 6, 7, 8, 9, 10, 11, 12, 13, 14, 15]
def encZ : List UInt8 := [198, 161, 59, 55, 135, 143, 91, 130, 111, 79, 129, 98, 161, 200, 216, 121]
set_option maxRecDepth 100000 in
theorem enc_zero : encL keyX (List.replicate 16 0) = encZ := by decide +kernel
theorem dec_zero : decL keyX encZ = List.replicate 16 0 := by rw [← enc_zero]; exact dec_enc rfl rfl
set_option maxRecDepth 100000 in
theorem enc_std : encL keyX [0, 17, 34, 51, 68, 85, 102, 119, 136, 153, 170, 187, 204, 221, 238, 255] = [105, 196, 224, 216, 106, 123, 4, 48, 216, 205, 183, 128, 112, 180, 197, 90] := by decide +kernel
set_option maxRecDepth 100000 in
theorem rk_std : rk [43, 126, 21, 22, 40, 174, 210, 166, 171, 247, 21, 136, 9, 207, 79, 60] 10 = [208, 20, 249, 168, 201, 238, 37, 137, 225, 63, 12, 200, 182, 99, 12, 166] := by decide +kernel

end Go.Proofs.Ytipkaeeimohmpaa
