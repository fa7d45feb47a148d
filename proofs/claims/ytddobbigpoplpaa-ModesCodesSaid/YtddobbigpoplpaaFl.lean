/-
  What is proved here: the keys' bytes in a row, and how each is made of those before it. Nothing of the program is used.
-/
import Derived.Test.YtddobbigpoplpaaGm
import Derived.Test.YtddobbigpoplpaaNc
namespace Go.Proofs.Ytddobbigpoplpaa
set_option linter.unusedVariables false

theorem nk_lit (b0 b1 b2 b3 b4 b5 b6 b7 b8 b9 b10 b11 b12 b13 b14 b15 c : UInt8) : (nkL [b0, b1, b2, b3, b4, b5, b6, b7, b8, b9, b10, b11, b12, b13, b14, b15] c 16).2 = [sb.getD b13.toNat 0 ^^^ c ^^^ b0, sb.getD b14.toNat 0 ^^^ b1, sb.getD b15.toNat 0 ^^^ b2, sb.getD b12.toNat 0 ^^^ b3, (sb.getD b13.toNat 0 ^^^ c ^^^ b0) ^^^ b4, (sb.getD b14.toNat 0 ^^^ b1) ^^^ b5, (sb.getD b15.toNat 0 ^^^ b2) ^^^ b6, (sb.getD b12.toNat 0 ^^^ b3) ^^^ b7, ((sb.getD b13.toNat 0 ^^^ c ^^^ b0) ^^^ b4) ^^^ b8, ((sb.getD b14.toNat 0 ^^^ b1) ^^^ b5) ^^^ b9, ((sb.getD b15.toNat 0 ^^^ b2) ^^^ b6) ^^^ b10, ((sb.getD b12.toNat 0 ^^^ b3) ^^^ b7) ^^^ b11, (((sb.getD b13.toNat 0 ^^^ c ^^^ b0) ^^^ b4) ^^^ b8) ^^^ b12, (((sb.getD b14.toNat 0 ^^^ b1) ^^^ b5) ^^^ b9) ^^^ b13, (((sb.getD b15.toNat 0 ^^^ b2) ^^^ b6) ^^^ b10) ^^^ b14, (((sb.getD b12.toNat 0 ^^^ b3) ^^^ b7) ^^^ b11) ^^^ b15] := by
  have h0 : nkL [b0, b1, b2, b3, b4, b5, b6, b7, b8, b9, b10, b11, b12, b13, b14, b15] c 0 = ([sb.getD b13.toNat 0 ^^^ c, sb.getD b14.toNat 0, sb.getD b15.toNat 0, sb.getD b12.toNat 0], [b0, b1, b2, b3, b4, b5, b6, b7, b8, b9, b10, b11, b12, b13, b14, b15]) := rfl
  have h1 : nkL [b0, b1, b2, b3, b4, b5, b6, b7, b8, b9, b10, b11, b12, b13, b14, b15] c 1 = ([sb.getD b13.toNat 0 ^^^ c ^^^ b0, sb.getD b14.toNat 0, sb.getD b15.toNat 0, sb.getD b12.toNat 0], [sb.getD b13.toNat 0 ^^^ c ^^^ b0, b1, b2, b3, b4, b5, b6, b7, b8, b9, b10, b11, b12, b13, b14, b15]) := by rw [nkL, h0]; rfl
  have h2 : nkL [b0, b1, b2, b3, b4, b5, b6, b7, b8, b9, b10, b11, b12, b13, b14, b15] c 2 = ([sb.getD b13.toNat 0 ^^^ c ^^^ b0, sb.getD b14.toNat 0 ^^^ b1, sb.getD b15.toNat 0, sb.getD b12.toNat 0], [sb.getD b13.toNat 0 ^^^ c ^^^ b0, sb.getD b14.toNat 0 ^^^ b1, b2, b3, b4, b5, b6, b7, b8, b9, b10, b11, b12, b13, b14, b15]) := by rw [nkL, h1]; rfl
  have h3 : nkL [b0, b1, b2, b3, b4, b5, b6, b7, b8, b9, b10, b11, b12, b13, b14, b15] c 3 = ([sb.getD b13.toNat 0 ^^^ c ^^^ b0, sb.getD b14.toNat 0 ^^^ b1, sb.getD b15.toNat 0 ^^^ b2, sb.getD b12.toNat 0], [sb.getD b13.toNat 0 ^^^ c ^^^ b0, sb.getD b14.toNat 0 ^^^ b1, sb.getD b15.toNat 0 ^^^ b2, b3, b4, b5, b6, b7, b8, b9, b10, b11, b12, b13, b14, b15]) := by rw [nkL, h2]; rfl
  have h4 : nkL [b0, b1, b2, b3, b4, b5, b6, b7, b8, b9, b10, b11, b12, b13, b14, b15] c 4 = ([sb.getD b13.toNat 0 ^^^ c ^^^ b0, sb.getD b14.toNat 0 ^^^ b1, sb.getD b15.toNat 0 ^^^ b2, sb.getD b12.toNat 0 ^^^ b3], [sb.getD b13.toNat 0 ^^^ c ^^^ b0, sb.getD b14.toNat 0 ^^^ b1, sb.getD b15.toNat 0 ^^^ b2, sb.getD b12.toNat 0 ^^^ b3, b4, b5, b6, b7, b8, b9, b10, b11, b12, b13, b14, b15]) := by rw [nkL, h3]; rfl
  have h5 : nkL [b0, b1, b2, b3, b4, b5, b6, b7, b8, b9, b10, b11, b12, b13, b14, b15] c 5 = ([(sb.getD b13.toNat 0 ^^^ c ^^^ b0) ^^^ b4, sb.getD b14.toNat 0 ^^^ b1, sb.getD b15.toNat 0 ^^^ b2, sb.getD b12.toNat 0 ^^^ b3], [sb.getD b13.toNat 0 ^^^ c ^^^ b0, sb.getD b14.toNat 0 ^^^ b1, sb.getD b15.toNat 0 ^^^ b2, sb.getD b12.toNat 0 ^^^ b3, (sb.getD b13.toNat 0 ^^^ c ^^^ b0) ^^^ b4, b5, b6, b7, b8, b9, b10, b11, b12, b13, b14, b15]) := by rw [nkL, h4]; rfl
  have h6 : nkL [b0, b1, b2, b3, b4, b5, b6, b7, b8, b9, b10, b11, b12, b13, b14, b15] c 6 = ([(sb.getD b13.toNat 0 ^^^ c ^^^ b0) ^^^ b4, (sb.getD b14.toNat 0 ^^^ b1) ^^^ b5, sb.getD b15.toNat 0 ^^^ b2, sb.getD b12.toNat 0 ^^^ b3], [sb.getD b13.toNat 0 ^^^ c ^^^ b0, sb.getD b14.toNat 0 ^^^ b1, sb.getD b15.toNat 0 ^^^ b2, sb.getD b12.toNat 0 ^^^ b3, (sb.getD b13.toNat 0 ^^^ c ^^^ b0) ^^^ b4, (sb.getD b14.toNat 0 ^^^ b1) ^^^ b5, b6, b7, b8, b9, b10, b11, b12, b13, b14, b15]) := by rw [nkL, h5]; rfl
  have h7 : nkL [b0, b1, b2, b3, b4, b5, b6, b7, b8, b9, b10, b11, b12, b13, b14, b15] c 7 = ([(sb.getD b13.toNat 0 ^^^ c ^^^ b0) ^^^ b4, (sb.getD b14.toNat 0 ^^^ b1) ^^^ b5, (sb.getD b15.toNat 0 ^^^ b2) ^^^ b6, sb.getD b12.toNat 0 ^^^ b3], [sb.getD b13.toNat 0 ^^^ c ^^^ b0, sb.getD b14.toNat 0 ^^^ b1, sb.getD b15.toNat 0 ^^^ b2, sb.getD b12.toNat 0 ^^^ b3, (sb.getD b13.toNat 0 ^^^ c ^^^ b0) ^^^ b4, (sb.getD b14.toNat 0 ^^^ b1) ^^^ b5, (sb.getD b15.toNat 0 ^^^ b2) ^^^ b6, b7, b8, b9, b10, b11, b12, b13, b14, b15]) := by rw [nkL, h6]; rfl
  have h8 : nkL [b0, b1, b2, b3, b4, b5, b6, b7, b8, b9, b10, b11, b12, b13, b14, b15] c 8 = ([(sb.getD b13.toNat 0 ^^^ c ^^^ b0) ^^^ b4, (sb.getD b14.toNat 0 ^^^ b1) ^^^ b5, (sb.getD b15.toNat 0 ^^^ b2) ^^^ b6, (sb.getD b12.toNat 0 ^^^ b3) ^^^ b7], [sb.getD b13.toNat 0 ^^^ c ^^^ b0, sb.getD b14.toNat 0 ^^^ b1, sb.getD b15.toNat 0 ^^^ b2, sb.getD b12.toNat 0 ^^^ b3, (sb.getD b13.toNat 0 ^^^ c ^^^ b0) ^^^ b4, (sb.getD b14.toNat 0 ^^^ b1) ^^^ b5, (sb.getD b15.toNat 0 ^^^ b2) ^^^ b6, (sb.getD b12.toNat 0 ^^^ b3) ^^^ b7, b8, b9, b10, b11, b12, b13, b14, b15]) := by rw [nkL, h7]; rfl
  have h9 : nkL [b0, b1, b2, b3, b4, b5, b6, b7, b8, b9, b10, b11, b12, b13, b14, b15] c 9 = ([((sb.getD b13.toNat 0 ^^^ c ^^^ b0) ^^^ b4) ^^^ b8, (sb.getD b14.toNat 0 ^^^ b1) ^^^ b5, (sb.getD b15.toNat 0 ^^^ b2) ^^^ b6, (sb.getD b12.toNat 0 ^^^ b3) ^^^ b7], [sb.getD b13.toNat 0 ^^^ c ^^^ b0, sb.getD b14.toNat 0 ^^^ b1, sb.getD b15.toNat 0 ^^^ b2, sb.getD b12.toNat 0 ^^^ b3, (sb.getD b13.toNat 0 ^^^ c ^^^ b0) ^^^ b4, (sb.getD b14.toNat 0 ^^^ b1) ^^^ b5, (sb.getD b15.toNat 0 ^^^ b2) ^^^ b6, (sb.getD b12.toNat 0 ^^^ b3) ^^^ b7, ((sb.getD b13.toNat 0 ^^^ c ^^^ b0) ^^^ b4) ^^^ b8, b9, b10, b11, b12, b13, b14, b15]) := by rw [nkL, h8]; rfl
  have h10 : nkL [b0, b1, b2, b3, b4, b5, b6, b7, b8, b9, b10, b11, b12, b13, b14, b15] c 10 = ([((sb.getD b13.toNat 0 ^^^ c ^^^ b0) ^^^ b4) ^^^ b8, ((sb.getD b14.toNat 0 ^^^ b1) ^^^ b5) ^^^ b9, (sb.getD b15.toNat 0 ^^^ b2) ^^^ b6, (sb.getD b12.toNat 0 ^^^ b3) ^^^ b7], [sb.getD b13.toNat 0 ^^^ c ^^^ b0, sb.getD b14.toNat 0 ^^^ b1, sb.getD b15.toNat 0 ^^^ b2, sb.getD b12.toNat 0 ^^^ b3, (sb.getD b13.toNat 0 ^^^ c ^^^ b0) ^^^ b4, (sb.getD b14.toNat 0 ^^^ b1) ^^^ b5, (sb.getD b15.toNat 0 ^^^ b2) ^^^ b6, (sb.getD b12.toNat 0 ^^^ b3) ^^^ b7, ((sb.getD b13.toNat 0 ^^^ c ^^^ b0) ^^^ b4) ^^^ b8, ((sb.getD b14.toNat 0 ^^^ b1) ^^^ b5) ^^^ b9, b10, b11, b12, b13, b14, b15]) := by rw [nkL, h9]; rfl
  have h11 : nkL [b0, b1, b2, b3, b4, b5, b6, b7, b8, b9, b10, b11, b12, b13, b14, b15] c 11 = ([((sb.getD b13.toNat 0 ^^^ c ^^^ b0) ^^^ b4) ^^^ b8, ((sb.getD b14.toNat 0 ^^^ b1) ^^^ b5) ^^^ b9, ((sb.getD b15.toNat 0 ^^^ b2) ^^^ b6) ^^^ b10, (sb.getD b12.toNat 0 ^^^ b3) ^^^ b7], [sb.getD b13.toNat 0 ^^^ c ^^^ b0, sb.getD b14.toNat 0 ^^^ b1, sb.getD b15.toNat 0 ^^^ b2, sb.getD b12.toNat 0 ^^^ b3, (sb.getD b13.toNat 0 ^^^ c ^^^ b0) ^^^ b4, (sb.getD b14.toNat 0 ^^^ b1) ^^^ b5, (sb.getD b15.toNat 0 ^^^ b2) ^^^ b6, (sb.getD b12.toNat 0 ^^^ b3) ^^^ b7, ((sb.getD b13.toNat 0 ^^^ c ^^^ b0) ^^^ b4) ^^^ b8, ((sb.getD b14.toNat 0 ^^^ b1) ^^^ b5) ^^^ b9, ((sb.getD b15.toNat 0 ^^^ b2) ^^^ b6) ^^^ b10, b11, b12, b13, b14, b15]) := by rw [nkL, h10]; rfl
  have h12 : nkL [b0, b1, b2, b3, b4, b5, b6, b7, b8, b9, b10, b11, b12, b13, b14, b15] c 12 = ([((sb.getD b13.toNat 0 ^^^ c ^^^ b0) ^^^ b4) ^^^ b8, ((sb.getD b14.toNat 0 ^^^ b1) ^^^ b5) ^^^ b9, ((sb.getD b15.toNat 0 ^^^ b2) ^^^ b6) ^^^ b10, ((sb.getD b12.toNat 0 ^^^ b3) ^^^ b7) ^^^ b11], [sb.getD b13.toNat 0 ^^^ c ^^^ b0, sb.getD b14.toNat 0 ^^^ b1, sb.getD b15.toNat 0 ^^^ b2, sb.getD b12.toNat 0 ^^^ b3, (sb.getD b13.toNat 0 ^^^ c ^^^ b0) ^^^ b4, (sb.getD b14.toNat 0 ^^^ b1) ^^^ b5, (sb.getD b15.toNat 0 ^^^ b2) ^^^ b6, (sb.getD b12.toNat 0 ^^^ b3) ^^^ b7, ((sb.getD b13.toNat 0 ^^^ c ^^^ b0) ^^^ b4) ^^^ b8, ((sb.getD b14.toNat 0 ^^^ b1) ^^^ b5) ^^^ b9, ((sb.getD b15.toNat 0 ^^^ b2) ^^^ b6) ^^^ b10, ((sb.getD b12.toNat 0 ^^^ b3) ^^^ b7) ^^^ b11, b12, b13, b14, b15]) := by rw [nkL, h11]; rfl
  have h13 : nkL [b0, b1, b2, b3, b4, b5, b6, b7, b8, b9, b10, b11, b12, b13, b14, b15] c 13 = ([(((sb.getD b13.toNat 0 ^^^ c ^^^ b0) ^^^ b4) ^^^ b8) ^^^ b12, ((sb.getD b14.toNat 0 ^^^ b1) ^^^ b5) ^^^ b9, ((sb.getD b15.toNat 0 ^^^ b2) ^^^ b6) ^^^ b10, ((sb.getD b12.toNat 0 ^^^ b3) ^^^ b7) ^^^ b11], [sb.getD b13.toNat 0 ^^^ c ^^^ b0, sb.getD b14.toNat 0 ^^^ b1, sb.getD b15.toNat 0 ^^^ b2, sb.getD b12.toNat 0 ^^^ b3, (sb.getD b13.toNat 0 ^^^ c ^^^ b0) ^^^ b4, (sb.getD b14.toNat 0 ^^^ b1) ^^^ b5, (sb.getD b15.toNat 0 ^^^ b2) ^^^ b6, (sb.getD b12.toNat 0 ^^^ b3) ^^^ b7, ((sb.getD b13.toNat 0 ^^^ c ^^^ b0) ^^^ b4) ^^^ b8, ((sb.getD b14.toNat 0 ^^^ b1) ^^^ b5) ^^^ b9, ((sb.getD b15.toNat 0 ^^^ b2) ^^^ b6) ^^^ b10, ((sb.getD b12.toNat 0 ^^^ b3) ^^^ b7) ^^^ b11, (((sb.getD b13.toNat 0 ^^^ c ^^^ b0) ^^^ b4) ^^^ b8) ^^^ b12, b13, b14, b15]) := by rw [nkL, h12]; rfl
  have h14 : nkL [b0, b1, b2, b3, b4, b5, b6, b7, b8, b9, b10, b11, b12, b13, b14, b15] c 14 = ([(((sb.getD b13.toNat 0 ^^^ c ^^^ b0) ^^^ b4) ^^^ b8) ^^^ b12, (((sb.getD b14.toNat 0 ^^^ b1) ^^^ b5) ^^^ b9) ^^^ b13, ((sb.getD b15.toNat 0 ^^^ b2) ^^^ b6) ^^^ b10, ((sb.getD b12.toNat 0 ^^^ b3) ^^^ b7) ^^^ b11], [sb.getD b13.toNat 0 ^^^ c ^^^ b0, sb.getD b14.toNat 0 ^^^ b1, sb.getD b15.toNat 0 ^^^ b2, sb.getD b12.toNat 0 ^^^ b3, (sb.getD b13.toNat 0 ^^^ c ^^^ b0) ^^^ b4, (sb.getD b14.toNat 0 ^^^ b1) ^^^ b5, (sb.getD b15.toNat 0 ^^^ b2) ^^^ b6, (sb.getD b12.toNat 0 ^^^ b3) ^^^ b7, ((sb.getD b13.toNat 0 ^^^ c ^^^ b0) ^^^ b4) ^^^ b8, ((sb.getD b14.toNat 0 ^^^ b1) ^^^ b5) ^^^ b9, ((sb.getD b15.toNat 0 ^^^ b2) ^^^ b6) ^^^ b10, ((sb.getD b12.toNat 0 ^^^ b3) ^^^ b7) ^^^ b11, (((sb.getD b13.toNat 0 ^^^ c ^^^ b0) ^^^ b4) ^^^ b8) ^^^ b12, (((sb.getD b14.toNat 0 ^^^ b1) ^^^ b5) ^^^ b9) ^^^ b13, b14, b15]) := by rw [nkL, h13]; rfl
  have h15 : nkL [b0, b1, b2, b3, b4, b5, b6, b7, b8, b9, b10, b11, b12, b13, b14, b15] c 15 = ([(((sb.getD b13.toNat 0 ^^^ c ^^^ b0) ^^^ b4) ^^^ b8) ^^^ b12, (((sb.getD b14.toNat 0 ^^^ b1) ^^^ b5) ^^^ b9) ^^^ b13, (((sb.getD b15.toNat 0 ^^^ b2) ^^^ b6) ^^^ b10) ^^^ b14, ((sb.getD b12.toNat 0 ^^^ b3) ^^^ b7) ^^^ b11], [sb.getD b13.toNat 0 ^^^ c ^^^ b0, sb.getD b14.toNat 0 ^^^ b1, sb.getD b15.toNat 0 ^^^ b2, sb.getD b12.toNat 0 ^^^ b3, (sb.getD b13.toNat 0 ^^^ c ^^^ b0) ^^^ b4, (sb.getD b14.toNat 0 ^^^ b1) ^^^ b5, (sb.getD b15.toNat 0 ^^^ b2) ^^^ b6, (sb.getD b12.toNat 0 ^^^ b3) ^^^ b7, ((sb.getD b13.toNat 0 ^^^ c ^^^ b0) ^^^ b4) ^^^ b8, ((sb.getD b14.toNat 0 ^^^ b1) ^^^ b5) ^^^ b9, ((sb.getD b15.toNat 0 ^^^ b2) ^^^ b6) ^^^ b10, ((sb.getD b12.toNat 0 ^^^ b3) ^^^ b7) ^^^ b11, (((sb.getD b13.toNat 0 ^^^ c ^^^ b0) ^^^ b4) ^^^ b8) ^^^ b12, (((sb.getD b14.toNat 0 ^^^ b1) ^^^ b5) ^^^ b9) ^^^ b13, (((sb.getD b15.toNat 0 ^^^ b2) ^^^ b6) ^^^ b10) ^^^ b14, b15]) := by rw [nkL, h14]; rfl
  have h16 : nkL [b0, b1, b2, b3, b4, b5, b6, b7, b8, b9, b10, b11, b12, b13, b14, b15] c 16 = ([(((sb.getD b13.toNat 0 ^^^ c ^^^ b0) ^^^ b4) ^^^ b8) ^^^ b12, (((sb.getD b14.toNat 0 ^^^ b1) ^^^ b5) ^^^ b9) ^^^ b13, (((sb.getD b15.toNat 0 ^^^ b2) ^^^ b6) ^^^ b10) ^^^ b14, (((sb.getD b12.toNat 0 ^^^ b3) ^^^ b7) ^^^ b11) ^^^ b15], [sb.getD b13.toNat 0 ^^^ c ^^^ b0, sb.getD b14.toNat 0 ^^^ b1, sb.getD b15.toNat 0 ^^^ b2, sb.getD b12.toNat 0 ^^^ b3, (sb.getD b13.toNat 0 ^^^ c ^^^ b0) ^^^ b4, (sb.getD b14.toNat 0 ^^^ b1) ^^^ b5, (sb.getD b15.toNat 0 ^^^ b2) ^^^ b6, (sb.getD b12.toNat 0 ^^^ b3) ^^^ b7, ((sb.getD b13.toNat 0 ^^^ c ^^^ b0) ^^^ b4) ^^^ b8, ((sb.getD b14.toNat 0 ^^^ b1) ^^^ b5) ^^^ b9, ((sb.getD b15.toNat 0 ^^^ b2) ^^^ b6) ^^^ b10, ((sb.getD b12.toNat 0 ^^^ b3) ^^^ b7) ^^^ b11, (((sb.getD b13.toNat 0 ^^^ c ^^^ b0) ^^^ b4) ^^^ b8) ^^^ b12, (((sb.getD b14.toNat 0 ^^^ b1) ^^^ b5) ^^^ b9) ^^^ b13, (((sb.getD b15.toNat 0 ^^^ b2) ^^^ b6) ^^^ b10) ^^^ b14, (((sb.getD b12.toNat 0 ^^^ b3) ^^^ b7) ^^^ b11) ^^^ b15]) := by rw [nkL, h15]; rfl
  rw [h16]
theorem rk_hi (k : List UInt8) (hk : k.length = 16) (n r : Nat) (h4 : 4 ≤ r) (h16 : r < 16) : (rk k (n + 1)).getD r 0 = (rk k (n + 1)).getD (r - 4) 0 ^^^ (rk k n).getD r 0 := by
  obtain ⟨b0, b1, b2, b3, b4, b5, b6, b7, b8, b9, b10, b11, b12, b13, b14, b15, e⟩ := lit16 (show (rk k n).length = 16 by rw [rk_length, hk])
  rw [rk, e, nk_lit]
  rcases (by omega : r = 4 ∨ r = 5 ∨ r = 6 ∨ r = 7 ∨ r = 8 ∨ r = 9 ∨ r = 10 ∨ r = 11 ∨ r = 12 ∨ r = 13 ∨ r = 14 ∨ r = 15) with rfl | rfl | rfl | rfl | rfl | rfl | rfl | rfl | rfl | rfl | rfl | rfl <;> rfl
theorem rk_lo (k : List UInt8) (hk : k.length = 16) (n r : Nat) (h4 : r < 4) : (rk k (n + 1)).getD r 0 = (sb.getD ((rk k n).getD (12 + (r + 1) % 4) 0).toNat 0 ^^^ (if r = 0 then rc n else 0)) ^^^ (rk k n).getD r 0 := by
  obtain ⟨b0, b1, b2, b3, b4, b5, b6, b7, b8, b9, b10, b11, b12, b13, b14, b15, e⟩ := lit16 (show (rk k n).length = 16 by rw [rk_length, hk])
  rw [rk, e, nk_lit]
  rcases (by omega : r = 0 ∨ r = 1 ∨ r = 2 ∨ r = 3) with rfl | rfl | rfl | rfl
  · rfl
  · show _ = (_ ^^^ 0) ^^^ _
    rw [UInt8.xor_zero]
    rfl
  · show _ = (_ ^^^ 0) ^^^ _
    rw [UInt8.xor_zero]
    rfl
  · show _ = (_ ^^^ 0) ^^^ _
    rw [UInt8.xor_zero]
    rfl
/-- byte j of all keys in a row -/
def fl (k : List UInt8) (j : Nat) : UInt8 := (rk k (j / 16)).getD (j % 16) 0
theorem fl_at (k : List UInt8) (n r : Nat) (hr : r < 16) : fl k (16 * n + r) = (rk k n).getD r 0 := by
  rw [fl, show (16 * n + r) / 16 = n by omega, show (16 * n + r) % 16 = r by omega]
def flL (k : List UInt8) (n : Nat) : List UInt8 := (List.range n).map (fl k)
theorem flL_length (k : List UInt8) (n : Nat) : (flL k n).length = n := by rw [flL, List.length_map, List.length_range]
theorem flL_get (k : List UInt8) (n j : Nat) (h : j < n) : (flL k n).getD j 0 = fl k j := by
  rw [flL, List.getD, List.getElem?_map, List.getElem?_range h]
  rfl
theorem flL_succ (k : List UInt8) (n : Nat) : flL k (n + 1) = flL k n ++ [fl k n] := by
  rw [flL, List.range_succ, List.map_append]
  rfl
theorem flL_16 (k : List UInt8) (hk : k.length = 16) : flL k 16 = k := by
  obtain ⟨b0, b1, b2, b3, b4, b5, b6, b7, b8, b9, b10, b11, b12, b13, b14, b15, rfl⟩ := lit16 hk
  rfl
theorem flL_key (k : List UInt8) (hk : k.length = 16) (n m : Nat) (h : 16 * n + 16 ≤ m) : ((flL k m).drop (16 * n)).take 16 = rk k n := by
  have hr : (rk k n).length = 16 := by rw [rk_length, hk]
  apply List.ext_getElem?
  intro i
  rcases Nat.lt_or_ge i 16 with hi | hi
  · rw [List.getElem?_take, if_pos hi, List.getElem?_drop, flL, List.getElem?_map, List.getElem?_range (by omega), List.getElem?_eq_getElem (by omega)]
    show some (fl k (16 * n + i)) = _
    rw [fl_at k n i hi, List.getD, List.getElem?_eq_getElem (by omega)]
    rfl
  · rw [List.getElem?_take, if_neg (by omega), List.getElem?_eq_none (by omega)]
/-- the word that is combined into the word i = j + 4 -/
def xL (k : List UInt8) (j : Nat) : List UInt8 :=
  if j % 4 = 0 then [sb.getD (fl k (4 * j + 13)).toNat 0 ^^^ rc (j / 4), sb.getD (fl k (4 * j + 14)).toNat 0, sb.getD (fl k (4 * j + 15)).toNat 0, sb.getD (fl k (4 * j + 12)).toNat 0]
  else [fl k (4 * j + 12), fl k (4 * j + 13), fl k (4 * j + 14), fl k (4 * j + 15)]
theorem xL_length (k : List UInt8) (j : Nat) : (xL k j).length = 4 := by unfold xL; split <;> rfl
theorem quad0 (a b c d : UInt8) : [a, b, c, d].getD 0 0 = a := rfl
theorem quad1 (a b c d : UInt8) : [a, b, c, d].getD 1 0 = b := rfl
theorem quad2 (a b c d : UInt8) : [a, b, c, d].getD 2 0 = c := rfl
theorem quad3 (a b c d : UInt8) : [a, b, c, d].getD 3 0 = d := rfl
theorem fl_word (k : List UInt8) (hk : k.length = 16) (j q : Nat) (hq : q < 4) : fl k (4 * j + 16 + q) = fl k (4 * j + q) ^^^ (xL k j).getD q 0 := by
  obtain ⟨n, t, ht, rfl⟩ : ∃ n t, t < 4 ∧ j = 4 * n + t := ⟨j / 4, j % 4, by omega, by omega⟩
  have e1 : 4 * (4 * n + t) + 16 + q = 16 * (n + 1) + (4 * t + q) := by omega
  have e2 : 4 * (4 * n + t) + q = 16 * n + (4 * t + q) := by omega
  rw [e1, e2, fl_at k (n + 1) _ (by omega), fl_at k n _ (by omega)]
  unfold xL
  by_cases h0 : t = 0
  · subst h0
    rw [if_pos (by omega), show (4 * n + 0) / 4 = n by omega, rk_lo k hk n _ (by omega), UInt8.xor_comm]
    have g : ∀ m, m < 4 → fl k (4 * (4 * n + 0) + (12 + m)) = (rk k n).getD (12 + m) 0 := fun m hm => by
      rw [show 4 * (4 * n + 0) + (12 + m) = 16 * n + (12 + m) by omega, fl_at k n _ (by omega)]
    have g0 := g 0 (by decide)
    have g1 := g 1 (by decide)
    have g2 := g 2 (by decide)
    have g3 := g 3 (by decide)
    rw [show 4 * (4 * n + 0) + 12 = 4 * (4 * n + 0) + (12 + 0) from rfl, g0, show 4 * (4 * n + 0) + 13 = 4 * (4 * n + 0) + (12 + 1) from rfl, g1, show 4 * (4 * n + 0) + 14 = 4 * (4 * n + 0) + (12 + 2) from rfl, g2, show 4 * (4 * n + 0) + 15 = 4 * (4 * n + 0) + (12 + 3) from rfl, g3]
    rcases (by omega : q = 0 ∨ q = 1 ∨ q = 2 ∨ q = 3) with rfl | rfl | rfl | rfl
    · rfl
    · congr 1
      show _ ^^^ 0 = _
      rw [UInt8.xor_zero]
      rfl
    · congr 1
      show _ ^^^ 0 = _
      rw [UInt8.xor_zero]
      rfl
    · congr 1
      show _ ^^^ 0 = _
      rw [UInt8.xor_zero]
      rfl
  · rw [if_neg (by omega), rk_hi k hk n _ (by omega) (by omega), UInt8.xor_comm]
    have g : ∀ m, 4 * (4 * n + t) + 12 + q = m → fl k m = (rk k (n + 1)).getD (4 * t + q - 4) 0 := fun m hm => by
      rw [show m = 16 * (n + 1) + (4 * t + q - 4) by omega, fl_at k (n + 1) _ (by omega)]
    have hc : ∀ y z : UInt8, y = z → ∀ x : UInt8, x ^^^ y = x ^^^ z := fun y z h x => by rw [h]
    apply hc
    rcases (by omega : q = 0 ∨ q = 1 ∨ q = 2 ∨ q = 3) with h | h | h | h
    · rw [← g (4 * (4 * n + t) + 12) (by omega), h, quad0]
    · rw [← g (4 * (4 * n + t) + 13) (by omega), h, quad1]
    · rw [← g (4 * (4 * n + t) + 14) (by omega), h, quad2]
    · rw [← g (4 * (4 * n + t) + 15) (by omega), h, quad3]
theorem gm_two_n : ∀ n : Fin 256, gm (UInt8.ofNat n.val) 2 = dbl (UInt8.ofNat n.val) := by decide +kernel
theorem gm_two (x : UInt8) : gm x 2 = dbl x := by
  have h := gm_two_n ⟨x.toNat, x.toNat_lt⟩
  simpa using h

end Go.Proofs.Ytddobbigpoplpaa
