/-
  What is proved here: rows turned and bytes substituted in one pass, both ways (plain facts); the reference's Encrypt and Decrypt at keys or blocks that are not 16 bytes long.
-/
import Derived.Test.YtddobbigpoplpaaR7
namespace Go.Proofs.Ytddobbigpoplpaa
open Go.RowKit
set_option linter.unusedVariables false

/-- x[i] = t[b[(i + 4 (i % 4)) % 16]] -/
def ssL (t b : List UInt8) : Nat → List UInt8
  | 0 => List.replicate 16 0
  | i + 1 => (ssL t b i).set i (t.getD (b.getD ((i + 4 * (i % 4)) % 16) 0).toNat 0)
/-- x[(i + 4 (i % 4)) % 16] = t[b[i]] -/
def usL (t b : List UInt8) : Nat → List UInt8
  | 0 => List.replicate 16 0
  | i + 1 => (usL t b i).set ((i + 4 * (i % 4)) % 16) (t.getD (b.getD i 0).toNat 0)
theorem ssL_length (t b : List UInt8) : ∀ i, (ssL t b i).length = 16
  | 0 => by simp [ssL]
  | i + 1 => by simp [ssL, ssL_length t b i]
theorem usL_length (t b : List UInt8) : ∀ i, (usL t b i).length = 16
  | 0 => by simp [usL]
  | i + 1 => by simp [usL, usL_length t b i]
theorem ss_all (t : List UInt8) {b : List UInt8} (hb : b.length = 16) : ssL t b 16 = rotL (subL t b 16) 1 16 := by
  obtain ⟨b0, b1, b2, b3, b4, b5, b6, b7, b8, b9, b10, b11, b12, b13, b14, b15, rfl⟩ := lit16 hb
  rw [sub_lit, rot1_lit]
  rfl
theorem us_all (t : List UInt8) {b : List UInt8} (hb : b.length = 16) : usL t b 16 = subL t (rotL b 3 16) 16 := by
  obtain ⟨b0, b1, b2, b3, b4, b5, b6, b7, b8, b9, b10, b11, b12, b13, b14, b15, rfl⟩ := lit16 hb
  rw [rot3_lit, sub_lit]
  rfl
theorem ref_enc_bad (A1 A2 : Option Addr) (n1 n2 c1 c2 : Nat) (w : World) (h : n1 ≠ 16 ∨ n2 ≠ 16) (m1 : n1 ≤ 140737488351232) (m2 : n2 ≤ 140737488351232) :
    Calls Try.prog 23 #[.slice A1 n1 c1, .slice A2 n2 c2] w (Gives w [] 2) := by
  have H := Lib.hid (show Gives w [] 2 (.returned (.tuple #[.slice none 0 0, .int .i64 2])) w from ⟨none, 0, by simp, .inl rfl, Below.refl _ _⟩)
  by_cases h1 : n1 = 16
  · have h2 : n2 ≠ 16 := by omega
    subst h1
    clear h
    have d2 : ((n2 : Int) != 16) = true := by simp; omega
    have d3 : ((n2 : Int) == 16) = false := by simp; omega
    go_enter Try.func23, Try.ntmps23
    go_wp2
    go_ret2
    exact H.out
  · have d2 : ((n1 : Int) != 16) = true := by simp; omega
    have d3 : ((n1 : Int) == 16) = false := by simp; omega
    go_enter Try.func23, Try.ntmps23
    go_wp2
    go_ret2
    exact H.out
theorem ref_dec_bad (A1 A2 : Option Addr) (n1 n2 c1 c2 : Nat) (w : World) (h : n1 ≠ 16 ∨ n2 ≠ 16) (m1 : n1 ≤ 140737488351232) (m2 : n2 ≤ 140737488351232) :
    Calls Try.prog 26 #[.slice A1 n1 c1, .slice A2 n2 c2] w (Gives w [] 2) := by
  have H := Lib.hid (show Gives w [] 2 (.returned (.tuple #[.slice none 0 0, .int .i64 2])) w from ⟨none, 0, by simp, .inl rfl, Below.refl _ _⟩)
  by_cases h1 : n1 = 16
  · have h2 : n2 ≠ 16 := by omega
    subst h1
    clear h
    have d2 : ((n2 : Int) != 16) = true := by simp; omega
    have d3 : ((n2 : Int) == 16) = false := by simp; omega
    go_enter Try.func26, Try.ntmps26
    go_wp2
    go_ret2
    exact H.out
  · have d2 : ((n1 : Int) != 16) = true := by simp; omega
    have d3 : ((n1 : Int) == 16) = false := by simp; omega
    go_enter Try.func26, Try.ntmps26
    go_wp2
    go_ret2
    exact H.out

end Go.Proofs.Ytddobbigpoplpaa
