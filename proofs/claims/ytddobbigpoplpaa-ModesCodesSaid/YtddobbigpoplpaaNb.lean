/-
  What is proved here: the product of two bytes as a plain function, and the integers' exclusive or, halves and bits on bytes. Nothing of the program is used.
-/
import Derived.Test.YtddobbigpoplpaaBt
import Derived.Test.YtddobbigpoplpaaGf
namespace Go.Proofs.Ytddobbigpoplpaa
open Go.RowKit
set_option linter.unusedVariables false

/-- a doubled i times, and the product with the lowest i bits of b -/
def aN (a : UInt8) : Nat → UInt8
  | 0 => a
  | i + 1 => dbl (aN a i)
def gmP (a b : UInt8) : Nat → UInt8
  | 0 => 0
  | i + 1 => if b.toNat / 2 ^ i % 2 = 1 then gmP a b i ^^^ aN a i else gmP a b i
/-- the product of two bytes -/
def gm (a b : UInt8) : UInt8 := gmP a b 8
theorem xor_n : ∀ m n : Fin 256, bits .xor .i64 (m.val : Int) (n.val : Int) = ((UInt8.ofNat m.val ^^^ UInt8.ofNat n.val).toNat : Int) := by decide +kernel
theorem i_xor (x y : UInt8) : bits .xor .i64 (x.toNat : Int) (y.toNat : Int) = ((x ^^^ y).toNat : Int) := by
  have h := xor_n ⟨x.toNat, x.toNat_lt⟩ ⟨y.toNat, y.toNat_lt⟩
  simpa using h
theorem hi_n : ∀ n : Fin 256, ¬ n.val < 128 → bits .xor .i64 ((n.val : Int) * 2) 283 = ((dbl (UInt8.ofNat n.val)).toNat : Int) := by decide +kernel
theorem lo_n : ∀ n : Fin 256, n.val < 128 → ((n.val : Int) * 2) = ((dbl (UInt8.ofNat n.val)).toNat : Int) := by decide +kernel
theorem dbl_hi' (x : UInt8) (h : ¬ x.toNat < 128) : bits .xor .i64 ((x.toNat : Int) * 2) 283 = ((dbl x).toNat : Int) := by
  have h2 := hi_n ⟨x.toNat, x.toNat_lt⟩ h
  simpa using h2
theorem dbl_lo' (x : UInt8) (h : x.toNat < 128) : ((x.toNat : Int) * 2) = ((dbl x).toNat : Int) := by
  have h2 := lo_n ⟨x.toNat, x.toNat_lt⟩ h
  simpa using h2
theorem and1_n : ∀ n : Fin 256, bits .and .i64 (n.val : Int) 1 = ((n.val % 2 : Nat) : Int) := by decide +kernel
theorem bit_val (b : UInt8) (k : Nat) (hk : k < 8) : bits .and .i64 ((b.toNat : Int) / 2 ^ k) 1 = ((b.toNat / 2 ^ k % 2 : Nat) : Int) := by
  have hb := b.toNat_lt
  have h := and1_n ⟨b.toNat / 2 ^ k, Nat.lt_of_le_of_lt (Nat.div_le_self _ _) hb⟩
  have e : ((b.toNat : Int) / 2 ^ k) = ((b.toNat / 2 ^ k : Nat) : Int) := by norm_cast
  rw [e]
  exact h

end Go.Proofs.Ytddobbigpoplpaa
