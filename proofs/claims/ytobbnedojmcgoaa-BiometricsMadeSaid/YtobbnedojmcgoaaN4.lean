/-
  What is proved here: the number of four bytes: plain facts, and what octets.Number and the reference's Number answer for four bytes that lie in memory.
-/
import Derived.Test.YtobbnedojmcgoaaOc
import Derived.Test.YtobbnedojmcgoaaNum
namespace Go.Proofs.Ytobbnedojmcgoaa
open Go.RowKit

theorem numL4 {x : List UInt8} (h : x.length = 4) : numL x < 4294967296 := by
  have := numL_lt x 4 (by omega)
  rwa [List.take_of_length_le (by omega)] at this
theorem octL4 (n : Nat) : octL n 4 = [UInt8.ofNat (n / 16777216), UInt8.ofNat (n / 65536), UInt8.ofNat (n / 256), UInt8.ofNat n] := by
  have e : List.range 4 = [0, 1, 2, 3] := rfl
  simp [octL, e, octAt]
theorem numL_oct4 {n : Nat} (h : n < 4294967296) : numL (octL n 4) = n := by
  rw [octL4]
  simp only [numL, List.foldl_cons, List.foldl_nil, UInt8.toNat_ofNat']
  omega
theorem num4 (x : List UInt8) (A : Option Addr) (n c : Nat) (w : World) (h : Sees w w.heap.size A (Us x)) (hn : x.length = n) (h4 : n = 4) :
    Calls Try.prog 53 #[.slice A n c] w fun e w' => e = .returned (.tuple #[.int .i64 ((numL x : Nat) : Int), .int .i64 0]) ∧ w = w' :=
  (oct_num A c n x w _ h hn.symm (by rw [h4]; decide)).mono fun _ _ ⟨he, hw⟩ => ⟨by
    unfold NumEnd numV numE at he
    rwa [if_pos (by omega), if_pos (by omega)] at he, hw.symm⟩
theorem rnum4 (x : List UInt8) (A : Option Addr) (n c : Nat) (w : World) (h : Sees w w.heap.size A (Us x)) (hn : x.length = n) (h4 : n = 4) :
    Calls Try.prog 38 #[.slice A n c] w fun e w' => e = .returned (.tuple #[.int .i64 ((numL x : Nat) : Int), .int .i64 0]) ∧ w = w' :=
  (ref_num A c n x w _ h hn.symm (by rw [h4]; decide)).mono fun _ _ ⟨he, hw⟩ => ⟨by
    unfold NumEnd numV numE at he
    rwa [if_pos (by omega), if_pos (by omega)] at he, hw.symm⟩

end Go.Proofs.Ytobbnedojmcgoaa
