/-
  What is proved here: what the reference's Same returns, for two slices of bytes that lie in memory.
-/
import Derived.Test.YtobbnedojmcgoaaRows
import Derived.Test.YtobbnedojmcgoaaKit
import Derived.Test.YtobbnedojmcgoaaRef
namespace Go.Proofs.Ytobbnedojmcgoaa
open Go.RowKit

theorem ref_same_b (A1 A2 : Option Addr) (c1 c2 : Nat) (x y : List UInt8) (w : World) (h1 : Sees w w.heap.size A1 (Us x)) (h2 : Sees w w.heap.size A2 (Us y)) (m1 : x.length ≤ maxLen) :
    Calls Try.prog 39 #[.slice A1 x.length c1, .slice A2 y.length c2] w fun e w' => e = .returned (.bool (sameB x y)) ∧ Below w.heap.size w w' :=
  (ref_same A1 A2 c1 c2 _ _ x y w _ h1 h2 rfl rfl m1).mono fun _ _ ⟨he, d, hw⟩ => ⟨he, by rw [hw]; exact below_drewN _ _ _⟩
theorem ref_same_yes (A1 A2 : Option Addr) (c1 c2 : Nat) (x : List UInt8) (w : World) (h1 : Sees w w.heap.size A1 (Us x)) (h2 : Sees w w.heap.size A2 (Us x)) (m1 : x.length ≤ maxLen) :
    Calls Try.prog 39 #[.slice A1 x.length c1, .slice A2 x.length c2] w fun e w' => e = .returned (.bool true) ∧ Below w.heap.size w w' := by
  have h := ref_same_b A1 A2 c1 c2 x x w h1 h2 m1
  rw [sameB_true rfl] at h
  exact h

end Go.Proofs.Ytobbnedojmcgoaa
