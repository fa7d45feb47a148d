/-
  What is proved here: the bytes of a literal lie in memory; nothing of the program is used.
-/
import Derived.Test.YtaikoeoabgkglaaDoorFo
namespace Go.Proofs.YtaikoeoabgkglaaDoor
open Go.RowKit

theorem sees_lit (w : World) (l : List UInt8) (t : TypeId) (fr : Nat × Nat) : SeesP (w.alloc (.cells (Us l).toArray t fr)) (· < (w.alloc (.cells (Us l).toArray t fr)).heap.size) (some ⟨w.heap.size, 0, none⟩) (Us l) := by
  refine .inr ⟨w.heap.size, 0, rfl, by simp, fun j hj => ?_⟩
  rw [Nat.zero_add, cell_of_row _ _ j _ t fr (heap_alloc_new w _)]
  simp

end Go.Proofs.YtaikoeoabgkglaaDoor
