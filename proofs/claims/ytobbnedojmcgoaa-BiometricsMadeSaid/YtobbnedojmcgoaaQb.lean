/-
  What is proved here: plain words for regions that draw their order and whose callees lay blocks of their own (the library's class of worlds, in the words of Below). Nothing of the program is used.
-/
import Derived.Test.YtobbnedojmcgoaaRv
import Derived.Lib.QuietBelow
namespace Go.Proofs.Ytobbnedojmcgoaa
open Go.RowKit

theorem below_of_regrown {w w' : World} (h : ∃ p : Regrown, w' = Go.Sort.grow (redrawn w p.d) p.os) : Below w.heap.size w w' := by
  obtain ⟨p, rfl⟩ := h
  exact below_regrown w p.d p.os
/-- a callee's contract, met in whatever world lies above w -/
theorem quiet_up {P : Program} {f : FuncId} {args : Array Value} {w : World} {v : Value} (h : ∀ w', Below w.heap.size w w' → Calls P f args w' fun e w'' => e = .returned v ∧ Below w'.heap.size w' w'') (d : Nat) (os : Array Obj) :
    Calls P f args (Go.Sort.grow (redrawn w d) os) fun e w'' => e = .returned v ∧ ∃ p : Regrown, w'' = Go.Sort.grow (redrawn w p.d) p.os :=
  Calls.regrown_of (h _ (below_regrown w d os))
/-- the same of a callee that turns nothing at all -/
theorem quiet_still {P : Program} {f : FuncId} {args : Array Value} {w : World} {v : Value} (h : ∀ w', Calls P f args w' fun e w'' => e = .returned v ∧ w' = w'') (d : Nat) (os : Array Obj) :
    Calls P f args (Go.Sort.grow (redrawn w d) os) fun e w'' => e = .returned v ∧ ∃ p : Regrown, w'' = Go.Sort.grow (redrawn w p.d) p.os :=
  (h _).mono fun _ _ ⟨he, hw⟩ => ⟨he, ⟨d, os⟩, hw.symm⟩
/-- a cell of a block that is known whole -/
theorem RowV.quiet {w : World} {g k : Nat} {vs : List Value} {u : Value} (h : RowV w g vs) (hu : vs[k]? = some u) (d : Nat) (os : Array Obj) : (Go.Sort.grow (redrawn w d) os).cell? ⟨g, k, none⟩ = some u :=
  cell_regrown ((h.cell k).trans hu) d os
end Go.Proofs.Ytobbnedojmcgoaa
