/-
  What is proved here: what an open list lacks of a signed one, by the reference.
-/
import Derived.Test.YtmkggpgpiepjfaaDoorZKd
import Derived.BigQuiet
namespace Go.Proofs.YtmkggpgpiepjfaaDoor
open Go.RowKit
set_option maxRecDepth 8000
set_option linter.unusedVariables false
set_option linter.unusedSimpArgs false
theorem quiet_bin {P : Program} {ops : Array Oper} {C : World → Prop} {Q : Act → Prop} {a : Act} {o : Oper} {rest : List Oper} (hw : Region.wanted o (yielded ops a.tmps) = true) (b : BinOp) (T T2 : TypeId) (x y : Operand) (ho : o.op = .binOp b T x y T2) {v vx vy : Value} (hx : a.eval x = vx) (hy : a.eval y = vy)
    (hr : ∀ w, (do eqGuard b T x y vx vy; binOp b T vx vy).run P w = .ok v w) (hK : wpQuiet P ops C Q rest (a.put o.dst v)) : wpQuiet P ops C Q (o :: rest) a := by
  refine Go.BigFrame.wpQuiet_want hw fun K hKK => ?_
  refine ⟨_, fun w hc => ?_, hKK _ hK⟩
  unfold Oper.quietAt execOp
  simp only [ho, hx, hy]
  rw [Sem.run_bind, hr]
  exact ⟨rfl, rfl⟩
theorem at_qany_ {P : Program} {ops : Array Oper} {C : World → Prop} {Q : Act → Prop} {a : Act} {d : Nat} {rest : List Oper} {op : Op} {t : TypeId} {ps : String} {af : Array Edge} {gd : Option (Nat × Bool)}
    (h : wpQuiet P ops C Q (⟨some d, op, t, ps, af, gd⟩ :: rest) a) : wpQuiet P ops C Q (⟨some d, op, t, ps, af, gd⟩ :: rest) a := h
end Go.Proofs.YtmkggpgpiepjfaaDoor
