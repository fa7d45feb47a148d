/-
  What is proved here: an info read out of its object, by the reference.
-/
import Derived.Test.YtcapbojjceeapaaDoorWJn
namespace Go.Proofs.YtcapbojjceeapaaDoor
open Go.RowKit
set_option maxRecDepth 8000
set_option linter.unusedVariables false
set_option linter.unusedSimpArgs false
theorem HoldsP.tail {w : World} {p : Nat → Prop} {t : Int} {v : List UInt8} {k r : F} {cs : List Value} (h : HoldsP w p (.cons t v k r) cs) : HoldsP w p r (cs.drop 3) := by
  obtain ⟨Av, cv, Ak, ck, ks, cs', e, _, _, _, _, h4⟩ := h
  rw [e]; exact h4
theorem HoldsP.drop {w : World} {p : Nat → Prop} : ∀ {f : F} {cs : List Value} (j : Nat), HoldsP w p f cs → HoldsP w p (f.drop j) (cs.drop (3 * j))
  | f, cs, 0, h => by cases f <;> simpa [F.drop] using h
  | .nil, cs, j + 1, h => by
    have h : cs = [] := h
    subst h
    simp [F.drop, HoldsP]
  | .cons _ _ _ r, cs, j + 1, h => by
    have h2 := HoldsP.drop j h.tail
    rw [List.drop_drop, show 3 + 3 * j = 3 * (j + 1) by omega] at h2
    exact h2
theorem wpList_bldI {P : Program} {ops : Array Oper} {rest : List Oper} {o : Oper} {a : Act} {w : World} {Q : Exit → Act → World → Prop} (hgd : o.guard = none) (t : TypeId) (parts : Array (Nat × Operand)) (ho : o.op = .build t parts) {ps : List (Nat × Value)} (hp : (parts.map fun (i, x) => (i, a.eval x)).toList = ps) {vs : List Value} (hb : P.built t ps = some vs.toArray)
    (hK : wpList P ops Q rest (a.put o.dst (.agg vs.toArray)) w) : wpList P ops Q (o :: rest) a w :=
  wpList_plain hgd fun _ hK2 => o_bld t parts ho hp hb (hK2 _ _ hK)
end Go.Proofs.YtcapbojjceeapaaDoor
