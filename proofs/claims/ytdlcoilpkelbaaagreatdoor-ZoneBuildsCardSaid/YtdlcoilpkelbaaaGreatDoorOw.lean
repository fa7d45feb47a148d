/-
  What is proved here: words for the blocks of a call's own (each known whole), what reading and writing them does, and that the listed tables stay where they lie. Nothing of the program's functions is used.
-/
import Derived.Test.YtdlcoilpkelbaaaGreatDoorRv
import Derived.Test.YtdlcoilpkelbaaaGreatDoorQb
import Derived.Test.YtdlcoilpkelbaaaGreatDoorOd
import Derived.Test.YtdlcoilpkelbaaaGreatDoorDml
import Derived.Maps.RangeWalk
namespace Go.Proofs.YtdlcoilpkelbaaaGreatDoor
open Go.RowKit
set_option linter.unusedVariables false

/-- blocks of the call's own, in the order of their making -/
def Own (w cur : World) (L : List (Nat × List Value)) : Prop :=
  Below w.heap.size w cur ∧ (∀ (i g : Nat) (vs : List Value), L[i]? = some (g, vs) → w.heap.size ≤ g ∧ RowV cur g vs) ∧ ∀ (i j g g' : Nat) (vs vs' : List Value), L[i]? = some (g, vs) → L[j]? = some (g', vs') → i ≠ j → g ≠ g'
section
variable {w cur cur' : World} {L : List (Nat × List Value)} {i g : Nat} {vs us : List Value}
theorem Own.start (w : World) : Own w w [] := ⟨Below.refl _ _, fun i g vs h => by simp at h, fun i j g g' vs vs' h => by simp at h⟩
theorem Own.bl (h : Own w cur L) : Below w.heap.size w cur := h.1
theorem Own.row (h : Own w cur L) (e : L[i]? = some (g, vs)) : RowV cur g vs := (h.2.1 i g vs e).2
theorem Own.ge (h : Own w cur L) (e : L[i]? = some (g, vs)) : w.heap.size ≤ g := (h.2.1 i g vs e).1
theorem Own.on (h : Own w cur L) (hb : Below cur.heap.size cur cur') : Own w cur' L :=
  ⟨below_on h.1 hb, fun i g vs e => ⟨h.ge e, (h.row e).on hb⟩, h.2.2⟩
theorem Own.new (h : Own w cur L) (hf : Fresh cur cur' g) (hr : RowV cur' g vs) : Own w cur' (L ++ [(g, vs)]) := by
  have hlt : ∀ (i g' : Nat) (vs' : List Value), L[i]? = some (g', vs') → g' ≠ g := fun i g' vs' e => (h.row e).ne hf
  refine ⟨hf.bl h.1, fun i g' vs' e => ?_, fun i j g1 g2 v1 v2 e1 e2 hne => ?_⟩
  · rw [List.getElem?_append] at e
    split at e
    · exact ⟨h.ge e, (h.row e).fresh hf⟩
    · have e' : g' = g ∧ vs' = vs := by
        rcases hk : i - L.length with _ | k
        · rw [hk] at e; simp at e; exact ⟨e.1.symm, e.2.symm⟩
        · rw [hk] at e; simp at e
      obtain ⟨rfl, rfl⟩ := e'
      exact ⟨hf.ge h.1, hr⟩
  · rw [List.getElem?_append] at e1 e2
    have key : ∀ (k : Nat) (x : Nat) (y : List Value), [(g, vs)][k]? = some (x, y) → k = 0 ∧ x = g := by
      intro k x y e
      rcases k with _ | k
      · simp at e; exact ⟨rfl, e.1.symm⟩
      · simp at e
    split at e1 <;> split at e2
    · exact h.2.2 i j g1 g2 v1 v2 e1 e2 hne
    · obtain ⟨_, rfl⟩ := key _ _ _ e2; exact hlt i g1 v1 e1
    · obtain ⟨_, rfl⟩ := key _ _ _ e1; exact (hlt j g2 v2 e2).symm
    · have := (key _ _ _ e1).1; have := (key _ _ _ e2).1; omega
theorem Own.set (h : Own w cur L) (e : L[i]? = some (g, vs)) (hw : Wr cur cur' g) (hr : RowV cur' g us) : Own w cur' (L.set i (g, us)) := by
  have hlt : i < L.length := (List.getElem?_eq_some_iff.1 e).1
  have key : ∀ (j x : Nat) (y : List Value), (L.set i (g, us))[j]? = some (x, y) → (j = i ∧ x = g ∧ y = us) ∨ (j ≠ i ∧ L[j]? = some (x, y)) := by
    intro j x y hj
    by_cases hji : j = i
    · subst hji
      rw [List.getElem?_set_self hlt] at hj
      injection hj with hj
      injection hj with h1 h2
      exact .inl ⟨rfl, h1.symm, h2.symm⟩
    · rw [List.getElem?_set_ne (Ne.symm hji)] at hj
      exact .inr ⟨hji, hj⟩
  refine ⟨Wr.bl h.1 hw (h.ge e), fun j g' vs' hj => ?_, fun j k g1 g2 v1 v2 e1 e2 hne => ?_⟩
  · rcases key j g' vs' hj with ⟨rfl, rfl, rfl⟩ | ⟨hne, hj⟩
    · exact ⟨h.ge e, hr⟩
    · exact ⟨h.ge hj, (h.row hj).wr hw (h.2.2 j i g' g vs' vs hj e hne)⟩
  · rcases key j g1 v1 e1 with ⟨rfl, rfl, rfl⟩ | ⟨hn1, f1⟩ <;> rcases key k g2 v2 e2 with ⟨rfl, rfl, rfl⟩ | ⟨hn2, f2⟩
    · exact absurd rfl hne
    · exact h.2.2 _ _ _ _ _ _ e f2 hne
    · exact h.2.2 _ _ _ _ _ _ f1 e hne
    · exact h.2.2 _ _ _ _ _ _ f1 f2 hne
/-- a map or an iterator, or a row in a block that is none of these, is written -/
theorem Own.far {row : Option Nat} (h : Own w cur L) (hg : cur.grownBy cur' row) (hr : ∀ r, row = some r → w.heap.size ≤ r) (hne : ∀ (i g : Nat) (vs : List Value), L[i]? = some (g, vs) → row ≠ some g) : Own w cur' L := by
  refine ⟨⟨hg.os.trans h.1.os, hg.tape.trans h.1.tape, hg.output.trans h.1.output, Nat.le_trans h.1.size hg.size, fun k hk => (hg.block k (Nat.lt_of_lt_of_le hk h.1.size) (fun e => ?_)).trans (h.1.block k hk)⟩, fun i g vs e => ⟨h.ge e, (h.row e).same (hg.block g (h.row e).lt (fun e1 => hne i g vs e e1.symm))⟩, h.2.2⟩
  have := hr k e.symm
  omega
end
/-- a single cell is read -/
theorem wpList_load_c {P : Program} {ops : Array Oper} {rest : List Oper} {op : Oper} {a : Act} {w : World} {Q : Exit → Act → World → Prop} (hgd : op.guard = none) (ty : TypeId) (x : Operand) (ho : op.op = .load ty x) (g k : Nat)
    (hx : a.eval x = .pointer (some ⟨g, k, none⟩)) (v : Value) (hc : w.cell? ⟨g, k, none⟩ = some v) (ha : ∀ w, (isAgg ty).run P w = .ok false w)
    (hK : wpList P ops Q rest (a.put op.dst v) w) : wpList P ops Q (op :: rest) a w := by
  refine wpList_plain hgd fun K hK2 => ?_
  have hr : (loadVar ty ⟨g, k, none⟩).run P w = .ok v w := by simp [loadVar, ha, hc, go_sem]
  unfold Oper.wp execOp
  simp only [ho, hx, Instr.loadAt, Instr.sureAddr, Sem.run_bind, Sem.run_pure, Result.andThen_ok, hr]
  exact hK2 _ _ hK
/-- an aggregate within a block is read -/
theorem wpList_load_part {P : Program} {ops : Array Oper} {rest : List Oper} {op : Oper} {a : Act} {w : World} {Q : Exit → Act → World → Prop} (hgd : op.guard = none) (ty : TypeId) (x : Operand) (ho : op.op = .load ty x) (g o : Nat) (hx : a.eval x = .pointer (some ⟨g, o, none⟩)) (vs : List Value) (n : Nat) (us : List Value) (d : TypeDesc)
    (h : RowV w g vs) (hn : o + n ≤ vs.length) (hus : (vs.drop o).take n = us) (hu : P.underlying ty = some d) (hd : d.isRow = true) (hi : (P.info? ty).map (·.size) = some us.length)
    (hK : wpList P ops Q rest (a.put op.dst (.agg us.toArray)) w) : wpList P ops Q (op :: rest) a w :=
  wpList_load_mid hgd ty x ho g o hx us d (by rw [← hus]; exact h.range o n hn) hu hd hi hK
theorem at_box_ {P : Program} {ops : Array Oper} {rest : List Oper} {a : Act} {w : World} {Q : Exit → Act → World → Prop} {d : Nat} {x : Operand} {ty t : TypeId} {ps : String} {af : Array Edge} {gd : Option (Nat × Bool)} (h : wpList P ops Q (⟨some d, .box ty x, t, ps, af, gd⟩ :: rest) a w) : wpList P ops Q (⟨some d, .box ty x, t, ps, af, gd⟩ :: rest) a w := h
/-- an aggregate is read in a region that draws its order -/
theorem quiet_load_v {P : Program} {ops : Array Oper} {C : World → Prop} {Q : Act → Prop} {a : Act} {o : Oper} {rest : List Oper} (hw : Region.wanted o (yielded ops a.tmps) = true) (ty : TypeId) (x : Operand) (ho : o.op = .load ty x) (g : Nat) (hx : a.eval x = .pointer (some ⟨g, 0, none⟩)) (vs : List Value) (d : TypeDesc)
    (h : ∀ w, C w → RowV w g vs) (hu : P.underlying ty = some d) (hd : d.isRow = true) (hi : (P.info? ty).map (·.size) = some vs.length) (hK : wpQuiet P ops C Q rest (a.put o.dst (.agg vs.toArray))) : wpQuiet P ops C Q (o :: rest) a := by
  refine Go.BigFrame.wpQuiet_want hw fun K hKK => ?_
  refine ⟨_, fun w hc => ?_, hKK _ hK⟩
  have hr := run_loadVar_mid (P := P) w g 0 ty vs d (h w hc).whole hu hd hi
  unfold Oper.quietAt execOp
  simp only [ho, hx, Instr.loadAt, Instr.sureAddr, Sem.run_bind, Sem.run_pure, Result.andThen_ok, hr]
  exact ⟨rfl, rfl⟩
theorem at_qload_ {P : Program} {ops : Array Oper} {C : World → Prop} {Q : Act → Prop} {a : Act} {d : Nat} {rest : List Oper} {x : Operand} {ty t : TypeId} {ps : String} {af : Array Edge} {gd : Option (Nat × Bool)}
    (h : wpQuiet P ops C Q (⟨some d, .load ty x, t, ps, af, gd⟩ :: rest) a) : wpQuiet P ops C Q (⟨some d, .load ty x, t, ps, af, gd⟩ :: rest) a := h
theorem RowV.up {w : World} {g : Nat} {vs : List Value} (h : RowV w g vs) : ∀ w', (∃ p : Regrown, w' = Go.Sort.grow (redrawn w p.d) p.os) → RowV w' g vs := fun w' hw => h.on (below_of_regrown hw)

/-! ## the listed tables -/
def brI : List Int := [0, 99, 1, 12, 1, 31]
def TabB (w : World) : Prop := 0 < w.heap.size ∧ ∀ k : Nat, k < 6 → w.cell? ⟨0, k, none⟩ = some (.int .i64 (brI.getD k 0))
def MaxC (w : World) : Prop := 2 < w.heap.size ∧ ∃ m : Int, w.cell? ⟨2, 0, none⟩ = some (.int .i64 m)
def Mm (w : World) : Prop := TabW w ∧ Tab w ∧ TabB w ∧ MaxC w
theorem cell_lt {w : World} {g k : Nat} {v : Value} (h : w.cell? ⟨g, k, none⟩ = some v) : g < w.heap.size := block_lt_of_cell h
theorem Mm.on {w w' : World} (h : Mm w) (hb : Below w.heap.size w w') : Mm w' := by
  obtain ⟨h1, h2, h3, h4, m, hm⟩ := h
  have hl := cell_lt h1.1
  refine ⟨⟨(hb.cell (p := ⟨1, 0, none⟩) hl).trans h1.1, (hb.cell (p := ⟨1, 1, none⟩) hl).trans h1.2.1, (hb.cell (p := ⟨1, 2, none⟩) hl).trans h1.2.2⟩, h2.on hb h2.1, ⟨Nat.lt_of_lt_of_le h3.1 hb.size, fun k hk => ?_⟩, Nat.lt_of_lt_of_le h4 hb.size, m, ?_⟩
  · exact (hb.cell (p := ⟨0, k, none⟩) h3.1).trans (h3.2 k hk)
  · exact (hb.cell (p := ⟨2, 0, none⟩) h4).trans hm
theorem Mm.own {w cur : World} {L : List (Nat × List Value)} (h : Mm w) (ho : Own w cur L) : Mm cur := h.on ho.1
end Go.Proofs.YtdlcoilpkelbaaaGreatDoor
