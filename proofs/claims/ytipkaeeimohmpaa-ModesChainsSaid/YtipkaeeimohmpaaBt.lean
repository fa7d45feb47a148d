/-
  What is proved here: bytes that fill a block of memory of their own, whole; whole arrays of bytes made, read and written by value. Nothing of the program is used.
-/
import Derived.Test.YtipkaeeimohmpaaKit
import Derived.Test.YtipkaeeimohmpaaFo
import Derived.Laws.CopyOwn
import Derived.Laws.CopyRow
import Derived.Laws.Tables
import Derived.Laws.BitsAllLaws
import Derived.Deep.MidRow
import Derived.StillTailTactics
namespace Go.Proofs.Ytipkaeeimohmpaa
open Go.RowKit
set_option linter.unusedVariables false

theorem b_xor (x y : UInt8) : bits .xor .u8 (x.toNat : Int) (y.toNat : Int) = ((x ^^^ y).toNat : Int) := by
  rw [u8_xor_nat _ _ x.toNat_lt y.toNat_lt, UInt8.toNat_xor]
theorem getD_b {l : List UInt8} {k : Nat} (h : k < l.length) : l.getD k 0 = l[k] := by simp [List.getD, h]

/-- a new block g -/
def Fresh (w w' : World) (g : Nat) : Prop := g = w.heap.size ∧ ∃ o, w' = w.alloc o
/-- the block g has been written, and nothing else -/
def Wr (w w' : World) (g : Nat) : Prop := w'.os = w.os ∧ w'.tape = w.tape ∧ w'.output = w.output ∧ w'.heap.size = w.heap.size ∧ ∀ k, k ≠ g → w'.heap[k]? = w.heap[k]?
theorem Wr.row (w : World) (g : Nat) (cs : Array Value) : Wr w (w.setRow g cs) g := ⟨rfl, rfl, rfl, by simp, fun k h => setRow_other w g k cs h⟩
theorem Wr.cell (w : World) (a : Addr) (u : Value) : Wr w (w.setCell a u) a.block := ⟨rfl, rfl, rfl, by simp [World.setCell], fun k h => heap_setCell_other w a k u h⟩

/-- the block g holds the bytes l, and no more -/
def RowB (w : World) (g : Nat) (l : List UInt8) : Prop := ∃ ty, w.heap[g]? = some (.cells (Us l).toArray ty (0, 0))
section
variable {W w w' : World} {B g k : Nat} {l : List UInt8}
theorem Fresh.bl (hb : Below W.heap.size W w) (hf : Fresh w w' g) : Below W.heap.size W w' := by
  obtain ⟨_, o, rfl⟩ := hf
  exact hb.alloc hb.size o
theorem Fresh.bw (hf : Fresh w w' g) : Below w.heap.size w w' := hf.bl (Below.refl _ _)
theorem Fresh.ge (hb : Below W.heap.size W w) (hf : Fresh w w' g) : W.heap.size ≤ g := by rw [hf.1]; exact hb.size
theorem Wr.bl (hb : Below B W w) (hw : Wr w w' g) (h : B ≤ g) : Below B W w' :=
  hb.trans ⟨hw.1, hw.2.1, hw.2.2.1, by rw [hw.2.2.2.1]; exact Nat.le_refl _, fun k hk => hw.2.2.2.2 k (by omega)⟩
theorem RowB.lt (h : RowB w g l) : g < w.heap.size := by
  obtain ⟨ty, h⟩ := h
  exact (Array.getElem?_eq_some_iff.1 h).1
theorem RowB.same (h : RowB w g l) (e : w'.heap[g]? = w.heap[g]?) : RowB w' g l := by
  obtain ⟨ty, h⟩ := h
  exact ⟨ty, e.trans h⟩
theorem RowB.below {B : Nat} (h : RowB w g l) (hb : Below B w w') (hg : g < B) : RowB w' g l := h.same (hb.block g hg)
theorem RowB.on (h : RowB w g l) (hb : Below w.heap.size w w') : RowB w' g l := h.below hb h.lt
theorem RowB.fresh (h : RowB w k l) (hf : Fresh w w' g) : RowB w' k l := h.on hf.bw
theorem RowB.ne (h : RowB w k l) (hf : Fresh w w' g) : k ≠ g := by have := h.lt; rw [hf.1]; omega
theorem RowB.wr (h : RowB w k l) (hw : Wr w w' g) (hne : k ≠ g) : RowB w' k l := h.same (hw.2.2.2.2 k hne)
theorem RowB.drew (h : RowB w g l) : RowB w.drew g l := h
theorem RowB.drewN (h : RowB w g l) (n : Nat) : RowB (w.drewN n) g l := h
theorem RowB.cell (h : RowB w g l) {k : Nat} (hk : k < l.length) : w.cell? ⟨g, k, none⟩ = some (.int .u8 ((l.getD k 0).toNat : Int)) := by
  obtain ⟨ty, h⟩ := h
  rw [cell_of_row w g k _ ty (0, 0) h, ← Array.getElem?_toList]
  show (Us l)[k]? = _
  rw [Us_get hk, getD_b hk]
theorem RowB.free (h : RowB w g l) (k : Nat) : w.frozen? ⟨g, k, none⟩ = false := by
  obtain ⟨ty, h⟩ := h
  exact frozen_of_row w g k _ ty h
theorem RowB.far (h : RowB w g l) {a : Addr} (hne : g ≠ a.block) (u : Value) : RowB (w.setCell a u) g l := h.same (heap_setCell_other w a g u hne)
theorem RowB.set (h : RowB w g l) (i : Nat) (x : UInt8) : RowB (w.setCell ⟨g, i, none⟩ (.int .u8 (x.toNat : Int))) g (l.set i x) := by
  obtain ⟨ty, h⟩ := h
  refine ⟨ty, ?_⟩
  rw [heap_setCell_same w g i _ ty _ h, ← Us_set]
  congr 2
  apply Array.ext'
  simp [U]
theorem RowB.new {c : Array Value} {t : TypeId} (h : c.toList = Us l) : RowB (w.alloc (.cells c t)) w.heap.size l := by
  refine ⟨t, ?_⟩
  rw [heap_alloc_new]
  congr 2
  rw [← h]
theorem RowB.range (h : RowB w g l) (o n : Nat) (hn : o + n ≤ l.length) : w.rangeAt g o (Us ((l.drop o).take n)) := by
  intro j v hv
  have hj : j < n := by
    have := (List.getElem?_eq_some_iff.1 hv).1
    rw [Us_length, List.length_take] at this
    omega
  have hl : ((l.drop o).take n).length = n := by rw [List.length_take, List.length_drop]; omega
  rw [h.cell (by omega), ← hv, Us_get (by omega), getD_b (by omega)]
  simp
theorem RowB.whole (h : RowB w g l) : w.rangeAt g 0 (Us l) := by
  have := h.range 0 l.length (by omega)
  simpa using this
theorem RowB.sees (h : RowB w g l) (p : Nat → Prop) (hp : p g) : SeesP w p (some ⟨g, 0, none⟩) (Us l) := .inr ⟨g, 0, rfl, hp, fun j hj => by
  rw [Us_length] at hj
  rw [Nat.zero_add, h.cell hj, Us_get hj, getD_b hj]⟩
end
theorem Us_all (l : List UInt8) : (Us l).toArray.all (·.oneCell') = true := Array.all_eq_true_iff_forall_mem.2 (fun v hv => Us_one l v (by simpa using hv))

section
variable {P : Program} {ops : Array Oper} {rest : List Oper} {op : Oper} {a : Act} {w : World} {Q : Exit → Act → World → Prop}
/-- a variable of n bytes is made -/
theorem wpList_alloc_b (hgd : op.guard = none) (ty : TypeId) (ho : op.op = .alloc ty) (n : Nat)
    (hz : (P.info? ty).map (fun i => (i.zero, i.size)) = some (some (.agg (Us (List.replicate n 0)).toArray), n))
    (hK : ∀ g w', Fresh w w' g → RowB w' g (List.replicate n 0) → wpList P ops Q rest (a.put op.dst (.pointer (some ⟨g, 0, none⟩))) w') : wpList P ops Q (op :: rest) a w := by
  refine wpList_plain hgd fun K hK2 => ?_
  have hz2 : ∀ w, (zeroValue ty).run P w = .ok (.agg (Us (List.replicate n 0)).toArray) w := by
    intro w
    cases hq : P.info? ty with
    | none => simp [hq] at hz
    | some i =>
      simp [hq] at hz
      simp [zeroValue, typeInfo, hq, hz.1]
  have hr : (Instr.alloc ty true (.tuple #[])).run P w = .ok (.pointer (some ⟨w.heap.size, 0, none⟩)) (w.alloc (.cells (Us (List.replicate n 0)).toArray ty)) := by
    simp [Instr.alloc, Sem.run_bind, hz2, newVar, newRow, newObj, Value.cells]
    rfl
  unfold Oper.wp execOp
  simp only [ho, Sem.run_bind, hr, Result.andThen_ok]
  exact hK2 _ _ (hK _ _ ⟨rfl, _, rfl⟩ (RowB.new (by simp)))
/-- an array of bytes is put into a block of its own -/
theorem wpList_box_b (hgd : op.guard = none) (ty : TypeId) (x : Operand) (ho : op.op = .box ty x) (l : List UInt8) (hx : a.eval x = .agg (Us l).toArray)
    (hK : ∀ g w', Fresh w w' g → RowB w' g l → wpList P ops Q rest (a.put op.dst (.pointer (some ⟨g, 0, none⟩))) w') : wpList P ops Q (op :: rest) a w := by
  refine wpList_plain hgd fun K hK2 => ?_
  have hr : (Instr.box ty (.agg (Us l).toArray)).run P w = .ok (.pointer (some ⟨w.heap.size, 0, none⟩)) (w.alloc (.cells (Us l).toArray ty)) := by
    simp [Instr.box, newVar, newRow, newObj, Value.cells]
    rfl
  unfold Oper.wp execOp
  simp only [ho, hx, Sem.run_bind, hr, Result.andThen_ok]
  exact hK2 _ _ (hK _ _ ⟨rfl, _, rfl⟩ (RowB.new (by simp)))
/-- an array of bytes is written into a block that holds bytes alone -/
theorem wpList_store_b (hgd : op.guard = none) (ty : TypeId) (x y : Operand) (ho : op.op = .store ty x y) (g o : Nat) (l l2 : List UInt8)
    (hx : a.eval x = .pointer (some ⟨g, o, none⟩)) (hy : a.eval y = .agg (Us l2).toArray) (h : RowB w g l) (hl : o + l2.length ≤ l.length) (hi : (P.info? ty).map (·.size) = some l2.length)
    (hK : ∀ w', Wr w w' g → RowB w' g (l.take o ++ l2 ++ l.drop (o + l2.length)) → wpList P ops Q rest (a.put op.dst undef) w') : wpList P ops Q (op :: rest) a w := by
  obtain ⟨t, h⟩ := h
  refine wpList_plain hgd fun K hK2 => ?_
  have hst := run_storeCells_at P g o t (Us l2) 0 _ w h (by simp [Us_length]; omega) (Us_one l2)
  have hr : (storeVar ty ⟨g, o, none⟩ (.agg (Us l2).toArray)).run P w = .ok () (w.setRow g ((Us l).take o ++ Us l2 ++ (Us l).drop (o + (Us l2).length)).toArray) := by
    cases hq : P.info? ty with
    | none => simp [hq] at hi
    | some i =>
      have hs : i.size = (Us l2).length := by rw [Us_length]; simpa [hq] using hi
      simp only [Nat.add_zero] at hst
      simp [storeVar, sizeOf, typeInfo, hq, Value.cells, hs, hst]
  unfold Oper.wp execOp
  simp only [ho, hx, hy, Instr.storeAt, Instr.sureAddr, Sem.run_bind, Sem.run_pure, Result.andThen_ok, hr]
  refine hK2 _ _ (hK _ (Wr.row _ _ _) ⟨t, ?_⟩)
  rw [setRow_heap w g _ _ t (0, 0) h, Us_length]
  simp [Us_append, Us_take, Us_drop]
theorem wpList_store_all (hgd : op.guard = none) (ty : TypeId) (x y : Operand) (ho : op.op = .store ty x y) (g : Nat) (l l2 : List UInt8)
    (hx : a.eval x = .pointer (some ⟨g, 0, none⟩)) (hy : a.eval y = .agg (Us l2).toArray) (h : RowB w g l) (hl : l2.length = l.length) (hi : (P.info? ty).map (·.size) = some l2.length)
    (hK : ∀ w', Wr w w' g → RowB w' g l2 → wpList P ops Q rest (a.put op.dst undef) w') : wpList P ops Q (op :: rest) a w := by
  refine wpList_store_b hgd ty x y ho g 0 l l2 hx hy h (by omega) hi fun w' h1 h2 => hK w' h1 ?_
  have e : l.take 0 ++ l2 ++ l.drop (0 + l2.length) = l2 := by
    rw [List.drop_eq_nil_of_le (by omega)]
    simp
  rw [e] at h2
  exact h2
theorem wpList_load_b (hgd : op.guard = none) (ty : TypeId) (x : Operand) (ho : op.op = .load ty x) (g o : Nat) (hx : a.eval x = .pointer (some ⟨g, o, none⟩)) (l : List UInt8) (n : Nat) (e : TypeId)
    (h : w.rangeAt g o (Us l)) (hu : P.underlying ty = some (.array n e)) (hi : (P.info? ty).map (·.size) = some l.length)
    (hK : wpList P ops Q rest (a.put op.dst (.agg (Us l).toArray)) w) : wpList P ops Q (op :: rest) a w :=
  wpList_load_mid hgd ty x ho g o hx (Us l) _ h hu rfl (by rw [Us_length]; exact hi) hK
/-- the same load ahead of a region's tail -/
theorem still_load_b {Q : Act → Prop} (hgd : op.guard = none) (ty : TypeId) (x : Operand) (ho : op.op = .load ty x) (g o : Nat) (hx : a.eval x = .pointer (some ⟨g, o, none⟩)) (l : List UInt8) (n : Nat) (e : TypeId)
    (h : w.rangeAt g o (Us l)) (hu : P.underlying ty = some (.array n e)) (hi : (P.info? ty).map (·.size) = some l.length)
    (hK : wpStill P ops w Q rest (a.put op.dst (.agg (Us l).toArray))) : wpStill P ops w Q (op :: rest) a := by
  refine wpStill_step fun K hK2 => ?_
  have hw : Region.wanted op (yielded ops a.tmps) = true := by simp [Region.wanted, hgd]
  rw [if_pos hw]
  have hr := run_loadVar_mid (P := P) w g o ty (Us l) _ h hu rfl (by rw [Us_length]; exact hi)
  unfold Oper.still execOp
  simp only [ho, hx, Instr.loadAt, Instr.sureAddr, Sem.run_bind, Sem.run_pure, Result.andThen_ok, hr]
  exact ⟨rfl, hK2 _ hK⟩
end
theorem results_b {P : Program} {fn : Func} {p : Tmp} {ty : TypeId} (h : fn.results = #[.cell p ty]) (tmps : Array Value) (w : World) (g : Nat) (l : List UInt8) (n : Nat) (e : TypeId)
    (hp : tmps.getD p undef = .pointer (some ⟨g, 0, none⟩)) (hg : RowB w g l) (hu : P.underlying ty = some (.array n e)) (hi : (P.info? ty).map (·.size) = some l.length) : (results fn tmps).run P w = .ok (.agg (Us l).toArray) w := by
  obtain ⟨t, hg⟩ := hg
  exact results_cell_row h tmps w g t _ (0, 0) (.array n e) hp hg hu rfl (by rw [← Us_length] at hi; simpa using hi)

end Go.Proofs.Ytipkaeeimohmpaa
