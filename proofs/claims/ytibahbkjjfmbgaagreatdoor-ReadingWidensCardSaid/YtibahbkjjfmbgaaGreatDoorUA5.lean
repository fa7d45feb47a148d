/-
  What is proved here: values that fill a block of memory of their own, whole: structs and arrays made, boxed, read, written and handed back by value. Nothing of the program is used.
-/
import Derived.Test.YtibahbkjjfmbgaaGreatDoorUA1
import Derived.Laws.CopyOwn
import Derived.Laws.CopyRow
import Derived.Laws.Tables
import Derived.Laws.ResultCell
import Derived.Laws.Rows
import Derived.Deep.MidRow
import Derived.StillTailTactics
import Derived.Lib.QuietBelow
import Derived.Test.YtibahbkjjfmbgaaGreatDoorUA3
import Derived.Test.YtibahbkjjfmbgaaGreatDoorUA2
import Derived.Maps.RangeWalk
namespace Go.Proofs.YtibahbkjjfmbgaaGreatDoor
open Go.RowKit
set_option linter.unusedVariables false
def Fresh (w w' : World) (g : Nat) : Prop := g = w.heap.size ∧ ∃ o, w' = w.alloc o
def Wr (w w' : World) (g : Nat) : Prop := w'.os = w.os ∧ w'.tape = w.tape ∧ w'.output = w.output ∧ w'.heap.size = w.heap.size ∧ ∀ k, k ≠ g → w'.heap[k]? = w.heap[k]?
theorem Wr.row (w : World) (g : Nat) (cs : Array Value) : Wr w (w.setRow g cs) g := ⟨rfl, rfl, rfl, by simp, fun k h => setRow_other w g k cs h⟩
theorem Wr.cell (w : World) (a : Addr) (u : Value) : Wr w (w.setCell a u) a.block := ⟨rfl, rfl, rfl, by simp [World.setCell], fun k h => heap_setCell_other w a k u h⟩
section
variable {W w w' : World} {B g k : Nat}
theorem Fresh.bl (hb : Below W.heap.size W w) (hf : Fresh w w' g) : Below W.heap.size W w' := by
 obtain ⟨_, o, rfl⟩ := hf
 exact hb.alloc hb.size o
theorem Fresh.bw (hf : Fresh w w' g) : Below w.heap.size w w' := hf.bl (Below.refl _ _)
theorem Fresh.ge (hb : Below W.heap.size W w) (hf : Fresh w w' g) : W.heap.size ≤ g := by rw [hf.1]; exact hb.size
theorem Wr.bl (hb : Below B W w) (hw : Wr w w' g) (h : B ≤ g) : Below B W w' :=
 hb.trans ⟨hw.1, hw.2.1, hw.2.2.1, by rw [hw.2.2.2.1]; exact Nat.le_refl _, fun k hk => hw.2.2.2.2 k (by omega)⟩
end
def RowV (w : World) (g : Nat) (vs : List Value) : Prop := ∃ ty, w.heap[g]? = some (.cells vs.toArray ty (0, 0))
section
variable {w w' : World} {g : Nat} {vs : List Value}
theorem RowV.lt (h : RowV w g vs) : g < w.heap.size := by
 obtain ⟨ty, h⟩ := h
 exact (Array.getElem?_eq_some_iff.1 h).1
theorem RowV.same (h : RowV w g vs) (e : w'.heap[g]? = w.heap[g]?) : RowV w' g vs := by
 obtain ⟨ty, h⟩ := h
 exact ⟨ty, e.trans h⟩
theorem RowV.on (h : RowV w g vs) (hb : Below w.heap.size w w') : RowV w' g vs := h.same (hb.block g h.lt)
theorem RowV.cell (h : RowV w g vs) (k : Nat) : w.cell? ⟨g, k, none⟩ = vs[k]? := by
 obtain ⟨ty, h⟩ := h
 rw [cell_of_row w g k _ ty (0, 0) h, ← Array.getElem?_toList]
theorem RowV.free (h : RowV w g vs) (k : Nat) : w.frozen? ⟨g, k, none⟩ = false := by
 obtain ⟨ty, h⟩ := h
 exact frozen_of_row w g k _ ty h
theorem RowV.set (h : RowV w g vs) (i : Nat) (v : Value) : RowV (w.setCell ⟨g, i, none⟩ v) g (vs.set i v) := by
 obtain ⟨ty, h⟩ := h
 refine ⟨ty, ?_⟩
 rw [heap_setCell_same w g i _ ty _ h]
 congr 2
 apply Array.ext'
 simp
theorem RowV.new {c : Array Value} {t : TypeId} (h : c.toList = vs) : RowV (w.alloc (.cells c t)) w.heap.size vs := by
 refine ⟨t, ?_⟩
 rw [heap_alloc_new]
 congr 2
 rw [← h]
theorem RowV.below {B : Nat} (h : RowV w g vs) (hb : Below B w w') (hg : g < B) : RowV w' g vs := h.same (hb.block g hg)
theorem RowV.fresh {k : Nat} (h : RowV w k vs) (hf : Fresh w w' g) : RowV w' k vs := h.on hf.bw
theorem RowV.ne {k : Nat} (h : RowV w k vs) (hf : Fresh w w' g) : k ≠ g := by have := h.lt; rw [hf.1]; omega
theorem RowV.wr {k : Nat} (h : RowV w k vs) (hw : Wr w w' g) (hne : k ≠ g) : RowV w' k vs := h.same (hw.2.2.2.2 k hne)
theorem RowV.drew (h : RowV w g vs) : RowV w.drew g vs := h
theorem RowV.drewN (h : RowV w g vs) (n : Nat) : RowV (w.drewN n) g vs := h
theorem RowV.far (h : RowV w g vs) {a : Addr} (hne : g ≠ a.block) (u : Value) : RowV (w.setCell a u) g vs := h.same (heap_setCell_other w a g u hne)
theorem RowV.range (h : RowV w g vs) (o n : Nat) (hn : o + n ≤ vs.length) : w.rangeAt g o ((vs.drop o).take n) := by
 intro j v hv
 rw [h.cell, ← hv]
 have hj : j < n := by
  have := (List.getElem?_eq_some_iff.1 hv).1
  rw [List.length_take] at this
  omega
 rw [List.getElem?_take, if_pos hj, List.getElem?_drop]
theorem RowV.whole (h : RowV w g vs) : w.rangeAt g 0 vs := by
 intro j v hv
 rw [h.cell, Nat.zero_add, hv]
end
theorem wpList_make_v {P : Program} {ops : Array Oper} {rest : List Oper} {op : Oper} {a : Act} {w : World} {Q : Exit → Act → World → Prop} (hgd : op.guard = none) (ty : TypeId) (x y : Operand) (ho : op.op = .makeSlice ty x y) (vx vy : Value) (hx : a.eval x = vx) (hy : a.eval y = vy)
 (vs : List Value) (n : Nat) (e : TypeId) (hm : (Instr.makeSlice ty vx vy).run P w = .ok (.slice (some ⟨w.heap.size, 0, none⟩) n n) (w.alloc (.cells vs.toArray e)))
 (hK : ∀ g w', Fresh w w' g → RowV w' g vs → wpList P ops Q rest (a.put op.dst (.slice (some ⟨g, 0, none⟩) n n)) w') : wpList P ops Q (op :: rest) a w := by
 refine wpList_plain hgd fun K hK2 => ?_
 unfold Oper.wp execOp
 simp only [ho, hx, hy, Sem.run_bind, hm, Result.andThen_ok]
 exact hK2 _ _ (hK _ _ ⟨rfl, _, rfl⟩ (RowV.new (by simp)))
section
variable {P : Program} {ops : Array Oper} {rest : List Oper} {op : Oper} {a : Act} {w : World} {Q : Exit → Act → World → Prop}
theorem at_alloc_ {d : Nat} {ty t : TypeId} {ps : String} {af : Array Edge} {gd : Option (Nat × Bool)} (h : wpList P ops Q (⟨some d, .alloc ty, t, ps, af, gd⟩ :: rest) a w) : wpList P ops Q (⟨some d, .alloc ty, t, ps, af, gd⟩ :: rest) a w := h
theorem at_load_ {d : Nat} {x : Operand} {ty t : TypeId} {ps : String} {af : Array Edge} {gd : Option (Nat × Bool)} (h : wpList P ops Q (⟨some d, .load ty x, t, ps, af, gd⟩ :: rest) a w) : wpList P ops Q (⟨some d, .load ty x, t, ps, af, gd⟩ :: rest) a w := h
theorem at_store_ {i : Nat} {y : Operand} {ty t : TypeId} {ps : String} {af : Array Edge} {gd : Option (Nat × Bool)} (h : wpList P ops Q (⟨none, .store ty (.tmp i) y, t, ps, af, gd⟩ :: rest) a w) : wpList P ops Q (⟨none, .store ty (.tmp i) y, t, ps, af, gd⟩ :: rest) a w := h
theorem wpList_alloc_v (hgd : op.guard = none) (ty : TypeId) (ho : op.op = .alloc ty) (zs : List Value)
 (hz : (P.info? ty).map (·.zero) = some (some (.agg zs.toArray)))
 (hK : ∀ g w', Fresh w w' g → RowV w' g zs → wpList P ops Q rest (a.put op.dst (.pointer (some ⟨g, 0, none⟩))) w') : wpList P ops Q (op :: rest) a w := by
 refine wpList_plain hgd fun K hK2 => ?_
 have hz2 : ∀ w, (zeroValue ty).run P w = .ok (.agg zs.toArray) w := by
  intro w
  cases hq : P.info? ty with
  | none => simp [hq] at hz
  | some i =>
   simp [hq] at hz
   simp [zeroValue, typeInfo, hq, hz]
 have hr : (Instr.alloc ty true (.tuple #[])).run P w = .ok (.pointer (some ⟨w.heap.size, 0, none⟩)) (w.alloc (.cells zs.toArray ty)) := by
  simp [Instr.alloc, Sem.run_bind, hz2, newVar, newRow, newObj, Value.cells]
  rfl
 unfold Oper.wp execOp
 simp only [ho, Sem.run_bind, hr, Result.andThen_ok]
 exact hK2 _ _ (hK _ _ ⟨rfl, _, rfl⟩ (RowV.new (by simp)))
theorem wpList_box_v (hgd : op.guard = none) (ty : TypeId) (x : Operand) (ho : op.op = .box ty x) (vs : List Value) (hx : a.eval x = .agg vs.toArray)
 (hK : ∀ g w', Fresh w w' g → RowV w' g vs → wpList P ops Q rest (a.put op.dst (.pointer (some ⟨g, 0, none⟩))) w') : wpList P ops Q (op :: rest) a w := by
 refine wpList_plain hgd fun K hK2 => ?_
 have hr : (Instr.box ty (.agg vs.toArray)).run P w = .ok (.pointer (some ⟨w.heap.size, 0, none⟩)) (w.alloc (.cells vs.toArray ty)) := by
  simp [Instr.box, newVar, newRow, newObj, Value.cells]
  rfl
 unfold Oper.wp execOp
 simp only [ho, hx, Sem.run_bind, hr, Result.andThen_ok]
 exact hK2 _ _ (hK _ _ ⟨rfl, _, rfl⟩ (RowV.new (by simp)))
theorem wpList_store_v (hgd : op.guard = none) (ty : TypeId) (x y : Operand) (ho : op.op = .store ty x y) (g : Nat) (vs us : List Value)
 (hx : a.eval x = .pointer (some ⟨g, 0, none⟩)) (hy : a.eval y = .agg us.toArray) (h : RowV w g vs) (hl : us.length = vs.length) (h1 : ∀ u ∈ us, u.oneCell' = true) (hi : (P.info? ty).map (·.size) = some us.length)
 (hK : ∀ w', Wr w w' g → RowV w' g us → wpList P ops Q rest (a.put op.dst undef) w') : wpList P ops Q (op :: rest) a w := by
 obtain ⟨t, h⟩ := h
 refine wpList_plain hgd fun K hK2 => ?_
 have hst := run_storeCells_at P g 0 t us 0 _ w h (by simp; omega) h1
 have hr : (storeVar ty ⟨g, 0, none⟩ (.agg us.toArray)).run P w = .ok () (w.setRow g us.toArray) := by
  cases hq : P.info? ty with
  | none => simp [hq] at hi
  | some i =>
   have hs : i.size = us.length := by simpa [hq] using hi
   have e : vs.drop us.length = [] := List.drop_eq_nil_of_le (by omega)
   simp only [Nat.add_zero, Nat.zero_add, List.take_zero, List.nil_append, e, List.append_nil] at hst
   simp [storeVar, sizeOf, typeInfo, hq, Value.cells, hs, hst]
 unfold Oper.wp execOp
 simp only [ho, hx, hy, Instr.storeAt, Instr.sureAddr, Sem.run_bind, Sem.run_pure, Result.andThen_ok, hr]
 exact hK2 _ _ (hK _ (Wr.row _ _ _) ⟨t, setRow_heap w g _ _ t (0, 0) h⟩)
theorem wpList_store_at (hgd : op.guard = none) (ty : TypeId) (x y : Operand) (ho : op.op = .store ty x y) (g i : Nat) (vs : List Value) (u : Value)
 (hx : a.eval x = .pointer (some ⟨g, i, none⟩)) (hy : a.eval y = u) (h : RowV w g vs) (hlt : i < vs.length) (h1 : u.oneCell' = true) (hc : u.cells = #[u]) (hi : (P.info? ty).map (·.size) = some 1)
 (hK : ∀ w', Wr w w' g → RowV w' g (vs.set i u) → wpList P ops Q rest (a.put op.dst undef) w') : wpList P ops Q (op :: rest) a w := by
 obtain ⟨t, h⟩ := h
 refine wpList_plain hgd fun K hK2 => ?_
 have hst := run_storeCells_at P g i t [u] 0 _ w h (by simp; omega) (by simpa using h1)
 have hr : (storeVar ty ⟨g, i, none⟩ u).run P w = .ok () (w.setRow g (vs.set i u).toArray) := by
  cases hq : P.info? ty with
  | none => simp [hq] at hi
  | some i0 =>
   have hs : i0.size = 1 := by simpa [hq] using hi
   have e : vs.take i ++ u :: vs.drop (i + 1) = vs.set i u := (List.set_eq_take_append_cons_drop ..).trans (if_pos hlt) |>.symm
   simp only [Nat.add_zero] at hst
   simp [storeVar, sizeOf, typeInfo, hq, hc, hs, hst, e]
 unfold Oper.wp execOp
 simp only [ho, hx, hy, Instr.storeAt, Instr.sureAddr, Sem.run_bind, Sem.run_pure, Result.andThen_ok, hr]
 exact hK2 _ _ (hK _ (Wr.row _ _ _) ⟨t, setRow_heap w g _ _ t (0, 0) h⟩)
theorem wpList_load_v (hgd : op.guard = none) (ty : TypeId) (x : Operand) (ho : op.op = .load ty x) (g : Nat) (hx : a.eval x = .pointer (some ⟨g, 0, none⟩)) (vs : List Value) (d : TypeDesc)
 (h : RowV w g vs) (hu : P.underlying ty = some d) (hd : d.isRow = true) (hi : (P.info? ty).map (·.size) = some vs.length)
 (hK : wpList P ops Q rest (a.put op.dst (.agg vs.toArray)) w) : wpList P ops Q (op :: rest) a w :=
 wpList_load_mid hgd ty x ho g 0 hx vs d h.whole hu hd hi hK
theorem wp_alloc_v {K : Act → World → Prop} (ty : TypeId) (ho : op.op = .alloc ty) (zs : List Value)
 (hz : (P.info? ty).map (·.zero) = some (some (.agg zs.toArray)))
 (hK : ∀ g w', Fresh w w' g → RowV w' g zs → K (a.put op.dst (.pointer (some ⟨g, 0, none⟩))) w') : op.wp P a w K Q := by
 have hz2 : ∀ w, (zeroValue ty).run P w = .ok (.agg zs.toArray) w := by
  intro w
  cases hq : P.info? ty with
  | none => simp [hq] at hz
  | some i =>
   simp [hq] at hz
   simp [zeroValue, typeInfo, hq, hz]
 have hr : (Instr.alloc ty true (.tuple #[])).run P w = .ok (.pointer (some ⟨w.heap.size, 0, none⟩)) (w.alloc (.cells zs.toArray ty)) := by
  simp [Instr.alloc, Sem.run_bind, hz2, newVar, newRow, newObj, Value.cells]
  rfl
 unfold Oper.wp execOp
 simp only [ho, Sem.run_bind, hr, Result.andThen_ok]
 exact hK _ _ ⟨rfl, _, rfl⟩ (RowV.new (by simp))
theorem wp_store_v {K : Act → World → Prop} (ty : TypeId) (x y : Operand) (ho : op.op = .store ty x y) (g : Nat) (vs us : List Value)
 (hx : a.eval x = .pointer (some ⟨g, 0, none⟩)) (hy : a.eval y = .agg us.toArray) (h : RowV w g vs) (hl : us.length = vs.length) (h1 : ∀ u ∈ us, u.oneCell' = true) (hi : (P.info? ty).map (·.size) = some us.length)
 (hK : ∀ w', Wr w w' g → RowV w' g us → K (a.put op.dst undef) w') : op.wp P a w K Q := by
 obtain ⟨t, h⟩ := h
 have hst := run_storeCells_at P g 0 t us 0 _ w h (by simp; omega) h1
 have hr : (storeVar ty ⟨g, 0, none⟩ (.agg us.toArray)).run P w = .ok () (w.setRow g us.toArray) := by
  cases hq : P.info? ty with
  | none => simp [hq] at hi
  | some i =>
   have hs : i.size = us.length := by simpa [hq] using hi
   have e : vs.drop us.length = [] := List.drop_eq_nil_of_le (by omega)
   simp only [Nat.add_zero, Nat.zero_add, List.take_zero, List.nil_append, e, List.append_nil] at hst
   simp [storeVar, sizeOf, typeInfo, hq, Value.cells, hs, hst]
 unfold Oper.wp execOp
 simp only [ho, hx, hy, Instr.storeAt, Instr.sureAddr, Sem.run_bind, Sem.run_pure, Result.andThen_ok, hr]
 exact hK _ (Wr.row _ _ _) ⟨t, setRow_heap w g _ _ t (0, 0) h⟩
theorem wp_store_at {K : Act → World → Prop} (ty : TypeId) (x y : Operand) (ho : op.op = .store ty x y) (g i : Nat) (vs : List Value) (u : Value)
 (hx : a.eval x = .pointer (some ⟨g, i, none⟩)) (hy : a.eval y = u) (h : RowV w g vs) (hlt : i < vs.length) (h1 : u.oneCell' = true) (hc : u.cells = #[u]) (hi : (P.info? ty).map (·.size) = some 1)
 (hK : ∀ w', Wr w w' g → RowV w' g (vs.set i u) → K (a.put op.dst undef) w') : op.wp P a w K Q := by
 obtain ⟨t, h⟩ := h
 have hst := run_storeCells_at P g i t [u] 0 _ w h (by simp; omega) (by simpa using h1)
 have hr : (storeVar ty ⟨g, i, none⟩ u).run P w = .ok () (w.setRow g (vs.set i u).toArray) := by
  cases hq : P.info? ty with
  | none => simp [hq] at hi
  | some i0 =>
   have hs : i0.size = 1 := by simpa [hq] using hi
   have e : vs.take i ++ u :: vs.drop (i + 1) = vs.set i u := (List.set_eq_take_append_cons_drop ..).trans (if_pos hlt) |>.symm
   simp only [Nat.add_zero] at hst
   simp [storeVar, sizeOf, typeInfo, hq, hc, hs, hst, e]
 unfold Oper.wp execOp
 simp only [ho, hx, hy, Instr.storeAt, Instr.sureAddr, Sem.run_bind, Sem.run_pure, Result.andThen_ok, hr]
 exact hK _ (Wr.row _ _ _) ⟨t, setRow_heap w g _ _ t (0, 0) h⟩
end
section
variable {P : Program} {fn : Func} {p u v : Tmp} {ty : TypeId}
theorem results_v (h : fn.results = #[.cell p ty]) (tmps : Array Value) (w : World) (g : Nat) (vs : List Value) (d : TypeDesc)
 (hp : tmps.getD p undef = .pointer (some ⟨g, 0, none⟩)) (hg : RowV w g vs) (hu : P.underlying ty = some d) (hd : (match d with | .struct _ | .array _ _ => true | _ => false) = true) (hi : (P.info? ty).map (·.size) = some vs.length) : (results fn tmps).run P w = .ok (.agg vs.toArray) w := by
 obtain ⟨t, hg⟩ := hg
 exact results_cell_row h tmps w g t _ (0, 0) d hp hg hu hd (by simpa using hi)
theorem results_v1 (h : fn.results = #[.cell p ty, .tmp u]) (tmps : Array Value) (w : World) (g : Nat) (vs : List Value) (d : TypeDesc)
 (hp : tmps.getD p undef = .pointer (some ⟨g, 0, none⟩)) (hg : RowV w g vs) (hu : P.underlying ty = some d) (hd : (match d with | .struct _ | .array _ _ => true | _ => false) = true) (hi : (P.info? ty).map (·.size) = some vs.length) : (results fn tmps).run P w = .ok (.tuple #[.agg vs.toArray, tmps.getD u undef]) w := by
 obtain ⟨t, hg⟩ := hg
 have hp' : tmps[p]?.getD undef = .pointer (some ⟨g, 0, none⟩) := by simpa using hp
 rw [results_cell_tmp h]
 simp [hp', asAddr, run_loadVar_row w g t ty _ (0, 0) d hg hu hd (by simpa using hi), Result.andThen]
end
end Go.Proofs.YtibahbkjjfmbgaaGreatDoor
namespace Go.Proofs.YtibahbkjjfmbgaaGreatDoor
open Go.RowKit
theorem below_of_regrown {w w' : World} (h : ∃ p : Regrown, w' = Go.Sort.grow (redrawn w p.d) p.os) : Below w.heap.size w w' := by
 obtain ⟨p, rfl⟩ := h
 exact below_regrown w p.d p.os
theorem quiet_up {P : Program} {f : FuncId} {args : Array Value} {w : World} {v : Value} (h : ∀ w', Below w.heap.size w w' → Calls P f args w' fun e w'' => e = .returned v ∧ Below w'.heap.size w' w'') (d : Nat) (os : Array Obj) :
 Calls P f args (Go.Sort.grow (redrawn w d) os) fun e w'' => e = .returned v ∧ ∃ p : Regrown, w'' = Go.Sort.grow (redrawn w p.d) p.os :=
 Calls.regrown_of (h _ (below_regrown w d os))
theorem quiet_still {P : Program} {f : FuncId} {args : Array Value} {w : World} {v : Value} (h : ∀ w', Calls P f args w' fun e w'' => e = .returned v ∧ w' = w'') (d : Nat) (os : Array Obj) :
 Calls P f args (Go.Sort.grow (redrawn w d) os) fun e w'' => e = .returned v ∧ ∃ p : Regrown, w'' = Go.Sort.grow (redrawn w p.d) p.os :=
 (h _).mono fun _ _ ⟨he, hw⟩ => ⟨he, ⟨d, os⟩, hw.symm⟩
theorem RowV.quiet {w : World} {g k : Nat} {vs : List Value} {u : Value} (h : RowV w g vs) (hu : vs[k]? = some u) (d : Nat) (os : Array Obj) : (Go.Sort.grow (redrawn w d) os).cell? ⟨g, k, none⟩ = some u :=
 cell_regrown ((h.cell k).trans hu) d os
end Go.Proofs.YtibahbkjjfmbgaaGreatDoor
namespace Go.Proofs.YtibahbkjjfmbgaaGreatDoor
open Go.RowKit
set_option linter.unusedVariables false
def Own (w cur : World) (L : List (Nat × List Value)) : Prop :=
 Below w.heap.size w cur ∧ (∀ (i g : Nat) (vs : List Value), L[i]? = some (g, vs) → w.heap.size ≤ g ∧ RowV cur g vs) ∧ ∀ (i j g g' : Nat) (vs vs' : List Value), L[i]? = some (g, vs) → L[j]? = some (g', vs') → i ≠ j → g ≠ g'
section
variable {w cur cur' : World} {L : List (Nat × List Value)} {i g : Nat} {vs us : List Value}
theorem Own.start (w : World) : Own w w [] := ⟨Below.refl _ _, fun i g vs h => by simp at h, fun i j g g' vs vs' h => by simp at h⟩
theorem Own.bl (h : Own w cur L) : Below w.heap.size w cur := h.1
theorem Own.row (h : Own w cur L) (e : L[i]? = some (g, vs)) : RowV cur g vs := (h.2.1 i g vs e).2
theorem Own.ge (h : Own w cur L) (e : L[i]? = some (g, vs)) : w.heap.size ≤ g := (h.2.1 i g vs e).1
theorem Own.on (h : Own w cur L) (hb : Below cur.heap.size cur cur') : Own w cur' L :=
 ⟨below_on h.1 hb, fun i g vs e => ⟨h.ge e, (h.row e).on hb⟩, h.2.2⟩
theorem Own.new (h : Own w cur L) (hf : Fresh cur cur' g) (hr : RowV cur' g vs) : Own w cur' (L ++ [(g, vs)]) := by
 have hlt : ∀ (i g' : Nat) (vs' : List Value), L[i]? = some (g', vs') → g' ≠ g := fun i g' vs' e => (h.row e).ne hf
 refine ⟨hf.bl h.1, fun i g' vs' e => ?_, fun i j g1 g2 v1 v2 e1 e2 hne => ?_⟩
 · rw [List.getElem?_append] at e
   split at e
   · exact ⟨h.ge e, (h.row e).fresh hf⟩
   · have e' : g' = g ∧ vs' = vs := by
      rcases hk : i - L.length with _ | k
      · rw [hk] at e; simp at e; exact ⟨e.1.symm, e.2.symm⟩
      · rw [hk] at e; simp at e
     obtain ⟨rfl, rfl⟩ := e'
     exact ⟨hf.ge h.1, hr⟩
 · rw [List.getElem?_append] at e1 e2
   have key : ∀ (k : Nat) (x : Nat) (y : List Value), [(g, vs)][k]? = some (x, y) → k = 0 ∧ x = g := by
    intro k x y e
    rcases k with _ | k
    · simp at e; exact ⟨rfl, e.1.symm⟩
    · simp at e
   split at e1 <;> split at e2
   · exact h.2.2 i j g1 g2 v1 v2 e1 e2 hne
   · obtain ⟨_, rfl⟩ := key _ _ _ e2; exact hlt i g1 v1 e1
   · obtain ⟨_, rfl⟩ := key _ _ _ e1; exact (hlt j g2 v2 e2).symm
   · have := (key _ _ _ e1).1; have := (key _ _ _ e2).1; omega
theorem Own.set (h : Own w cur L) (e : L[i]? = some (g, vs)) (hw : Wr cur cur' g) (hr : RowV cur' g us) : Own w cur' (L.set i (g, us)) := by
 have hlt : i < L.length := (List.getElem?_eq_some_iff.1 e).1
 have key : ∀ (j x : Nat) (y : List Value), (L.set i (g, us))[j]? = some (x, y) → (j = i ∧ x = g ∧ y = us) ∨ (j ≠ i ∧ L[j]? = some (x, y)) := by
  intro j x y hj
  by_cases hji : j = i
  · subst hji
    rw [List.getElem?_set_self hlt] at hj
    injection hj with hj
    injection hj with h1 h2
    exact .inl ⟨rfl, h1.symm, h2.symm⟩
  · rw [List.getElem?_set_ne (Ne.symm hji)] at hj
    exact .inr ⟨hji, hj⟩
 refine ⟨Wr.bl h.1 hw (h.ge e), fun j g' vs' hj => ?_, fun j k g1 g2 v1 v2 e1 e2 hne => ?_⟩
 · rcases key j g' vs' hj with ⟨rfl, rfl, rfl⟩ | ⟨hne, hj⟩
   · exact ⟨h.ge e, hr⟩
   · exact ⟨h.ge hj, (h.row hj).wr hw (h.2.2 j i g' g vs' vs hj e hne)⟩
 · rcases key j g1 v1 e1 with ⟨rfl, rfl, rfl⟩ | ⟨hn1, f1⟩ <;> rcases key k g2 v2 e2 with ⟨rfl, rfl, rfl⟩ | ⟨hn2, f2⟩
   · exact absurd rfl hne
   · exact h.2.2 _ _ _ _ _ _ e f2 hne
   · exact h.2.2 _ _ _ _ _ _ f1 e hne
   · exact h.2.2 _ _ _ _ _ _ f1 f2 hne
theorem Own.far {row : Option Nat} (h : Own w cur L) (hg : cur.grownBy cur' row) (hr : ∀ r, row = some r → w.heap.size ≤ r) (hne : ∀ (i g : Nat) (vs : List Value), L[i]? = some (g, vs) → row ≠ some g) : Own w cur' L := by
 refine ⟨⟨hg.os.trans h.1.os, hg.tape.trans h.1.tape, hg.output.trans h.1.output, Nat.le_trans h.1.size hg.size, fun k hk => (hg.block k (Nat.lt_of_lt_of_le hk h.1.size) (fun e => ?_)).trans (h.1.block k hk)⟩, fun i g vs e => ⟨h.ge e, (h.row e).same (hg.block g (h.row e).lt (fun e1 => hne i g vs e e1.symm))⟩, h.2.2⟩
 have := hr k e.symm
 omega
end
theorem wpList_load_c {P : Program} {ops : Array Oper} {rest : List Oper} {op : Oper} {a : Act} {w : World} {Q : Exit → Act → World → Prop} (hgd : op.guard = none) (ty : TypeId) (x : Operand) (ho : op.op = .load ty x) (g k : Nat)
 (hx : a.eval x = .pointer (some ⟨g, k, none⟩)) (v : Value) (hc : w.cell? ⟨g, k, none⟩ = some v) (ha : ∀ w, (isAgg ty).run P w = .ok false w)
 (hK : wpList P ops Q rest (a.put op.dst v) w) : wpList P ops Q (op :: rest) a w := by
 refine wpList_plain hgd fun K hK2 => ?_
 have hr : (loadVar ty ⟨g, k, none⟩).run P w = .ok v w := by simp [loadVar, ha, hc, go_sem]
 unfold Oper.wp execOp
 simp only [ho, hx, Instr.loadAt, Instr.sureAddr, Sem.run_bind, Sem.run_pure, Result.andThen_ok, hr]
 exact hK2 _ _ hK
theorem wpList_load_part {P : Program} {ops : Array Oper} {rest : List Oper} {op : Oper} {a : Act} {w : World} {Q : Exit → Act → World → Prop} (hgd : op.guard = none) (ty : TypeId) (x : Operand) (ho : op.op = .load ty x) (g o : Nat) (hx : a.eval x = .pointer (some ⟨g, o, none⟩)) (vs : List Value) (n : Nat) (us : List Value) (d : TypeDesc)
 (h : RowV w g vs) (hn : o + n ≤ vs.length) (hus : (vs.drop o).take n = us) (hu : P.underlying ty = some d) (hd : d.isRow = true) (hi : (P.info? ty).map (·.size) = some us.length)
 (hK : wpList P ops Q rest (a.put op.dst (.agg us.toArray)) w) : wpList P ops Q (op :: rest) a w :=
 wpList_load_mid hgd ty x ho g o hx us d (by rw [← hus]; exact h.range o n hn) hu hd hi hK
theorem at_box_ {P : Program} {ops : Array Oper} {rest : List Oper} {a : Act} {w : World} {Q : Exit → Act → World → Prop} {d : Nat} {x : Operand} {ty t : TypeId} {ps : String} {af : Array Edge} {gd : Option (Nat × Bool)} (h : wpList P ops Q (⟨some d, .box ty x, t, ps, af, gd⟩ :: rest) a w) : wpList P ops Q (⟨some d, .box ty x, t, ps, af, gd⟩ :: rest) a w := h
theorem quiet_load_v {P : Program} {ops : Array Oper} {C : World → Prop} {Q : Act → Prop} {a : Act} {o : Oper} {rest : List Oper} (hw : Region.wanted o (yielded ops a.tmps) = true) (ty : TypeId) (x : Operand) (ho : o.op = .load ty x) (g : Nat) (hx : a.eval x = .pointer (some ⟨g, 0, none⟩)) (vs : List Value) (d : TypeDesc)
 (h : ∀ w, C w → RowV w g vs) (hu : P.underlying ty = some d) (hd : d.isRow = true) (hi : (P.info? ty).map (·.size) = some vs.length) (hK : wpQuiet P ops C Q rest (a.put o.dst (.agg vs.toArray))) : wpQuiet P ops C Q (o :: rest) a := by
 refine Go.BigFrame.wpQuiet_want hw fun K hKK => ?_
 refine ⟨_, fun w hc => ?_, hKK _ hK⟩
 have hr := run_loadVar_mid (P := P) w g 0 ty vs d (h w hc).whole hu hd hi
 unfold Oper.quietAt execOp
 simp only [ho, hx, Instr.loadAt, Instr.sureAddr, Sem.run_bind, Sem.run_pure, Result.andThen_ok, hr]
 exact ⟨rfl, rfl⟩
theorem at_qload_ {P : Program} {ops : Array Oper} {C : World → Prop} {Q : Act → Prop} {a : Act} {d : Nat} {rest : List Oper} {x : Operand} {ty t : TypeId} {ps : String} {af : Array Edge} {gd : Option (Nat × Bool)}
 (h : wpQuiet P ops C Q (⟨some d, .load ty x, t, ps, af, gd⟩ :: rest) a) : wpQuiet P ops C Q (⟨some d, .load ty x, t, ps, af, gd⟩ :: rest) a := h
theorem RowV.up {w : World} {g : Nat} {vs : List Value} (h : RowV w g vs) : ∀ w', (∃ p : Regrown, w' = Go.Sort.grow (redrawn w p.d) p.os) → RowV w' g vs := fun w' hw => h.on (below_of_regrown hw)
def brI : List Int := [0, 99, 1, 12, 1, 31]
def TabB (w : World) : Prop := 2 < w.heap.size ∧ ∀ k : Nat, k < 6 → w.cell? ⟨2, k, none⟩ = some (.int .i64 (brI.getD k 0))
def MaxC (w : World) : Prop := 3 < w.heap.size ∧ ∃ m : Int, w.cell? ⟨3, 0, none⟩ = some (.int .i64 m)
def Mm (w : World) : Prop := TabW w ∧ Tab w ∧ TabB w ∧ MaxC w
theorem cell_lt {w : World} {g k : Nat} {v : Value} (h : w.cell? ⟨g, k, none⟩ = some v) : g < w.heap.size := block_lt_of_cell h
theorem Mm.on {w w' : World} (h : Mm w) (hb : Below w.heap.size w w') : Mm w' := by
 obtain ⟨h1, h2, h3, h4, m, hm⟩ := h
 have hl := cell_lt h1.1
 refine ⟨⟨(hb.cell (p := ⟨4, 0, none⟩) hl).trans h1.1, (hb.cell (p := ⟨4, 1, none⟩) hl).trans h1.2.1, (hb.cell (p := ⟨4, 2, none⟩) hl).trans h1.2.2⟩, h2.on hb h2.1, ⟨Nat.lt_of_lt_of_le h3.1 hb.size, fun k hk => ?_⟩, Nat.lt_of_lt_of_le h4 hb.size, m, ?_⟩
 · exact (hb.cell (p := ⟨2, k, none⟩) h3.1).trans (h3.2 k hk)
 · exact (hb.cell (p := ⟨3, 0, none⟩) h4).trans hm
theorem Mm.own {w cur : World} {L : List (Nat × List Value)} (h : Mm w) (ho : Own w cur L) : Mm cur := h.on ho.1
end Go.Proofs.YtibahbkjjfmbgaaGreatDoor
