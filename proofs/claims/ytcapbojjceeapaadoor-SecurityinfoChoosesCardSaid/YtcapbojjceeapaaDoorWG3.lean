/-
  What is proved here: values that fill a block of memory of their own, whole: structs and arrays made, boxed, read, written and handed back by value. Nothing of the program is used.
-/
import Derived.Test.YtcapbojjceeapaaDoorWG1
import Derived.Laws.CopyOwn
import Derived.Laws.CopyRow
import Derived.Laws.Tables
import Derived.Laws.ResultCell
import Derived.Laws.Rows
import Derived.Deep.MidRow
import Derived.StillTailTactics
import Derived.Test.YtcapbojjceeapaaDoorWG2
import Derived.Test.YtcapbojjceeapaaDoorWG1b
import Derived.Test.YtcapbojjceeapaaDoorRows
namespace Go.Proofs.YtcapbojjceeapaaDoor
open Go.RowKit
set_option linter.unusedVariables false
def Fresh (w w' : World) (g : Nat) : Prop := g = w.heap.size ∧ ∃ o, w' = w.alloc o
def Wr (w w' : World) (g : Nat) : Prop := w'.os = w.os ∧ w'.tape = w.tape ∧ w'.output = w.output ∧ w'.heap.size = w.heap.size ∧ ∀ k, k ≠ g → w'.heap[k]? = w.heap[k]?
theorem Wr.row (w : World) (g : Nat) (cs : Array Value) : Wr w (w.setRow g cs) g := ⟨rfl, rfl, rfl, by simp, fun k h => setRow_other w g k cs h⟩
theorem Wr.cell (w : World) (a : Addr) (u : Value) : Wr w (w.setCell a u) a.block := ⟨rfl, rfl, rfl, by simp [World.setCell], fun k h => heap_setCell_other w a k u h⟩
section
variable {W w w' : World} {B g k : Nat}
theorem Fresh.bl (hb : Below W.heap.size W w) (hf : Fresh w w' g) : Below W.heap.size W w' := by
  obtain ⟨_, o, rfl⟩ := hf
  exact hb.alloc hb.size o
theorem Fresh.bw (hf : Fresh w w' g) : Below w.heap.size w w' := hf.bl (Below.refl _ _)
theorem Fresh.ge (hb : Below W.heap.size W w) (hf : Fresh w w' g) : W.heap.size ≤ g := by rw [hf.1]; exact hb.size
theorem Wr.bl (hb : Below B W w) (hw : Wr w w' g) (h : B ≤ g) : Below B W w' :=
  hb.trans ⟨hw.1, hw.2.1, hw.2.2.1, by rw [hw.2.2.2.1]; exact Nat.le_refl _, fun k hk => hw.2.2.2.2 k (by omega)⟩
theorem Fresh.wr_bl (hf : Fresh W w g) (hw : Wr w w' g) : Below W.heap.size W w' := Wr.bl (hf.bl (Below.refl _ _)) hw (hf.ge (Below.refl _ _))
end
def RowV (w : World) (g : Nat) (vs : List Value) : Prop := ∃ ty, w.heap[g]? = some (.cells vs.toArray ty (0, 0))
section
variable {w w' : World} {g : Nat} {vs : List Value}
theorem RowV.lt (h : RowV w g vs) : g < w.heap.size := by
  obtain ⟨ty, h⟩ := h
  exact (Array.getElem?_eq_some_iff.1 h).1
theorem RowV.same (h : RowV w g vs) (e : w'.heap[g]? = w.heap[g]?) : RowV w' g vs := by
  obtain ⟨ty, h⟩ := h
  exact ⟨ty, e.trans h⟩
theorem RowV.on (h : RowV w g vs) (hb : Below w.heap.size w w') : RowV w' g vs := h.same (hb.block g h.lt)
theorem RowV.cell (h : RowV w g vs) (k : Nat) : w.cell? ⟨g, k, none⟩ = vs[k]? := by
  obtain ⟨ty, h⟩ := h
  rw [cell_of_row w g k _ ty (0, 0) h, ← Array.getElem?_toList]
theorem RowV.set (h : RowV w g vs) (i : Nat) (v : Value) : RowV (w.setCell ⟨g, i, none⟩ v) g (vs.set i v) := by
  obtain ⟨ty, h⟩ := h
  refine ⟨ty, ?_⟩
  rw [heap_setCell_same w g i _ ty _ h]
  congr 2
  apply Array.ext'
  simp
theorem RowV.new {c : Array Value} {t : TypeId} (h : c.toList = vs) : RowV (w.alloc (.cells c t)) w.heap.size vs := by
  refine ⟨t, ?_⟩
  rw [heap_alloc_new]
  congr 2
  rw [← h]
theorem RowV.below {B : Nat} (h : RowV w g vs) (hb : Below B w w') (hg : g < B) : RowV w' g vs := h.same (hb.block g hg)
theorem RowV.fresh {k : Nat} (h : RowV w k vs) (hf : Fresh w w' g) : RowV w' k vs := h.on hf.bw
theorem RowV.ne {k : Nat} (h : RowV w k vs) (hf : Fresh w w' g) : k ≠ g := by have := h.lt; rw [hf.1]; omega
theorem RowV.wr {k : Nat} (h : RowV w k vs) (hw : Wr w w' g) (hne : k ≠ g) : RowV w' k vs := h.same (hw.2.2.2.2 k hne)
theorem RowV.drew (h : RowV w g vs) : RowV w.drew g vs := h
theorem RowV.drewN (h : RowV w g vs) (n : Nat) : RowV (w.drewN n) g vs := h
theorem RowV.range (h : RowV w g vs) (o n : Nat) (hn : o + n ≤ vs.length) : w.rangeAt g o ((vs.drop o).take n) := by
  intro j v hv
  rw [h.cell, ← hv]
  have hj : j < n := by
    have := (List.getElem?_eq_some_iff.1 hv).1
    rw [List.length_take] at this
    omega
  rw [List.getElem?_take, if_pos hj, List.getElem?_drop]
theorem RowV.whole (h : RowV w g vs) : w.rangeAt g 0 vs := by
  intro j v hv
  rw [h.cell, Nat.zero_add, hv]
end
section
variable {P : Program} {ops : Array Oper} {rest : List Oper} {op : Oper} {a : Act} {w : World} {Q : Exit → Act → World → Prop}
theorem at_alloc_ {d : Nat} {ty t : TypeId} {ps : String} {af : Array Edge} {gd : Option (Nat × Bool)} (h : wpList P ops Q (⟨some d, .alloc ty, t, ps, af, gd⟩ :: rest) a w) : wpList P ops Q (⟨some d, .alloc ty, t, ps, af, gd⟩ :: rest) a w := h
theorem at_load_ {d : Nat} {x : Operand} {ty t : TypeId} {ps : String} {af : Array Edge} {gd : Option (Nat × Bool)} (h : wpList P ops Q (⟨some d, .load ty x, t, ps, af, gd⟩ :: rest) a w) : wpList P ops Q (⟨some d, .load ty x, t, ps, af, gd⟩ :: rest) a w := h
theorem at_store_ {i : Nat} {y : Operand} {ty t : TypeId} {ps : String} {af : Array Edge} {gd : Option (Nat × Bool)} (h : wpList P ops Q (⟨none, .store ty (.tmp i) y, t, ps, af, gd⟩ :: rest) a w) : wpList P ops Q (⟨none, .store ty (.tmp i) y, t, ps, af, gd⟩ :: rest) a w := h
theorem wpList_alloc_v (hgd : op.guard = none) (ty : TypeId) (ho : op.op = .alloc ty) (zs : List Value)
    (hz : (P.info? ty).map (·.zero) = some (some (.agg zs.toArray)))
    (hK : ∀ g w', Fresh w w' g → RowV w' g zs → wpList P ops Q rest (a.put op.dst (.pointer (some ⟨g, 0, none⟩))) w') : wpList P ops Q (op :: rest) a w := by
  refine wpList_plain hgd fun K hK2 => ?_
  have hz2 : ∀ w, (zeroValue ty).run P w = .ok (.agg zs.toArray) w := by
    intro w
    cases hq : P.info? ty with
    | none => simp [hq] at hz
    | some i =>
      simp [hq] at hz
      simp [zeroValue, typeInfo, hq, hz]
  have hr : (Instr.alloc ty true (.tuple #[])).run P w = .ok (.pointer (some ⟨w.heap.size, 0, none⟩)) (w.alloc (.cells zs.toArray ty)) := by
    simp [Instr.alloc, Sem.run_bind, hz2, newVar, newRow, newObj, Value.cells]
    rfl
  unfold Oper.wp execOp
  simp only [ho, Sem.run_bind, hr, Result.andThen_ok]
  exact hK2 _ _ (hK _ _ ⟨rfl, _, rfl⟩ (RowV.new (by simp)))
theorem wpList_box_v (hgd : op.guard = none) (ty : TypeId) (x : Operand) (ho : op.op = .box ty x) (vs : List Value) (hx : a.eval x = .agg vs.toArray)
    (hK : ∀ g w', Fresh w w' g → RowV w' g vs → wpList P ops Q rest (a.put op.dst (.pointer (some ⟨g, 0, none⟩))) w') : wpList P ops Q (op :: rest) a w := by
  refine wpList_plain hgd fun K hK2 => ?_
  have hr : (Instr.box ty (.agg vs.toArray)).run P w = .ok (.pointer (some ⟨w.heap.size, 0, none⟩)) (w.alloc (.cells vs.toArray ty)) := by
    simp [Instr.box, newVar, newRow, newObj, Value.cells]
    rfl
  unfold Oper.wp execOp
  simp only [ho, hx, Sem.run_bind, hr, Result.andThen_ok]
  exact hK2 _ _ (hK _ _ ⟨rfl, _, rfl⟩ (RowV.new (by simp)))
theorem wpList_store_v (hgd : op.guard = none) (ty : TypeId) (x y : Operand) (ho : op.op = .store ty x y) (g : Nat) (vs us : List Value)
    (hx : a.eval x = .pointer (some ⟨g, 0, none⟩)) (hy : a.eval y = .agg us.toArray) (h : RowV w g vs) (hl : us.length = vs.length) (h1 : ∀ u ∈ us, u.oneCell' = true) (hi : (P.info? ty).map (·.size) = some us.length)
    (hK : ∀ w', Wr w w' g → RowV w' g us → wpList P ops Q rest (a.put op.dst undef) w') : wpList P ops Q (op :: rest) a w := by
  obtain ⟨t, h⟩ := h
  refine wpList_plain hgd fun K hK2 => ?_
  have hst := run_storeCells_at P g 0 t us 0 _ w h (by simp; omega) h1
  have hr : (storeVar ty ⟨g, 0, none⟩ (.agg us.toArray)).run P w = .ok () (w.setRow g us.toArray) := by
    cases hq : P.info? ty with
    | none => simp [hq] at hi
    | some i =>
      have hs : i.size = us.length := by simpa [hq] using hi
      have e : vs.drop us.length = [] := List.drop_eq_nil_of_le (by omega)
      simp only [Nat.add_zero, Nat.zero_add, List.take_zero, List.nil_append, e, List.append_nil] at hst
      simp [storeVar, sizeOf, typeInfo, hq, Value.cells, hs, hst]
  unfold Oper.wp execOp
  simp only [ho, hx, hy, Instr.storeAt, Instr.sureAddr, Sem.run_bind, Sem.run_pure, Result.andThen_ok, hr]
  exact hK2 _ _ (hK _ (Wr.row _ _ _) ⟨t, setRow_heap w g _ _ t (0, 0) h⟩)
theorem wpList_store_at (hgd : op.guard = none) (ty : TypeId) (x y : Operand) (ho : op.op = .store ty x y) (g i : Nat) (vs : List Value) (u : Value)
    (hx : a.eval x = .pointer (some ⟨g, i, none⟩)) (hy : a.eval y = u) (h : RowV w g vs) (hlt : i < vs.length) (h1 : u.oneCell' = true) (hc : u.cells = #[u]) (hi : (P.info? ty).map (·.size) = some 1)
    (hK : ∀ w', Wr w w' g → RowV w' g (vs.set i u) → wpList P ops Q rest (a.put op.dst undef) w') : wpList P ops Q (op :: rest) a w := by
  obtain ⟨t, h⟩ := h
  refine wpList_plain hgd fun K hK2 => ?_
  have hst := run_storeCells_at P g i t [u] 0 _ w h (by simp; omega) (by simpa using h1)
  have hr : (storeVar ty ⟨g, i, none⟩ u).run P w = .ok () (w.setRow g (vs.set i u).toArray) := by
    cases hq : P.info? ty with
    | none => simp [hq] at hi
    | some i0 =>
      have hs : i0.size = 1 := by simpa [hq] using hi
      have e : vs.take i ++ u :: vs.drop (i + 1) = vs.set i u := (List.set_eq_take_append_cons_drop ..).trans (if_pos hlt) |>.symm
      simp only [Nat.add_zero] at hst
      simp [storeVar, sizeOf, typeInfo, hq, hc, hs, hst, e]
  unfold Oper.wp execOp
  simp only [ho, hx, hy, Instr.storeAt, Instr.sureAddr, Sem.run_bind, Sem.run_pure, Result.andThen_ok, hr]
  exact hK2 _ _ (hK _ (Wr.row _ _ _) ⟨t, setRow_heap w g _ _ t (0, 0) h⟩)
theorem wpList_load_v (hgd : op.guard = none) (ty : TypeId) (x : Operand) (ho : op.op = .load ty x) (g : Nat) (hx : a.eval x = .pointer (some ⟨g, 0, none⟩)) (vs : List Value) (d : TypeDesc)
    (h : RowV w g vs) (hu : P.underlying ty = some d) (hd : d.isRow = true) (hi : (P.info? ty).map (·.size) = some vs.length)
    (hK : wpList P ops Q rest (a.put op.dst (.agg vs.toArray)) w) : wpList P ops Q (op :: rest) a w :=
  wpList_load_mid hgd ty x ho g 0 hx vs d h.whole hu hd hi hK
theorem exec_load_v (ty : TypeId) (x : Operand) (ho : op.op = .load ty x) (g : Nat) (hx : a.eval x = .pointer (some ⟨g, 0, none⟩)) (vs : List Value) (d : TypeDesc)
    (h : RowV w g vs) (hu : P.underlying ty = some d) (hd : d.isRow = true) (hi : (P.info? ty).map (·.size) = some vs.length) : (execOp a.eval op).run P w = .ok (.value (.agg vs.toArray)) w := by
  have hr := run_loadVar_mid (P := P) w g 0 ty vs d h.whole hu hd hi
  unfold execOp
  simp only [ho, hx, Instr.loadAt, Instr.sureAddr, Sem.run_bind, Sem.run_pure, Result.andThen_ok, hr]
theorem wp_alloc_v {K : Act → World → Prop} (ty : TypeId) (ho : op.op = .alloc ty) (zs : List Value)
    (hz : (P.info? ty).map (·.zero) = some (some (.agg zs.toArray)))
    (hK : ∀ g w', Fresh w w' g → RowV w' g zs → K (a.put op.dst (.pointer (some ⟨g, 0, none⟩))) w') : op.wp P a w K Q := by
  have hz2 : ∀ w, (zeroValue ty).run P w = .ok (.agg zs.toArray) w := by
    intro w
    cases hq : P.info? ty with
    | none => simp [hq] at hz
    | some i =>
      simp [hq] at hz
      simp [zeroValue, typeInfo, hq, hz]
  have hr : (Instr.alloc ty true (.tuple #[])).run P w = .ok (.pointer (some ⟨w.heap.size, 0, none⟩)) (w.alloc (.cells zs.toArray ty)) := by
    simp [Instr.alloc, Sem.run_bind, hz2, newVar, newRow, newObj, Value.cells]
    rfl
  unfold Oper.wp execOp
  simp only [ho, Sem.run_bind, hr, Result.andThen_ok]
  exact hK _ _ ⟨rfl, _, rfl⟩ (RowV.new (by simp))
theorem wp_store_v {K : Act → World → Prop} (ty : TypeId) (x y : Operand) (ho : op.op = .store ty x y) (g : Nat) (vs us : List Value)
    (hx : a.eval x = .pointer (some ⟨g, 0, none⟩)) (hy : a.eval y = .agg us.toArray) (h : RowV w g vs) (hl : us.length = vs.length) (h1 : ∀ u ∈ us, u.oneCell' = true) (hi : (P.info? ty).map (·.size) = some us.length)
    (hK : ∀ w', Wr w w' g → RowV w' g us → K (a.put op.dst undef) w') : op.wp P a w K Q := by
  obtain ⟨t, h⟩ := h
  have hst := run_storeCells_at P g 0 t us 0 _ w h (by simp; omega) h1
  have hr : (storeVar ty ⟨g, 0, none⟩ (.agg us.toArray)).run P w = .ok () (w.setRow g us.toArray) := by
    cases hq : P.info? ty with
    | none => simp [hq] at hi
    | some i =>
      have hs : i.size = us.length := by simpa [hq] using hi
      have e : vs.drop us.length = [] := List.drop_eq_nil_of_le (by omega)
      simp only [Nat.add_zero, Nat.zero_add, List.take_zero, List.nil_append, e, List.append_nil] at hst
      simp [storeVar, sizeOf, typeInfo, hq, Value.cells, hs, hst]
  unfold Oper.wp execOp
  simp only [ho, hx, hy, Instr.storeAt, Instr.sureAddr, Sem.run_bind, Sem.run_pure, Result.andThen_ok, hr]
  exact hK _ (Wr.row _ _ _) ⟨t, setRow_heap w g _ _ t (0, 0) h⟩
end
section
variable {P : Program} {fn : Func} {p u v : Tmp} {ty : TypeId}
theorem results_v (h : fn.results = #[.cell p ty]) (tmps : Array Value) (w : World) (g : Nat) (vs : List Value) (d : TypeDesc)
    (hp : tmps.getD p undef = .pointer (some ⟨g, 0, none⟩)) (hg : RowV w g vs) (hu : P.underlying ty = some d) (hd : (match d with | .struct _ | .array _ _ => true | _ => false) = true) (hi : (P.info? ty).map (·.size) = some vs.length) : (results fn tmps).run P w = .ok (.agg vs.toArray) w := by
  obtain ⟨t, hg⟩ := hg
  exact results_cell_row h tmps w g t _ (0, 0) d hp hg hu hd (by simpa using hi)
theorem results_v1 (h : fn.results = #[.cell p ty, .tmp u]) (tmps : Array Value) (w : World) (g : Nat) (vs : List Value) (d : TypeDesc)
    (hp : tmps.getD p undef = .pointer (some ⟨g, 0, none⟩)) (hg : RowV w g vs) (hu : P.underlying ty = some d) (hd : (match d with | .struct _ | .array _ _ => true | _ => false) = true) (hi : (P.info? ty).map (·.size) = some vs.length) : (results fn tmps).run P w = .ok (.tuple #[.agg vs.toArray, tmps.getD u undef]) w := by
  obtain ⟨t, hg⟩ := hg
  have hp' : tmps[p]?.getD undef = .pointer (some ⟨g, 0, none⟩) := by simpa using hp
  rw [results_cell_tmp h]
  simp [hp', asAddr, run_loadVar_row w g t ty _ (0, 0) d hg hu hd (by simpa using hi), Result.andThen]
end
def HoldsN (w : World) (p : Nat → Prop) : F → List Value → Prop
  | .nil, cs => cs = []
  | .cons t v k r, cs => ∃ Av cv Ak ck ks cs', cs = .int .i64 t :: .slice Av v.length cv :: .slice Ak k.len ck :: cs' ∧ ((Av = none → cv = 0) ∧ v.length ≤ cv ∧ k.len ≤ ck) ∧ SeesP w p Av (Us v) ∧ SeesP w p Ak ks ∧ HoldsN w p k ks ∧ HoldsN w p r cs'
def SeesN (w : World) (p : Nat → Prop) (A : Option Addr) (f : F) : Prop := ∃ cs, SeesP w p A cs ∧ HoldsN w p f cs
def F.drop : F → Nat → F
  | f, 0 => f
  | .nil, _ + 1 => .nil
  | .cons _ _ _ r, j + 1 => r.drop j
theorem F.drop_nil (j : Nat) : F.drop .nil j = .nil := by cases j <;> rfl
theorem F.drop_len : ∀ (f : F) (j : Nat), (f.drop j).len = f.len - j
  | f, 0 => by cases f <;> rfl
  | .nil, j + 1 => by simp [F.drop, F.len]
  | .cons _ _ _ r, j + 1 => by simp only [F.drop, F.len]; rw [F.drop_len r j]; omega
theorem F.drop_next : ∀ {f : F} {j : Nat} {t : Int} {v : List UInt8} {k r : F}, f.drop j = .cons t v k r → f.drop (j + 1) = r
  | .nil, j, _, _, _, _, h => by rw [F.drop_nil] at h; cases h
  | .cons _ _ _ q, 0, _, _, _, _, h => by cases h; cases q <;> rfl
  | .cons _ _ _ q, j + 1, _, _, _, _, h => by
    have h : q.drop j = _ := h
    exact F.drop_next (f := q) h
theorem F.drop_cons : ∀ {f : F} {j : Nat}, j < f.len → ∃ t v k, f.drop j = .cons t v k (f.drop (j + 1))
  | .nil, j, h => by simp [F.len] at h
  | .cons t v k r, 0, _ => ⟨t, v, k, by cases r <;> rfl⟩
  | .cons _ _ _ r, j + 1, h => by
    have h : j + 1 < r.len + 1 := h
    obtain ⟨t, v, k, e⟩ := F.drop_cons (f := r) (j := j) (by omega)
    exact ⟨t, v, k, e⟩
theorem F.drop_all (f : F) : f.drop f.len = .nil := F.len_zero (by rw [F.drop_len]; omega)
section
variable {w w' : World} {p p' : Nat → Prop} {A : Option Addr} {cs : List Value}
theorem HoldsN.holds : ∀ {f : F} {cs : List Value}, HoldsN w p f cs → HoldsP w p f cs
  | .nil, _, h => h
  | .cons _ _ _ _, _, ⟨Av, cv, Ak, ck, ks, cs', e, h0, h1, h2, h3, h4⟩ => ⟨Av, cv, Ak, ck, ks, cs', e, h0.1, h1, h2, HoldsN.holds h3, HoldsN.holds h4⟩
theorem HoldsN.keep (hk : ∀ q : Addr, p q.block → w'.cell? q = w.cell? q) : ∀ {f : F} {cs : List Value}, HoldsN w p f cs → HoldsN w' p f cs
  | .nil, _, h => h
  | .cons _ _ _ _, _, ⟨Av, cv, Ak, ck, ks, cs', e, h0, h1, h2, h3, h4⟩ => ⟨Av, cv, Ak, ck, ks, cs', e, h0, h1.keep hk, h2.keep hk, HoldsN.keep hk h3, HoldsN.keep hk h4⟩
theorem HoldsN.imp (hp : ∀ b, p b → p' b) : ∀ {f : F} {cs : List Value}, HoldsN w p f cs → HoldsN w p' f cs
  | .nil, _, h => h
  | .cons _ _ _ _, _, ⟨Av, cv, Ak, ck, ks, cs', e, h0, h1, h2, h3, h4⟩ => ⟨Av, cv, Ak, ck, ks, cs', e, h0, h1.imp hp, h2.imp hp, HoldsN.imp hp h3, HoldsN.imp hp h4⟩
theorem HoldsN.length {f : F} {cs : List Value} (h : HoldsN w p f cs) : cs.length = 3 * f.len := h.holds.length
theorem HoldsN.app : ∀ {f g : F} {cs ds : List Value}, HoldsN w p f cs → HoldsN w p g ds → HoldsN w p (f.app g) (cs ++ ds)
  | .nil, _, _, _, h, h' => by cases h; exact h'
  | .cons _ _ _ _, _, _, _, ⟨Av, cv, Ak, ck, ks, cs', e, h0, h1, h2, h3, h4⟩, h' => ⟨Av, cv, Ak, ck, ks, cs' ++ _, by rw [e]; rfl, h0, h1, h2, h3, HoldsN.app h4 h'⟩
theorem SeesN.keep {f : F} (h : SeesN w p A f) (hk : ∀ q : Addr, p q.block → w'.cell? q = w.cell? q) : SeesN w' p A f := by
  obtain ⟨cs, h1, h2⟩ := h
  exact ⟨cs, h1.keep hk, HoldsN.keep hk h2⟩
theorem SeesN.imp {f : F} (h : SeesN w p A f) (hp : ∀ b, p b → p' b) : SeesN w p' A f := by
  obtain ⟨cs, h1, h2⟩ := h
  exact ⟨cs, h1.imp hp, HoldsN.imp hp h2⟩
theorem SeesN.on {f : F} (h : SeesN w (· < w.heap.size) A f) (hb : Below w.heap.size w w') : SeesN w' (· < w'.heap.size) A f :=
  (h.keep fun _ hq => hb.cell hq).imp fun _ hb2 => Nat.lt_of_lt_of_le hb2 hb.size
theorem SeesN.nil_ : SeesN w p A .nil := ⟨[], .inl rfl, rfl⟩
theorem SeesP.on2 (h : SeesP w (· < w.heap.size) A cs) (hb : Below w.heap.size w w') : SeesP w' (· < w'.heap.size) A cs :=
  (h.keep fun _ hq => hb.cell hq).imp fun _ hb2 => Nat.lt_of_lt_of_le hb2 hb.size
theorem HoldsN.tail {t : Int} {v : List UInt8} {k r : F} (h : HoldsN w p (.cons t v k r) cs) : HoldsN w p r (cs.drop 3) := by
  obtain ⟨Av, cv, Ak, ck, ks, cs', e, _, _, _, _, h4⟩ := h
  rw [e]; exact h4
theorem HoldsN.drop : ∀ {f : F} {cs : List Value} (j : Nat), HoldsN w p f cs → HoldsN w p (f.drop j) (cs.drop (3 * j))
  | f, cs, 0, h => by cases f <;> simpa [F.drop] using h
  | .nil, cs, j + 1, h => by
    have h : cs = [] := h
    subst h
    simp [F.drop, HoldsN]
  | .cons _ _ _ r, cs, j + 1, h => by
    have h2 := HoldsN.drop j h.tail
    rw [List.drop_drop, show 3 + 3 * j = 3 * (j + 1) by omega] at h2
    exact h2
def nodV (t : Int) (Av : Option Addr) (lv cv : Nat) (Ak : Option Addr) (lk ck : Nat) : List Value := [.int .i64 t, .slice Av lv cv, .slice Ak lk ck]
theorem node_atN {f : F} {j : Nat} {t : Int} {v : List UInt8} {k r : F} (h : SeesN w p A f) (hg : f.drop j = .cons t v k r) :
    ∃ b off Av cv Ak ck, A = some ⟨b, off, none⟩ ∧ p b ∧ w.rangeAt b (off + j * 3) (nodV t Av v.length cv Ak k.len ck) ∧ (Av = none → cv = 0) ∧ v.length ≤ cv ∧ k.len ≤ ck ∧ SeesP w p Av (Us v) ∧ SeesN w p Ak k := by
  obtain ⟨cs, h1, h2⟩ := h
  have h3 := h2.drop j
  rw [hg] at h3
  obtain ⟨Av, cv, Ak, ck, ks, cs', e, h0, g1, g2, g3, g4⟩ := h3
  have hl : 3 * j + 2 < cs.length := by
    have := congrArg List.length e
    simp only [List.length_drop, List.length_cons] at this
    omega
  rcases h1 with h1 | ⟨b, off, rfl, hb, hc⟩
  · subst h1; simp at hl
  · refine ⟨b, off, Av, cv, Ak, ck, rfl, hb, fun i u hu => ?_, h0.1, h0.2.1, h0.2.2, g1, ks, g2, g3⟩
    have hi : i < 3 := by
      have := (List.getElem?_eq_some_iff.1 hu).1
      simpa [nodV] using this
    rw [show off + j * 3 + i = off + (3 * j + i) by omega, hc _ (by omega), ← List.getElem?_drop, e, ← hu]
    obtain rfl | rfl | rfl : i = 0 ∨ i = 1 ∨ i = 2 := by omega
    all_goals rfl
theorem SeesN.tail {t : Int} {v : List UInt8} {k r : F} {b o : Nat} (h : SeesN w p (some ⟨b, o, none⟩) (.cons t v k r)) : SeesN w p (some ⟨b, o + 3, none⟩) r := by
  obtain ⟨cs, h1, h2⟩ := h
  have hl := h2.length
  simp only [F.len] at hl
  refine ⟨cs.drop 3, ?_, h2.tail⟩
  rcases h1 with h1 | ⟨b', off, e, hb, hc⟩
  · subst h1; simp at hl
  · injection e with e
    injection e with e1 e2 _
    subst e1; subst e2
    refine .inr ⟨_, _, rfl, hb, fun j hj => ?_⟩
    rw [List.length_drop] at hj
    rw [Nat.add_assoc, hc _ (by omega), List.getElem?_drop]
theorem SeesN.none_nil {f : F} (h : SeesN w p none f) : f = .nil := by
  obtain ⟨cs, h1, h2⟩ := h
  have := h1.none_nil
  subst this
  have := h2.length
  exact F.len_zero (by simp at this; omega)
end
theorem rangeAt_bl {w w' : World} {B g o : Nat} {vs : List Value} (h : w.rangeAt g o vs) (hb : Below B w w') (hg : g < B) : w'.rangeAt g o vs := fun j v hv => (hb.cell (p := ⟨g, o + j, none⟩) hg).trans (h j v hv)
theorem rangeAt_on {w w' : World} {g o : Nat} {vs : List Value} (h : w.rangeAt g o vs) (hg : g < w.heap.size) (hb : Below w.heap.size w w') : w'.rangeAt g o vs := rangeAt_bl h hb hg
theorem newB_imp {w w1 w2 w3 : World} {b : Nat} (h : newB w1 w2 b) (h1 : w.heap.size ≤ w1.heap.size) (h2 : w2.heap.size ≤ w3.heap.size) : newB w w3 b := ⟨Nat.le_trans h1 h.1, Nat.lt_of_lt_of_le h.2 h2⟩
theorem newB_lt {w w' : World} {b : Nat} (h : newB w w' b) : b < w'.heap.size := h.2
theorem SeesN.newOn {w w1 w2 : World} {A : Option Addr} {f : F} (h : SeesN w1 (newB w w1) A f) (hb : Below w1.heap.size w1 w2) : SeesN w2 (newB w w2) A f :=
  (h.keep fun q hq => hb.cell hq.2).imp fun b h => ⟨h.1, Nat.lt_of_lt_of_le h.2 hb.size⟩
theorem SeesP.newOn {w w1 w2 : World} {A : Option Addr} {cs : List Value} (h : SeesP w1 (newB w w1) A cs) (hb : Below w1.heap.size w1 w2) : SeesP w2 (newB w w2) A cs :=
  (h.keep fun q hq => hb.cell hq.2).imp fun b h => ⟨h.1, Nat.lt_of_lt_of_le h.2 hb.size⟩
theorem SeesN.block {w w1 : World} {g : Nat} {f : F} {cs : List Value} (h : RowV w1 g cs) (hg : w.heap.size ≤ g) (hf : HoldsN w1 (newB w w1) f cs) : SeesN w1 (newB w w1) (some ⟨g, 0, none⟩) f :=
  ⟨cs, .inr ⟨g, 0, rfl, ⟨hg, h.lt⟩, fun j hj => by rw [Nat.zero_add, h.cell]⟩, hf⟩
def HeldN (w wr : World) (v : Value) (f : F) : Prop := ∃ cs, wr.ownsRow w.heap.size 54 3 v f.len cs ∧ HoldsN wr (fun b => newB w wr b ∧ v.ownBlock ≠ some b) f cs
theorem HeldN.start (w wr : World) : HeldN w wr (.slice none 0 0) .nil := ⟨[], ⟨rfl, .inl ⟨rfl, rfl⟩⟩, rfl⟩
theorem own3_on {a b : World} {base n s : Nat} {e : TypeId} {v : Value} {xs : List Value} (h : a.ownsRow base e s v n xs) (hb : Below a.heap.size a b) : b.ownsRow base e s v n xs := by
  rcases h with ⟨h1, h2⟩
  rcases h2 with ⟨rfl, rfl⟩ | ⟨g, cap, cur, rfl, hg, hh, h4, h5, h6, h7⟩
  · exact ⟨h1, .inl ⟨rfl, rfl⟩⟩
  · exact ⟨h1, .inr ⟨g, cap, cur, rfl, hg, (hb.block g (lt_of_block hh)).trans hh, h4, h5, h6, h7⟩⟩
theorem own_lt3 {w : World} {base : Nat} {e : TypeId} {s : Nat} {v : Value} {n : Nat} {xs : List Value} (h : w.ownsRow base e s v n xs) : ∀ g, v.ownBlock = some g → base ≤ g ∧ g < w.heap.size := by
  intro g e
  rcases h.2 with ⟨rfl, rfl⟩ | ⟨g', cap, cur, rfl, hb, hh, _⟩
  · cases e
  · have : g' = g := by simpa [Value.ownBlock] using e
    subst this
    exact ⟨hb, lt_of_block hh⟩
theorem HeldN.on {w wr w' : World} {v : Value} {f : F} (h : HeldN w wr v f) (hb : Below wr.heap.size wr w') : HeldN w w' v f := by
  obtain ⟨cs, h1, h2⟩ := h
  exact ⟨cs, own3_on h1 hb, HoldsN.imp (fun b h => ⟨⟨h.1.1, Nat.lt_of_lt_of_le h.1.2 hb.size⟩, h.2⟩) (HoldsN.keep (fun q hq => hb.cell hq.1.2) h2)⟩
theorem HeldN.slice {w wr : World} {v : Value} {f : F} (h : HeldN w wr v f) : ∃ A c, v = .slice A f.len c ∧ f.len ≤ c ∧ SeesN wr (newB w wr) A f := by
  obtain ⟨cs, h1, h2⟩ := h
  rcases h1.2 with ⟨rfl, h0⟩ | ⟨g, cap, cur, rfl, hb, hh, hn, hm, hs, ht⟩
  · have : f = .nil := F.len_zero h0
    subst this
    exact ⟨none, 0, rfl, Nat.le_refl _, SeesN.nil_⟩
  · refine ⟨_, cap, rfl, hn, cs, .inr ⟨g, 0, rfl, ⟨hb, lt_of_block hh⟩, fun j hj => ?_⟩, HoldsN.imp (fun _ hb => hb.1) h2⟩
    have hl := h1.1
    rw [Nat.zero_add, cell_of_row wr g j cur _ (0, 0) hh, ← ht, List.getElem?_take, if_pos (by omega), Array.getElem?_toList]
theorem HeldN.snoc {w wr w1 wa w2 : World} {v : Value} {f : F} {t : Int} {x : List UInt8} {k : F} {Av Ak : Option Addr} {cv ck g cap n : Nat} (h01 : Below wr.heap.size wr w1) (ha : Below w1.heap.size w1 wa)
    (hn0 : (Av = none → cv = 0) ∧ x.length ≤ cv ∧ k.len ≤ ck) (hv : SeesP w1 (newB wr w1) Av (Us x)) (hk : SeesN w1 (newB wr w1) Ak k) (hww : w.heap.size ≤ wr.heap.size)
    (cs : List Value) (hc1 : wr.ownsRow w.heap.size 54 3 v f.len cs) (hc2 : HoldsN wr (fun b => newB w wr b ∧ v.ownBlock ≠ some b) f cs) (hn : n = f.len + 1)
    (ho : w2.ownsRow w.heap.size 54 3 (.slice (some ⟨g, 0, none⟩) n cap) n (cs ++ [.int .i64 t, .slice Av x.length cv, .slice Ak k.len ck])) (hg : wa.grownBy w2 v.ownBlock)
    (hl : v.ownBlock = some g ∨ g = wa.heap.size) : HeldN w w2 (.slice (some ⟨g, 0, none⟩) n cap) (f.app (.cons t x k .nil)) := by
  subst hn
  have hold := own_lt3 hc1
  have keep : ∀ q : Addr, q.block < w1.heap.size → v.ownBlock ≠ some q.block → w2.cell? q = w1.cell? q := fun q h1 h2 =>
    (World.cell?_of_block (w := wa) (hg.block q.block (Nat.lt_of_lt_of_le h1 ha.size) (fun e => h2 e.symm))).trans (ha.cell h1)
  have hsz : w1.heap.size ≤ w2.heap.size := Nat.le_trans ha.size hg.size
  have hwa := ha.size
  have h01s := h01.size
  refine ⟨_, by rw [F.len_app]; exact ho, HoldsN.app ?_ ?_⟩
  · refine HoldsN.imp ?_ (HoldsN.keep (w' := w2) (fun q hq => (keep q (Nat.lt_of_lt_of_le hq.1.2 h01s) hq.2).trans (h01.cell hq.1.2)) hc2)
    intro b hb
    have h4 := hb.1.2
    refine ⟨⟨hb.1.1, by omega⟩, ?_⟩
    intro e
    injection e with e
    simp only at e
    rcases hl with h3 | h3
    · exact hb.2 (h3.trans (by rw [e]))
    · omega
  · have hp : ∀ b, newB wr w1 b → newB w w2 b ∧ (Value.slice (some ⟨g, 0, none⟩) (f.len + 1) cap).ownBlock ≠ some b := by
      intro b hb
      have h5 := hb.1
      have h6 := hb.2
      refine ⟨⟨by omega, by omega⟩, ?_⟩
      intro e
      injection e with e
      simp only at e
      rcases hl with h3 | h3
      · have := (hold g h3).2; omega
      · omega
    have kp : ∀ q : Addr, newB wr w1 q.block → w2.cell? q = w1.cell? q := by
      intro q hq
      refine keep q hq.2 ?_
      have h5 := hq.1
      intro e
      have := (hold _ e).2
      omega
    obtain ⟨ks, hk1, hk2⟩ := hk
    exact ⟨Av, cv, Ak, ck, ks, [], rfl, hn0, (hv.keep kp).imp hp, (hk1.keep kp).imp hp, HoldsN.imp hp (HoldsN.keep kp hk2), rfl⟩
end Go.Proofs.YtcapbojjceeapaaDoor
namespace Go.Proofs.YtcapbojjceeapaaDoor
open Go.RowKit
set_option maxRecDepth 8000
def encE (f : F) : Int := if chkE f 1 ≠ 0 then chkE f 1 else if 256 < f.size then 2 else if 4096 < encN f then 2 else 0
def encB (f : F) : List UInt8 := if encE f = 0 then enc f else []
theorem chkE_tags : ∀ {f : F} {d : Int}, chkE f d = 0 → f.tags
  | .nil, _, _ => trivial
  | .cons t v k r, d, h => by
    by_cases h1 : chk1 t v.length k.len d = 0
    · by_cases h2 : chkE k (d + 1) = 0
      · rw [chkE_3 h1 h2] at h
        refine ⟨?_, chkE_tags h2, chkE_tags h⟩
        cases hv : validB t
        · unfold chk1 at h1; rw [if_pos hv] at h1; omega
        · exact valid_range hv
      · rw [chkE_2 h1 h2] at h; omega
    · rw [chkE_1 h1] at h; omega
theorem encN_le : ∀ {f : F}, f.ok → encN f ≤ f.size * 140737488351300
  | .nil, _ => by simp [encN]
  | .cons t v k r, h => by
    obtain ⟨_, hv, hk, hr⟩ := h
    have h1 := encN_le hk
    have h2 := encN_le hr
    have h3 := tagN_le t
    have h4 := lb_le8 (v.length + encN k)
    simp only [encN, F.size]
    omega
def GivesN (w : World) (bs : List UInt8) (er : Int) (e : Ending) (w' : World) : Prop :=
  ∃ A c, e = .returned (.tuple #[.slice A bs.length c, .int .i64 er]) ∧ SeesP w' (fun b => w.heap.size ≤ b ∧ b < w'.heap.size) A (Us bs) ∧ Below w.heap.size w w' ∧ bs.length ≤ c
theorem new_of_own {w w' : World} {g k cap : Nat} {l : List UInt8} (ho : Out w' w.heap.size g k cap l) : SeesP w' (fun b => w.heap.size ≤ b ∧ b < w'.heap.size) (some ⟨g, 0, none⟩) (Us l) := by
  rcases Sees.of_own ho with h | ⟨b, o, e, hlt, hc⟩
  · exact .inl h
  · injection e with e
    injection e with e1 e2
    subst e1 e2
    exact .inr ⟨_, _, rfl, ho.lt _ rfl, hc⟩
theorem enc_fail {f : F} {x : Int} {w w' : World} (h : encE f = x) (hx : x ≠ 0) (hb : Below w.heap.size w w') : GivesN w (encB f) (encE f) (.returned (.tuple #[.slice none 0 0, .int .i64 x])) w' := by
  have : encB f = [] := by unfold encB; rw [h, if_neg hx]
  rw [this, h]
  exact ⟨none, 0, rfl, .inl rfl, hb, Nat.le_refl _⟩
theorem enc_done {f : F} {g : Nat} {w w' : World} (h : encE f = 0) (ho : Out w' w.heap.size g (encN f) (encN f) (enc f)) (hb : Below w.heap.size w w') :
    GivesN w (encB f) (encE f) (.returned (.tuple #[.slice (some ⟨g, 0, none⟩) (encN f) (encN f), .int .i64 0])) w' := by
  have : encB f = enc f := by unfold encB; rw [if_pos h]
  rw [this, h]
  refine ⟨_, encN f, by rw [enc_length], new_of_own ho, hb, by rw [enc_length]; exact Nat.le_refl _⟩
set_option maxHeartbeats 1000000 in
theorem tlv_encode_n (f : F) (A : Option Addr) (c : Nat) (w : World) (hsz : f.size < 1125899906842624) (hok : f.ok) (hs : SeesF w (· < w.heap.size) A f) :
    Calls Tryd.prog 28 #[.slice A f.len c] w (GivesN w (encB f) (encE f)) := by
  obtain ⟨i0, hi, hz0, hz1, hz2⟩ := info_parts info_u8b
  have hc := tlv_check 1125899906842624 f A c 1 w _ hsz (Nat.le_refl _) hok (by decide) (by decide) hs
  unfold ChkIs at hc
  obtain ⟨x, hx⟩ : ∃ x, x = chkE f 1 := ⟨_, rfl⟩
  rw [← hx] at hc
  by_cases h1 : x = 0
  · subst h1
    rw [if_pos rfl] at hc
    have HC := Lib.hid hc
    clear hc
    by_cases h2 : 256 < f.size
    · have hf := enc_fail (w := w) (w' := w) (show encE f = 2 by unfold encE; rw [if_neg (by omega), if_pos h2]) (by decide) (Below.refl _ _)
      have HF := Lib.hid hf
      have d1 : decide ((256 : Int) < (f.size : Int)) = true := by simp; omega
      clear hf h2 hx hs
      go_enter Tryd.func28, Tryd.ntmps28
      go_wp2_with (go_at_call 45; refine HC.out.mono ?_; rintro e w' ⟨rfl, rfl⟩)
      go_ret2
      exact HF.out
    · have d1 : decide ((256 : Int) < (f.size : Int)) = false := by simp; omega
      have hle := encN_le hok
      have hS := tlv_size 1125899906842624 (Nat.le_refl _) f A c w hsz hok (by omega) hs
      have HS := Lib.hid hS
      clear hS
      by_cases h3 : 4096 < encN f
      · have hf : ∀ w', Below w.heap.size w w' → GivesN w (encB f) (encE f) (.returned (.tuple #[.slice none 0 0, .int .i64 2])) w' := fun w' hb => enc_fail (show encE f = 2 by unfold encE; rw [if_neg (by omega), if_neg h2, if_pos h3]) (by decide) hb
        have HF := Lib.hid hf
        have d2 : decide ((4096 : Int) < (encN f : Int)) = true := by simp; omega
        clear hf h2 h3 hx hs hle
        go_enter Tryd.func28, Tryd.ntmps28
        go_wp2_with (first | (go_at_call 45; refine HC.out.mono ?_; rintro e w' ⟨rfl, rfl⟩) | (go_at_call 46; refine HS.out.mono ?_; rintro e w' ⟨rfl, hb⟩; have HB := Lib.hid hb; clear hb))
        go_ret2
        exact HF.out _ HB.out
      · have d2 : decide ((4096 : Int) < (encN f : Int)) = false := by simp; omega
        have hE : encE f = 0 := by unfold encE; rw [if_neg (by omega), if_neg h2, if_neg h3]
        have HA := Lib.hid (show f.ok ∧ f.tags ∧ encE f = 0 ∧ SeesF w (· < w.heap.size) A f from ⟨hok, chkE_tags hx.symm, hE, hs⟩)
        have h3 : encN f ≤ 4096 := by omega
        clear h2 hx hs hle hE hok
        go_enter Tryd.func28, Tryd.ntmps28
        go_wp2_with (first | (go_at_call 45; refine HC.out.mono ?_; rintro e w' ⟨rfl, rfl⟩) | (go_at_call 46; refine HS.out.mono ?_; rintro e w1 ⟨rfl, hb⟩; have HB := Lib.hid hb; clear hb) | (at_make; refine wpList_make_own _ rfl _ _ 23 rfl w'.heap.size 5 i0 (.int .u8 0) 1 Tryd.underlying23 hi hz0 hz1 _ _ _ (encN f) rfl rfl (by simp) (by rw [hz2]; omega) (by unfold maxLen; omega) HB.out.size ?_; intro w2 hown hgrow))
        have hb2 := HB.out.grown hgrow HB.out.size (by simp)
        have hA := app_list 1125899906842624 (Nat.le_refl _) f A c w'.heap.size w1.heap.size 0 (encN f) [] w2 hsz HA.out.1 HA.out.2.1 h3 (HA.out.2.2.2.keep fun _ hq => hb2.cell hq) hb2.size hown (by omega)
        rw [Nat.zero_add, List.nil_append] at hA
        refine hA.mono ?_
        rintro e w3 ⟨rfl, ho, hg⟩
        have hd := enc_done HA.out.2.2.1 ho (hb2.grown hg hb2.size (by intro k hk; injection hk with hk; rw [← hk]; exact HB.out.size))
        have HD := Lib.hid hd
        clear hd ho hg hA hb2 hown hgrow
        go_wp2_with fail
        go_ret2
        exact HD.out
  · rw [if_neg h1] at hc
    have HC := Lib.hid hc
    have hf := enc_fail (w := w) (w' := w) (show encE f = x by unfold encE; rw [if_pos (by omega)]; exact hx.symm) h1 (Below.refl _ _)
    have HF := Lib.hid hf
    have d1 : (x != 0) = true := by simpa using h1
    clear hc h1 hx hf hs
    go_enter Tryd.func28, Tryd.ntmps28
    go_wp2_with (go_at_call 45; refine HC.out.mono ?_; rintro e w' ⟨rfl, rfl⟩)
    go_ret2
    exact HF.out
set_option maxRecDepth 8000
def Lists (w : World) (B : Nat) (vs : List Value) (ls : List (List UInt8)) : Prop :=
  vs.length = ls.length ∧ ∀ (i : Nat) (l : List UInt8), ls[i]? = some l → ∃ (A : Option Addr) (c : Nat), vs[i]? = some (Value.slice A l.length c) ∧ Sees w B A (Us l)
def SeesL (w : World) (B : Nat) (A : Option Addr) (ls : List (List UInt8)) : Prop := ∃ vs, Sees w B A vs ∧ Lists w B vs ls
theorem Lists.below {w w' : World} {B : Nat} {vs : List Value} {ls : List (List UInt8)} (h : Lists w B vs ls) (hb : Below B w w') : Lists w' B vs ls :=
  ⟨h.1, fun i l hl => by obtain ⟨A, c, hv, hs⟩ := h.2 i l hl; exact ⟨A, c, hv, hs.below hb⟩⟩
theorem Lists.more {w : World} {B B' : Nat} {vs : List Value} {ls : List (List UInt8)} (h : Lists w B vs ls) (hB : B ≤ B') : Lists w B' vs ls :=
  ⟨h.1, fun i l hl => by obtain ⟨A, c, hv, hs⟩ := h.2 i l hl; exact ⟨A, c, hv, hs.more hB⟩⟩
theorem SeesL.on {w w' : World} {A : Option Addr} {ls : List (List UInt8)} (h : SeesL w w.heap.size A ls) (hb : Below w.heap.size w w') : SeesL w' w'.heap.size A ls := by
  obtain ⟨vs, h1, h2⟩ := h
  exact ⟨vs, h1.on hb, (h2.below hb).more hb.size⟩
theorem SeesL.nil_ {w : World} {B : Nat} {A : Option Addr} : SeesL w B A [] := ⟨[], .inl rfl, rfl, fun i l h => by simp at h⟩
def Owned (w : World) (base : Nat) (e : TypeId) (vs : List Value) (ls : List (List UInt8)) : Prop :=
  vs.length = ls.length ∧ ∀ (i : Nat) (l : List UInt8), ls[i]? = some l → ∃ (A : Option Addr) (c : Nat), vs[i]? = some (Value.slice A l.length c) ∧ w.ownsRow base e 1 (.slice A l.length c) l.length (Us l)
theorem Owned.nil_ {w : World} {base : Nat} {e : TypeId} : Owned w base e [] [] := ⟨rfl, fun i l h => by simp at h⟩
theorem own_apart {w : World} {base base' : Nat} {e e' : TypeId} {v v' : Value} {n n' : Nat} {xs xs' : List Value} (h : w.ownsRow base e 1 v n xs) (h' : w.ownsRow base' e' 1 v' n' xs') (hne : e ≠ e') :
    v.ownBlock = none ∨ v.ownBlock ≠ v'.ownBlock := by
  rcases h.2 with ⟨rfl, _⟩ | ⟨g, cap, cur, rfl, _, hh, _⟩
  · left; rfl
  · right
    rcases h'.2 with ⟨rfl, _⟩ | ⟨g', cap', cur', rfl, _, hh', _⟩
    · simp [Value.ownBlock]
    · intro he
      have : g = g' := by simpa [Value.ownBlock] using he
      subst this
      rw [hh] at hh'
      injection hh' with hh'
      injection hh' with _ ht
      exact hne ht
theorem Owned.kept {w w' : World} {base base' : Nat} {e e' : TypeId} {vs : List Value} {ls : List (List UInt8)} {v' : Value} {n' : Nat} {xs' : List Value} (h : Owned w base e vs ls) (h' : w.ownsRow base' e' 1 v' n' xs') (hne : e ≠ e')
    (hg : w.grownBy w' v'.ownBlock) : Owned w' base e vs ls :=
  ⟨h.1, fun i l hl => by obtain ⟨A, c, hv, hs⟩ := h.2 i l hl; exact ⟨A, c, hv, hs.kept hg (own_apart hs h' hne)⟩⟩
theorem Owned.alloc {w : World} {base : Nat} {e : TypeId} {vs : List Value} {ls : List (List UInt8)} (h : Owned w base e vs ls) (o : Obj) : Owned (w.alloc o) base e vs ls :=
  ⟨h.1, fun i l hl => by obtain ⟨A, c, hv, hs⟩ := h.2 i l hl; exact ⟨A, c, hv, hs.alloc o⟩⟩
theorem Owned.new {w w' : World} {base : Nat} {e : TypeId} {vs : List Value} {ls : List (List UInt8)} (h : Owned w base e vs ls) (hg : w.grownBy w' none) : Owned w' base e vs ls :=
  ⟨h.1, fun i l hl => by
    obtain ⟨A, c, hv, hs⟩ := h.2 i l hl
    refine ⟨A, c, hv, hs.kept hg ?_⟩
    rcases hs.2 with ⟨h0, _⟩ | ⟨g, cap, cur, h0, _⟩
    · left; rw [h0]; rfl
    · right; rw [h0]; simp [Value.ownBlock]⟩
theorem Owned.snoc {w : World} {base : Nat} {e : TypeId} {vs : List Value} {ls : List (List UInt8)} {A : Option Addr} {c : Nat} {l : List UInt8} (h : Owned w base e vs ls) (hs : w.ownsRow base e 1 (.slice A l.length c) l.length (Us l)) :
    Owned w base e (vs ++ [Value.slice A l.length c]) (ls ++ [l]) := by
  refine ⟨by simp [h.1], fun i l' hl => ?_⟩
  rw [List.getElem?_append] at hl ⊢
  rw [h.1]
  split at hl
  · rename_i hlt
    rw [if_pos hlt]
    exact h.2 i l' hl
  · rename_i hlt
    rw [if_neg hlt]
    have h0 : i - ls.length = 0 := by
      have := (List.getElem?_eq_some_iff.1 hl).1
      simpa using this
    rw [h0] at hl ⊢
    simp at hl
    subst hl
    exact ⟨A, c, by simp, hs⟩
theorem wpList_copy_fill {P : Program} {w : World} {ops : Array Oper} {rest : List Oper} {o : Oper} {a : Act} {Q : Exit → Act → World → Prop} (hgd : o.guard = none) (d s : Operand) (dT sT : TypeId)
    (ho : o.op = .call { callee := .builtin .copy, args := #[d, s], argTypes := #[dT, sT] }) (elem : TypeId) (hu : P.underlying dT = some (.slice elem)) (hsz : (P.info? elem).map (·.size) = some 1)
    (base g n cap : Nat) (xs : List Value) (hd : a.eval d = .slice (some ⟨g, 0, none⟩) n cap) (hown : w.ownsRow base elem 1 (.slice (some ⟨g, 0, none⟩) n cap) n xs)
    (A : Option Addr) (sLen sCap B : Nat) (ss : List Value) (hs : a.eval s = .slice A sLen sCap) (hl : ss.length = sLen) (hsees : Sees w B A ss) (h1 : ∀ v ∈ ss, v.oneCell' = true)
    (hK : ∀ w', w'.ownsRow base elem 1 (.slice (some ⟨g, 0, none⟩) n cap) n (ss.take n ++ xs.drop ss.length) → w.grownBy w' (some g) → wpList P ops Q rest (a.put o.dst (goInt (Nat.min sLen n))) w') :
    wpList P ops Q (o :: rest) a w := by
  subst hl
  have hxl : xs.length = n := by simpa using hown.1
  by_cases h0 : Nat.min ss.length n = 0
  · refine wpList_copy_nothing hgd d s dT sT ho elem hu hsz _ _ n cap ss.length sCap hd hs h0 ?_
    have h0' : ss.take n = [] ∧ xs.drop ss.length = xs := by
      rcases Nat.eq_zero_or_pos n with rfl | hn
      · have : xs = [] := List.eq_nil_of_length_eq_zero hxl
        subst this; simp
      · have : ss.length = 0 := by
          have h := h0
          simp only [Nat.min_def] at h
          split at h <;> omega
        have : ss = [] := List.eq_nil_of_length_eq_zero this
        subst this; simp
    have h := hK w (by rw [h0'.1, h0'.2]; exact hown) (World.grownBy.refl _ _)
    rw [h0] at h
    exact h
  · obtain ⟨m, hm⟩ : ∃ m, Nat.min ss.length n = m := ⟨_, rfl⟩
    have hm1 : m ≤ n := by rw [← hm]; exact Nat.min_le_right _ _
    have hm2 : m ≤ ss.length := by rw [← hm]; exact Nat.min_le_left _ _
    have hm3 : m = n ∨ m = ss.length := by
      rw [← hm]; simp only [Nat.min_def]; split
      · right; rfl
      · left; rfl
    have hpos : 0 < ss.length := by omega
    have hcl : (ss.take n).length = m := by rw [List.length_take]; omega
    obtain ⟨b, off, rfl, hb, hc⟩ := hsees.at_ (k := 0) hpos
    rcases hown.2 with ⟨h', _⟩ | ⟨g', cap', cur, h', hbg, hg, hnc, hcm, hcs, htake⟩
    · simp at h'
    · simp only [Value.slice.injEq, Option.some.injEq, Addr.mk.injEq, and_true, true_and] at h'
      obtain ⟨rfl, rfl⟩ := h'
      have hcs' : cur.toList.length = cap := by rw [Array.length_toList, hcs, Nat.mul_one]
      have hx : xs = cur.toList.take n := by rw [← htake, Nat.mul_one]
      refine wpList_copy_own hgd d s dT sT ho elem hu hsz g 0 n cap ⟨b, off, none⟩ ss.length sCap hd hs cur elem hg (ss.take n) (by rw [hcl]; exact hm.symm) ?_ (by rw [hcl, hcs]; omega) (fun v hv => h1 v (List.mem_of_mem_take hv)) ?_
      · intro j v hj
        rw [List.getElem?_take] at hj
        split at hj
        · have hjl : j < ss.length := (List.getElem?_eq_some_iff.1 hj).1
          have hadd : (⟨b, off, none⟩ : Addr).add j = ⟨b, off + j, none⟩ := by unfold Addr.add; split <;> simp_all
          rw [hadd, hc j hjl, hj]
        · cases hj
      · rw [hcl]
        rw [hm] at hK
        refine hK _ ?_ ⟨rfl, rfl, rfl, by simp [World.setRow], fun k _ hk => setRow_other w g k _ (fun e => hk (by simp [e]))⟩
        have hlen : (ss.take n ++ xs.drop ss.length).length = n := by
          rw [List.length_append, hcl, List.length_drop, hxl]; omega
        refine ⟨by simpa using hlen, .inr ⟨g, cap, _, rfl, hbg, setRow_heap w g cur _ elem _ hg, hnc, hcm, ?_, ?_⟩⟩
        · simp only [List.take_zero, List.nil_append, List.size_toArray, List.length_append, List.length_drop, hcl, Nat.zero_add, Nat.mul_one]
          omega
        · simp only [List.take_zero, List.nil_append, Nat.mul_one, Nat.zero_add]
          rw [hx]
          rcases hm3 with e | e
          · rw [List.take_append_of_le_length (by omega), List.take_of_length_le (by omega)]
            have : (cur.toList.take n).drop ss.length = [] := List.drop_eq_nil_of_le (by rw [List.length_take]; omega)
            rw [this, List.append_nil]
          · have e2 : ss.take n = ss := List.take_of_length_le (by omega)
            rw [e2, e, List.take_append, List.take_of_length_le (by omega), List.drop_take]
end Go.Proofs.YtcapbojjceeapaaDoor
