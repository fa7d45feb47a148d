/-
  What is proved here: values that fill a block of memory of their own, whole: structs and arrays made, boxed, read, written and handed back by value. Nothing of the program is used.
-/
import Derived.Test.YtkgfdbbdmchmeaaDoorZ0
import Derived.Laws.CopyOwn
import Derived.Laws.CopyRow
import Derived.Laws.Tables
import Derived.Laws.ResultCell
import Derived.Laws.Rows
import Derived.Deep.MidRow
import Derived.StillTailTactics
import Derived.Laws.AppendOwnNone
import Derived.Deep.AppendLies
import Derived.Test.YtkgfdbbdmchmeaaDoorRows
namespace Go.Proofs.YtkgfdbbdmchmeaaDoor
open Go.RowKit
set_option linter.unusedVariables false
def Fresh (w w' : World) (g : Nat) : Prop := g = w.heap.size ∧ ∃ o, w' = w.alloc o
def Wr (w w' : World) (g : Nat) : Prop := w'.os = w.os ∧ w'.tape = w.tape ∧ w'.output = w.output ∧ w'.heap.size = w.heap.size ∧ ∀ k, k ≠ g → w'.heap[k]? = w.heap[k]?
theorem Wr.row (w : World) (g : Nat) (cs : Array Value) : Wr w (w.setRow g cs) g := ⟨rfl, rfl, rfl, by simp, fun k h => setRow_other w g k cs h⟩
theorem Wr.cell (w : World) (a : Addr) (u : Value) : Wr w (w.setCell a u) a.block := ⟨rfl, rfl, rfl, by simp [World.setCell], fun k h => heap_setCell_other w a k u h⟩
section
variable {W w w' : World} {B g k : Nat}
theorem Fresh.bl (hb : Below W.heap.size W w) (hf : Fresh w w' g) : Below W.heap.size W w' := by
  obtain ⟨_, o, rfl⟩ := hf
  exact hb.alloc hb.size o
theorem Fresh.bw (hf : Fresh w w' g) : Below w.heap.size w w' := hf.bl (Below.refl _ _)
theorem Fresh.ge (hb : Below W.heap.size W w) (hf : Fresh w w' g) : W.heap.size ≤ g := by rw [hf.1]; exact hb.size
theorem Wr.bl (hb : Below B W w) (hw : Wr w w' g) (h : B ≤ g) : Below B W w' :=
  hb.trans ⟨hw.1, hw.2.1, hw.2.2.1, by rw [hw.2.2.2.1]; exact Nat.le_refl _, fun k hk => hw.2.2.2.2 k (by omega)⟩
end
def RowV (w : World) (g : Nat) (vs : List Value) : Prop := ∃ ty, w.heap[g]? = some (.cells vs.toArray ty (0, 0))
section
variable {w w' : World} {g : Nat} {vs : List Value}
theorem RowV.lt (h : RowV w g vs) : g < w.heap.size := by
  obtain ⟨ty, h⟩ := h
  exact (Array.getElem?_eq_some_iff.1 h).1
theorem RowV.same (h : RowV w g vs) (e : w'.heap[g]? = w.heap[g]?) : RowV w' g vs := by
  obtain ⟨ty, h⟩ := h
  exact ⟨ty, e.trans h⟩
theorem RowV.on (h : RowV w g vs) (hb : Below w.heap.size w w') : RowV w' g vs := h.same (hb.block g h.lt)
theorem RowV.cell (h : RowV w g vs) (k : Nat) : w.cell? ⟨g, k, none⟩ = vs[k]? := by
  obtain ⟨ty, h⟩ := h
  rw [cell_of_row w g k _ ty (0, 0) h, ← Array.getElem?_toList]
theorem RowV.set (h : RowV w g vs) (i : Nat) (v : Value) : RowV (w.setCell ⟨g, i, none⟩ v) g (vs.set i v) := by
  obtain ⟨ty, h⟩ := h
  refine ⟨ty, ?_⟩
  rw [heap_setCell_same w g i _ ty _ h]
  congr 2
  apply Array.ext'
  simp
theorem RowV.new {c : Array Value} {t : TypeId} (h : c.toList = vs) : RowV (w.alloc (.cells c t)) w.heap.size vs := by
  refine ⟨t, ?_⟩
  rw [heap_alloc_new]
  congr 2
  rw [← h]
theorem RowV.below {B : Nat} (h : RowV w g vs) (hb : Below B w w') (hg : g < B) : RowV w' g vs := h.same (hb.block g hg)
theorem RowV.fresh {k : Nat} (h : RowV w k vs) (hf : Fresh w w' g) : RowV w' k vs := h.on hf.bw
theorem RowV.ne {k : Nat} (h : RowV w k vs) (hf : Fresh w w' g) : k ≠ g := by have := h.lt; rw [hf.1]; omega
theorem RowV.wr {k : Nat} (h : RowV w k vs) (hw : Wr w w' g) (hne : k ≠ g) : RowV w' k vs := h.same (hw.2.2.2.2 k hne)
theorem RowV.drew (h : RowV w g vs) : RowV w.drew g vs := h
theorem RowV.drewN (h : RowV w g vs) (n : Nat) : RowV (w.drewN n) g vs := h
theorem RowV.range (h : RowV w g vs) (o n : Nat) (hn : o + n ≤ vs.length) : w.rangeAt g o ((vs.drop o).take n) := by
  intro j v hv
  rw [h.cell, ← hv]
  have hj : j < n := by
    have := (List.getElem?_eq_some_iff.1 hv).1
    rw [List.length_take] at this
    omega
  rw [List.getElem?_take, if_pos hj, List.getElem?_drop]
end
theorem wpList_make_v {P : Program} {ops : Array Oper} {rest : List Oper} {op : Oper} {a : Act} {w : World} {Q : Exit → Act → World → Prop} (hgd : op.guard = none) (ty : TypeId) (x y : Operand) (ho : op.op = .makeSlice ty x y) (vx vy : Value) (hx : a.eval x = vx) (hy : a.eval y = vy)
    (vs : List Value) (n : Nat) (e : TypeId) (hm : (Instr.makeSlice ty vx vy).run P w = .ok (.slice (some ⟨w.heap.size, 0, none⟩) n n) (w.alloc (.cells vs.toArray e)))
    (hK : ∀ g w', Fresh w w' g → RowV w' g vs → wpList P ops Q rest (a.put op.dst (.slice (some ⟨g, 0, none⟩) n n)) w') : wpList P ops Q (op :: rest) a w := by
  refine wpList_plain hgd fun K hK2 => ?_
  unfold Oper.wp execOp
  simp only [ho, hx, hy, Sem.run_bind, hm, Result.andThen_ok]
  exact hK2 _ _ (hK _ _ ⟨rfl, _, rfl⟩ (RowV.new (by simp)))
section
variable {P : Program} {ops : Array Oper} {rest : List Oper} {op : Oper} {a : Act} {w : World} {Q : Exit → Act → World → Prop}
theorem at_alloc_ {d : Nat} {ty t : TypeId} {ps : String} {af : Array Edge} {gd : Option (Nat × Bool)} (h : wpList P ops Q (⟨some d, .alloc ty, t, ps, af, gd⟩ :: rest) a w) : wpList P ops Q (⟨some d, .alloc ty, t, ps, af, gd⟩ :: rest) a w := h
theorem at_load_ {d : Nat} {x : Operand} {ty t : TypeId} {ps : String} {af : Array Edge} {gd : Option (Nat × Bool)} (h : wpList P ops Q (⟨some d, .load ty x, t, ps, af, gd⟩ :: rest) a w) : wpList P ops Q (⟨some d, .load ty x, t, ps, af, gd⟩ :: rest) a w := h
theorem at_store_ {i : Nat} {y : Operand} {ty t : TypeId} {ps : String} {af : Array Edge} {gd : Option (Nat × Bool)} (h : wpList P ops Q (⟨none, .store ty (.tmp i) y, t, ps, af, gd⟩ :: rest) a w) : wpList P ops Q (⟨none, .store ty (.tmp i) y, t, ps, af, gd⟩ :: rest) a w := h
theorem wpList_alloc_v (hgd : op.guard = none) (ty : TypeId) (ho : op.op = .alloc ty) (zs : List Value)
    (hz : (P.info? ty).map (·.zero) = some (some (.agg zs.toArray)))
    (hK : ∀ g w', Fresh w w' g → RowV w' g zs → wpList P ops Q rest (a.put op.dst (.pointer (some ⟨g, 0, none⟩))) w') : wpList P ops Q (op :: rest) a w := by
  refine wpList_plain hgd fun K hK2 => ?_
  have hz2 : ∀ w, (zeroValue ty).run P w = .ok (.agg zs.toArray) w := by
    intro w
    cases hq : P.info? ty with
    | none => simp [hq] at hz
    | some i =>
      simp [hq] at hz
      simp [zeroValue, typeInfo, hq, hz]
  have hr : (Instr.alloc ty true (.tuple #[])).run P w = .ok (.pointer (some ⟨w.heap.size, 0, none⟩)) (w.alloc (.cells zs.toArray ty)) := by
    simp [Instr.alloc, Sem.run_bind, hz2, newVar, newRow, newObj, Value.cells]
    rfl
  unfold Oper.wp execOp
  simp only [ho, Sem.run_bind, hr, Result.andThen_ok]
  exact hK2 _ _ (hK _ _ ⟨rfl, _, rfl⟩ (RowV.new (by simp)))
theorem wpList_box_v (hgd : op.guard = none) (ty : TypeId) (x : Operand) (ho : op.op = .box ty x) (vs : List Value) (hx : a.eval x = .agg vs.toArray)
    (hK : ∀ g w', Fresh w w' g → RowV w' g vs → wpList P ops Q rest (a.put op.dst (.pointer (some ⟨g, 0, none⟩))) w') : wpList P ops Q (op :: rest) a w := by
  refine wpList_plain hgd fun K hK2 => ?_
  have hr : (Instr.box ty (.agg vs.toArray)).run P w = .ok (.pointer (some ⟨w.heap.size, 0, none⟩)) (w.alloc (.cells vs.toArray ty)) := by
    simp [Instr.box, newVar, newRow, newObj, Value.cells]
    rfl
  unfold Oper.wp execOp
  simp only [ho, hx, Sem.run_bind, hr, Result.andThen_ok]
  exact hK2 _ _ (hK _ _ ⟨rfl, _, rfl⟩ (RowV.new (by simp)))
theorem wpList_store_v (hgd : op.guard = none) (ty : TypeId) (x y : Operand) (ho : op.op = .store ty x y) (g : Nat) (vs us : List Value)
    (hx : a.eval x = .pointer (some ⟨g, 0, none⟩)) (hy : a.eval y = .agg us.toArray) (h : RowV w g vs) (hl : us.length = vs.length) (h1 : ∀ u ∈ us, u.oneCell' = true) (hi : (P.info? ty).map (·.size) = some us.length)
    (hK : ∀ w', Wr w w' g → RowV w' g us → wpList P ops Q rest (a.put op.dst undef) w') : wpList P ops Q (op :: rest) a w := by
  obtain ⟨t, h⟩ := h
  refine wpList_plain hgd fun K hK2 => ?_
  have hst := run_storeCells_at P g 0 t us 0 _ w h (by simp; omega) h1
  have hr : (storeVar ty ⟨g, 0, none⟩ (.agg us.toArray)).run P w = .ok () (w.setRow g us.toArray) := by
    cases hq : P.info? ty with
    | none => simp [hq] at hi
    | some i =>
      have hs : i.size = us.length := by simpa [hq] using hi
      have e : vs.drop us.length = [] := List.drop_eq_nil_of_le (by omega)
      simp only [Nat.add_zero, Nat.zero_add, List.take_zero, List.nil_append, e, List.append_nil] at hst
      simp [storeVar, sizeOf, typeInfo, hq, Value.cells, hs, hst]
  unfold Oper.wp execOp
  simp only [ho, hx, hy, Instr.storeAt, Instr.sureAddr, Sem.run_bind, Sem.run_pure, Result.andThen_ok, hr]
  exact hK2 _ _ (hK _ (Wr.row _ _ _) ⟨t, setRow_heap w g _ _ t (0, 0) h⟩)
theorem wpList_store_at (hgd : op.guard = none) (ty : TypeId) (x y : Operand) (ho : op.op = .store ty x y) (g i : Nat) (vs : List Value) (u : Value)
    (hx : a.eval x = .pointer (some ⟨g, i, none⟩)) (hy : a.eval y = u) (h : RowV w g vs) (hlt : i < vs.length) (h1 : u.oneCell' = true) (hc : u.cells = #[u]) (hi : (P.info? ty).map (·.size) = some 1)
    (hK : ∀ w', Wr w w' g → RowV w' g (vs.set i u) → wpList P ops Q rest (a.put op.dst undef) w') : wpList P ops Q (op :: rest) a w := by
  obtain ⟨t, h⟩ := h
  refine wpList_plain hgd fun K hK2 => ?_
  have hst := run_storeCells_at P g i t [u] 0 _ w h (by simp; omega) (by simpa using h1)
  have hr : (storeVar ty ⟨g, i, none⟩ u).run P w = .ok () (w.setRow g (vs.set i u).toArray) := by
    cases hq : P.info? ty with
    | none => simp [hq] at hi
    | some i0 =>
      have hs : i0.size = 1 := by simpa [hq] using hi
      have e : vs.take i ++ u :: vs.drop (i + 1) = vs.set i u := (List.set_eq_take_append_cons_drop ..).trans (if_pos hlt) |>.symm
      simp only [Nat.add_zero] at hst
      simp [storeVar, sizeOf, typeInfo, hq, hc, hs, hst, e]
  unfold Oper.wp execOp
  simp only [ho, hx, hy, Instr.storeAt, Instr.sureAddr, Sem.run_bind, Sem.run_pure, Result.andThen_ok, hr]
  exact hK2 _ _ (hK _ (Wr.row _ _ _) ⟨t, setRow_heap w g _ _ t (0, 0) h⟩)
end
section
variable {P : Program} {fn : Func} {p u v : Tmp} {ty : TypeId}
theorem results_v (h : fn.results = #[.cell p ty]) (tmps : Array Value) (w : World) (g : Nat) (vs : List Value) (d : TypeDesc)
    (hp : tmps.getD p undef = .pointer (some ⟨g, 0, none⟩)) (hg : RowV w g vs) (hu : P.underlying ty = some d) (hd : (match d with | .struct _ | .array _ _ => true | _ => false) = true) (hi : (P.info? ty).map (·.size) = some vs.length) : (results fn tmps).run P w = .ok (.agg vs.toArray) w := by
  obtain ⟨t, hg⟩ := hg
  exact results_cell_row h tmps w g t _ (0, 0) d hp hg hu hd (by simpa using hi)
end
end Go.Proofs.YtkgfdbbdmchmeaaDoor
namespace Go.Proofs.YtkgfdbbdmchmeaaDoor
open Go.RowKit
set_option linter.unusedVariables false
theorem app_bytes {P : Program} {w : World} {ops : Array Oper} {rest : List Oper} {o : Oper} {a : Act} {Q : Exit → Act → World → Prop} (hgd : o.guard = none) (s x : Operand) (t : TypeId)
    (ho : o.op = .call { callee := .builtin .append, args := #[s, x], argTypes := #[t, t] })
    (base : Nat) (e : TypeId) (i : TypeInfo) (z : Value) (ht : P.underlying t = some (.slice e)) (hi : P.info? e = some i) (hz : i.zero = some z)
    (hsize : i.size = 1) (hby : i.bytes = 1) (hzs : z.cells.size = 1)
    (v : Value) (n : Nat) (xs : List Value) (hs : a.eval s = v) (hown : w.ownsRow base e 1 v n xs)
    (A : Option Addr) (c : Nat) (cb : List UInt8) (p : Nat → Prop) (hx : a.eval x = .slice A cb.length c) (hn : A = none → c = 0) (hc : SeesP w p A (Us cb))
    (h63 : n + cb.length ≤ maxLen) (hbytes : n + cb.length ≤ 140737488355328) (hbase : base ≤ w.heap.size)
    (h : ∀ v' w', w'.ownsRow base e 1 v' (n + cb.length) (xs ++ Us cb) → w.grownBy w' v.ownBlock → wpList P ops Q rest (a.put o.dst v') w') : wpList P ops Q (o :: rest) a w := by
  cases A with
  | none =>
    have h1 : cb = [] := by have := congrArg List.length hc.none_nil; rw [Us_length] at this; exact List.eq_nil_of_length_eq_zero this
    have h2 := hn rfl
    subst h1 h2
    exact wpList_append_own_none hgd s x t ho base e i 1 ht hi v n xs hs hown hx (h v w (by simpa [Us] using hown) (World.grownBy.refl _ _))
  | some ad =>
    exact wpList_append_own w hgd s x t ho base e i z 1 1 ht hi hz hsize hby hzs (by decide) v n xs hs hown ad cb.length c (Us cb) hx (by rw [Us_length]; omega) (hc.src ad rfl) (Us_one _) h63 (by omega) hbase fun v' w' h1 h2 _ => h v' w' h1 h2
end Go.Proofs.YtkgfdbbdmchmeaaDoor
namespace Go.Proofs.YtkgfdbbdmchmeaaDoor
open Go.RowKit
def numL (x : List UInt8) : Nat := x.foldl (fun n c => 256 * n + c.toNat) 0
end Go.Proofs.YtkgfdbbdmchmeaaDoor
namespace Go.Proofs.YtkgfdbbdmchmeaaDoor
open Go.RowKit
theorem info_u8b : (Tryd.prog.info? 5).map (fun i => (i.zero, i.size, i.bytes)) = some (some (.int .u8 0), 1, 1) := by kernel_rfl
def Out (w : World) (B g k cap : Nat) (l : List UInt8) : Prop := w.ownsRow B 5 1 (.slice (some ⟨g, 0, none⟩) k cap) k (Us l)
def Puts (w : World) (B g k cap : Nat) (l : List UInt8) (e : Ending) (w' : World) : Prop :=
  e = .returned (.slice (some ⟨g, 0, none⟩) k cap) ∧ Out w' B g k cap l ∧ w.grownBy w' (some g)
theorem one_cell1 (z : Int) : ∀ u ∈ [Value.int .u8 z], u.oneCell' = true := by
  intro u hu
  simp only [List.mem_singleton] at hu
  subst hu
  rfl
theorem Out.byte {w : World} {B g k cap : Nat} {l : List UInt8} {z : Int} (b : UInt8) (hz : z = (b.toNat : Int)) (h : w.ownsRow B 5 1 (.slice (some ⟨g, 0, none⟩) k cap) k (Us l ++ [Value.int .u8 z])) : Out w B g k cap (l ++ [b]) := by
  unfold Out
  rw [Us_append]
  have : Us [b] = [Value.int .u8 z] := by rw [hz]; rfl
  rw [this]
  exact h
theorem grown_trans {a b c : World} {g : Nat} (h : a.grownBy b (some g)) (k : b.grownBy c (some g)) : a.grownBy c (some g) := by
  obtain ⟨h1, h2, h3, h4, h5⟩ := h
  obtain ⟨k1, k2, k3, k4, k5⟩ := k
  exact ⟨k1.trans h1, k2.trans h2, k3.trans h3, Nat.le_trans h4 k4, fun i hi hn => (k5 i (Nat.lt_of_lt_of_le hi h4) hn).trans (h5 i hi hn)⟩
theorem grown_below {a b : World} {row : Option Nat} (h : Below a.heap.size a b) : a.grownBy b row :=
  ⟨h.os, h.tape, h.output, h.size, fun i hi _ => h.block i hi⟩
theorem grown_alloc (a : World) (o : Obj) (row : Option Nat) : a.grownBy (a.alloc o) row := grown_below ((Below.refl _ _).alloc (Nat.le_refl _) o)
end Go.Proofs.YtkgfdbbdmchmeaaDoor
