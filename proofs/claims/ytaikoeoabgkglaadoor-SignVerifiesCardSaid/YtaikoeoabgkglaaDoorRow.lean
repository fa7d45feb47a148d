/-
  What is proved here: words that fill a block of memory of their own, whole; loads and stores of a whole row. Nothing of the program is used.
-/
import Derived.Test.YtaikoeoabgkglaaDoorSch
import Derived.Laws.CopyOwn
import Derived.Laws.Tables
namespace Go.Proofs.YtaikoeoabgkglaaDoor
open Go.RowKit
set_option linter.unusedVariables false

/-- the block g holds the words l, and no more -/
def RowW (w : World) (g : Nat) (l : List UInt32) : Prop := ∃ ty, w.heap[g]? = some (.cells (Ws l).toArray ty (0, 0))
theorem Ws_one (l : List UInt32) : ∀ u ∈ Ws l, u.oneCell' = true := by
  intro u hu
  simp only [Ws, List.mem_map] at hu
  obtain ⟨c, _, rfl⟩ := hu
  rfl
theorem Ws_all (l : List UInt32) : (Ws l).toArray.all (·.oneCell') = true := Array.all_eq_true_iff_forall_mem.2 (fun v hv => Ws_one l v (by simpa using hv))
theorem Ws_size (l : List UInt32) : (Ws l).toArray.size = l.length := by simp [Ws]
theorem Ws_set (l : List UInt32) (i : Nat) (x : UInt32) : (Ws l).set i (W x) = Ws (l.set i x) := by simp [Ws, List.map_set]
section
variable {w w' : World} {g : Nat} {l : List UInt32}
theorem RowW.cell (h : RowW w g l) {k : Nat} (hk : k < l.length) : w.cell? ⟨g, k, none⟩ = some (.int .u32 ((l.getD k 0).toNat : Int)) := by
  obtain ⟨ty, h⟩ := h
  rw [cell_of_row w g k _ ty (0, 0) h, ← Array.getElem?_toList]
  show (Ws l)[k]? = _
  rw [ws_get hk, getD_at hk]
theorem RowW.free (h : RowW w g l) (k : Nat) : w.frozen? ⟨g, k, none⟩ = false := by
  obtain ⟨ty, h⟩ := h
  exact frozen_of_row w g k _ ty h
theorem RowW.lt (h : RowW w g l) : g < w.heap.size := by
  obtain ⟨ty, h⟩ := h
  exact (Array.getElem?_eq_some_iff.1 h).1
theorem RowW.same (h : RowW w g l) (e : w'.heap[g]? = w.heap[g]?) : RowW w' g l := by
  obtain ⟨ty, h⟩ := h
  exact ⟨ty, e.trans h⟩
theorem RowW.below {B : Nat} (h : RowW w g l) (hb : Below B w w') (hg : g < B) : RowW w' g l := h.same (hb.block g hg)
theorem RowW.alloc (h : RowW w g l) (o : Obj) : RowW (w.alloc o) g l := h.same (Below.heap_alloc w o g h.lt)
theorem RowW.drew (h : RowW w g l) : RowW w.drew g l := h
theorem RowW.drewN (h : RowW w g l) (n : Nat) : RowW (w.drewN n) g l := h
theorem RowW.far (h : RowW w g l) {a : Addr} (hne : g ≠ a.block) (u : Value) : RowW (w.setCell a u) g l := h.same (heap_setCell_other w a g u hne)
theorem RowW.set (h : RowW w g l) (i : Nat) (x : UInt32) : RowW (w.setCell ⟨g, i, none⟩ (.int .u32 (x.toNat : Int))) g (l.set i x) := by
  obtain ⟨ty, h⟩ := h
  refine ⟨ty, ?_⟩
  rw [blk_set h, ← Ws_set]
  congr 2
  apply Array.ext'
  simp [W]
theorem RowW.new {c : Array Value} {t : TypeId} (h : c.toList = Ws l) : RowW (w.alloc (.cells c t)) w.heap.size l := by
  refine ⟨t, ?_⟩
  rw [heap_alloc_new]
  congr 2
  rw [← h]
theorem RowW.row (h : RowW w g l) (l2 : List UInt32) : RowW (w.setRow g (Ws l2).toArray) g l2 := by
  obtain ⟨ty, h⟩ := h
  exact ⟨ty, setRow_heap w g _ _ ty (0, 0) h⟩
theorem RowW.row_far (h : RowW w g l) {k : Nat} (hne : g ≠ k) (cs : Array Value) : RowW (w.setRow k cs) g l := h.same (setRow_other w k g cs hne)
end
theorem Ws_zeros (n : Nat) : Ws (List.replicate n 0) = List.replicate n (.int .u32 0) := by simp [Ws, W]

theorem wpList_store_row {P : Program} {ops : Array Oper} {rest : List Oper} {op : Oper} {a : Act} {w : World} {Q : Exit → Act → World → Prop} (hgd : op.guard = none) (ty : TypeId) (x y : Operand) (ho : op.op = .store ty x y)
    (g : Nat) (l l2 : List UInt32) (hx : a.eval x = .pointer (some ⟨g, 0, none⟩)) (hy : a.eval y = .agg (Ws l2).toArray) (h : RowW w g l) (hl : l.length = l2.length)
    (hi : (P.info? ty).map (·.size) = some l2.length)
    (hK : wpList P ops Q rest (a.put op.dst undef) (w.setRow g (Ws l2).toArray)) : wpList P ops Q (op :: rest) a w := by
  obtain ⟨t, h⟩ := h
  refine wpList_plain hgd fun K hK2 => ?_
  unfold Oper.wp execOp
  simp only [ho, hx, hy, Instr.storeAt, Instr.sureAddr, Sem.run_bind, Sem.run_pure, Result.andThen_ok, run_storeVar_row w g t ty (Ws l).toArray (Ws l2).toArray h (by rw [Ws_size]; exact hi) (by rw [Ws_size, Ws_size, hl]) (Ws_all l2)]
  exact hK2 _ _ hK
theorem wpList_load_words {P : Program} {ops : Array Oper} {rest : List Oper} {op : Oper} {a : Act} {w : World} {Q : Exit → Act → World → Prop} (hgd : op.guard = none) (ty : TypeId) (x : Operand) (ho : op.op = .load ty x)
    (g : Nat) (l : List UInt32) (n : Nat) (e : TypeId) (hx : a.eval x = .pointer (some ⟨g, 0, none⟩)) (h : RowW w g l) (hu : P.underlying ty = some (.array n e)) (hi : (P.info? ty).map (·.size) = some l.length)
    (hK : wpList P ops Q rest (a.put op.dst (.agg (Ws l).toArray)) w) : wpList P ops Q (op :: rest) a w := by
  obtain ⟨t, h⟩ := h
  exact wpList_load_row hgd ty x ho g hx t _ (0, 0) (.array n e) h hu rfl (by rw [Ws_size]; exact hi) hK
theorem results_words {P : Program} {fn : Func} {p : Tmp} {ty : TypeId} (h : fn.results = #[.cell p ty]) (tmps : Array Value) (w : World) (g : Nat) (l : List UInt32) (n : Nat) (e : TypeId)
    (hp : tmps.getD p undef = .pointer (some ⟨g, 0, none⟩)) (hg : RowW w g l) (hu : P.underlying ty = some (.array n e)) (hi : (P.info? ty).map (·.size) = some l.length) : (results fn tmps).run P w = .ok (.agg (Ws l).toArray) w := by
  obtain ⟨t, hg⟩ := hg
  exact results_cell_row h tmps w g t _ (0, 0) (.array n e) hp hg hu rfl (by rw [Ws_size]; exact hi)

end Go.Proofs.YtaikoeoabgkglaaDoor
