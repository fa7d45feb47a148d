/-
  What is proved here: the schedule of the words as it is built in memory, and the table of the constants: plain facts of memory for the digest's Compress.
-/
import Derived.Test.YtaikoeoabgkglaaDoorWd
namespace Go.Proofs.YtaikoeoabgkglaaDoor
open Go.RowKit
set_option linter.unusedVariables false

/-- the reference's table lies in memory -/
def TabR (w : World) : Prop := 1 < w.heap.size ∧ ∀ k (h : k < 64), w.cell? ⟨1, k, none⟩ = some (.int .u32 ((kT.getD k 0).toNat : Int))

theorem getD_at {α : Type} {l : List α} {k : Nat} {d : α} (h : k < l.length) : l.getD k d = l[k] := by simp [List.getD, h]
theorem blk_set {w : World} {b i : Nat} {cs : Array Value} {t : TypeId} (h : w.heap[b]? = some (.cells cs t (0, 0))) (u : Value) : (w.setCell ⟨b, i, none⟩ u).heap[b]? = some (.cells (cs.setIfInBounds i u) t (0, 0)) := by
  have hlt := (Array.getElem?_eq_some_iff.1 h).1
  have h' : w.heap[b] = .cells cs t (0, 0) := by simpa [Array.getElem?_eq_getElem hlt] using h
  show (w.heap.modify b _)[b]? = _
  rw [Array.getElem?_eq_getElem (by simpa using hlt), Array.getElem_modify_self, h']
  rfl
/-- the schedule's first t words lie in the block g -/
def SchR (w : World) (b : List UInt8) (t : Nat) (wr : World) : Prop := Below w.heap.size w wr ∧ ∃ (arr : Array Value) (ty : TypeId), wr.heap[w.heap.size]? = some (.cells arr ty (0, 0)) ∧ arr.size = 64 ∧ arr.toList.take t = Ws (sch b t)
theorem SchR.at_ {w wr : World} {b : List UInt8} {t : Nat} (h : SchR w b t wr) {k : Nat} (hk : k < 64) : (∃ u, wr.cell? ⟨w.heap.size, k, none⟩ = some u) ∧ wr.frozen? ⟨w.heap.size, k, none⟩ = false := by
  obtain ⟨_, arr, ty, h1, h2, _⟩ := h
  exact ⟨⟨arr[k]'(by omega), by rw [cell_of_row wr _ k _ _ _ h1, Array.getElem?_eq_getElem (by omega)]⟩, frozen_of_row wr _ k _ _ h1⟩
theorem SchR.word {w wr : World} {b : List UInt8} {t : Nat} (h : SchR w b t wr) (ht : t ≤ 64) {k : Nat} (hk : k < t) : wr.cell? ⟨w.heap.size, k, none⟩ = some (.int .u32 (((sch b t).getD k 0).toNat : Int)) := by
  obtain ⟨_, arr, ty, h1, h2, h3⟩ := h
  have hl : k < (sch b t).length := by rw [sch_length]; exact hk
  have e := congrArg (fun l : List Value => l[k]?) h3
  simp only [List.getElem?_take, if_pos hk, ws_get hl, Array.getElem?_toList] at e
  rw [cell_of_row wr _ k _ _ _ h1, e, getD_at hl]
theorem SchR.step {w wr : World} {b : List UInt8} {t : Nat} (h : SchR w b t wr) (ht : t < 64) {x : UInt32} (hx : sch b (t + 1) = sch b t ++ [x]) : SchR w b (t + 1) (wr.setCell ⟨w.heap.size, t, none⟩ (.int .u32 (x.toNat : Int))) := by
  obtain ⟨hb, arr, ty, h1, h2, h3⟩ := h
  refine ⟨hb.setCell (Nat.le_refl _) _, arr.setIfInBounds t (.int .u32 (x.toNat : Int)), ty, blk_set h1 _, by simpa using h2, ?_⟩
  rw [hx, Array.toList_setIfInBounds]
  have hl : t < arr.toList.length := by simpa using (by omega : t < arr.size)
  rw [List.take_succ_eq_append_getElem (by simpa using hl), List.take_set_of_le (Nat.le_refl _), h3]
  simp [Ws, W]

theorem pack_val (a b c d : UInt8) : bits .or .u32 (bits .or .u32 (bits .or .u32 ((a.toNat : Int) % 4294967296 * 16777216 % 4294967296) ((b.toNat : Int) % 4294967296 * 65536 % 4294967296)) ((c.toNat : Int) % 4294967296 * 256 % 4294967296)) ((d.toNat : Int) % 4294967296) = ((packW a b c d).toNat : Int) := by
  have ha := a.toNat_lt
  have hb := b.toNat_lt
  have hc := c.toNat_lt
  have hd := d.toNat_lt
  have e0 : (a.toNat : Int) % 4294967296 * 16777216 % 4294967296 = ((16777216 * a.toNat : Nat) : Int) := by omega
  have e1 : (b.toNat : Int) % 4294967296 * 65536 % 4294967296 = ((65536 * b.toNat : Nat) : Int) := by omega
  have e2 : (c.toNat : Int) % 4294967296 * 256 % 4294967296 = ((256 * c.toNat : Nat) : Int) := by omega
  have e3 : (d.toNat : Int) % 4294967296 = (d.toNat : Int) := by omega
  have h1 : 16777216 * a.toNat < 4294967296 := by omega
  have h2 : 65536 * b.toNat < 4294967296 := by omega
  have h3 : 256 * c.toNat < 4294967296 := by omega
  have h4 : 16777216 * a.toNat + 65536 * b.toNat < 4294967296 := by omega
  have h5 : 16777216 * a.toNat + 65536 * b.toNat + 256 * c.toNat < 4294967296 := by omega
  rw [e0, e1, e2, e3, u32_or_nat _ _ h1 h2, nat_join 24 (16777216 * a.toNat) (65536 * b.toNat) (by omega) (by omega), u32_or_nat _ _ h4 h3,
    nat_join 16 (16777216 * a.toNat + 65536 * b.toNat) (256 * c.toNat) (by omega) (by omega), u32_or_nat _ _ h5 (by omega),
    nat_join 8 (16777216 * a.toNat + 65536 * b.toNat + 256 * c.toNat) d.toNat (by omega) (by omega)]
  unfold packW
  rw [UInt32.toNat_ofNat']
  congr 1
  omega
theorem pack_at {w wr : World} {b : List UInt8} {t : Nat} (h : SchR w b t wr) (ht : t < 16) : SchR w b (t + 1) (wr.setCell ⟨w.heap.size, t, none⟩ (.int .u32 (bits .or .u32 (bits .or .u32 (bits .or .u32 (((b[4 * t]?.getD 0).toNat : Int) % 4294967296 * 16777216 % 4294967296) (((b[4 * t + 1]?.getD 0).toNat : Int) % 4294967296 * 65536 % 4294967296)) (((b[4 * t + 2]?.getD 0).toNat : Int) % 4294967296 * 256 % 4294967296)) (((b[4 * t + 3]?.getD 0).toNat : Int) % 4294967296)))) := by
  rw [pack_val]
  exact h.step (by omega) (by simp [sch, ht, wAt, List.getD])

theorem next_val (x y z v : UInt32) : (bits .xor .u32 (bits .xor .u32 ((rotW x 17).toNat : Int) ((rotW x 19).toNat : Int)) ((x.toNat : Int) / 1024) + (y.toNat : Int) + bits .xor .u32 (bits .xor .u32 ((rotW z 7).toNat : Int) ((rotW z 18).toNat : Int)) ((z.toNat : Int) / 8) + (v.toNat : Int)) % 4294967296 = ((sm1 x + y + sm0 z + v).toNat : Int) := by
  have e1 : (x.toNat : Int) / (1024 : Int) = ((x >>> 10).toNat : Int) := w_shr x 10 (by decide)
  have e2 : (z.toNat : Int) / (8 : Int) = ((z >>> 3).toNat : Int) := w_shr z 3 (by decide)
  rw [e1, e2, w_xor, w_xor, w_xor, w_xor]
  unfold sm0 sm1
  rw [UInt32.toNat_add, UInt32.toNat_add, UInt32.toNat_add]
  omega
theorem next_at {w wr : World} {b : List UInt8} {k : Nat} (h : SchR w b (k + 16) wr) (hk : k < 48) : SchR w b (k + 1 + 16) (wr.setCell ⟨w.heap.size, k + 16, none⟩ (.int .u32 ((bits .xor .u32 (bits .xor .u32 ((rotW ((sch b (k + 16))[k + 14]?.getD 0) 17).toNat : Int) ((rotW ((sch b (k + 16))[k + 14]?.getD 0) 19).toNat : Int)) ((((sch b (k + 16))[k + 14]?.getD 0).toNat : Int) / 1024) + (((sch b (k + 16))[k + 9]?.getD 0).toNat : Int) + bits .xor .u32 (bits .xor .u32 ((rotW ((sch b (k + 16))[k + 1]?.getD 0) 7).toNat : Int) ((rotW ((sch b (k + 16))[k + 1]?.getD 0) 18).toNat : Int)) ((((sch b (k + 16))[k + 1]?.getD 0).toNat : Int) / 8) + (((sch b (k + 16))[k]?.getD 0).toNat : Int)) % 4294967296))) := by
  rw [next_val, show k + 1 + 16 = k + 16 + 1 by omega]
  refine h.step (by omega) ?_
  have hn : ¬ k + 16 < 16 := by omega
  show sch b (k + 16) ++ [if k + 16 < 16 then wAt b (k + 16) else nextW (sch b (k + 16)) (k + 16)] = _
  rw [if_neg hn]
  unfold nextW
  rw [show k + 16 - 2 = k + 14 by omega, show k + 16 - 7 = k + 9 by omega, show k + 16 - 15 = k + 1 by omega, show k + 16 - 16 = k by omega]
  simp only [List.getD]

end Go.Proofs.YtaikoeoabgkglaaDoor
