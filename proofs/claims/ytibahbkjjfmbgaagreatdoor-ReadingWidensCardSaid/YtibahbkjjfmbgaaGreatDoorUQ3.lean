/-
  What is proved here: lines that came in, as memory holds them.
-/
import Derived.Test.YtibahbkjjfmbgaaGreatDoorUY13
import Derived.Test.YtibahbkjjfmbgaaGreatDoorUY3
import Derived.SliceStrings
import Derived.SizedLaws
import Derived.Test.YtibahbkjjfmbgaaGreatDoorUX4
namespace Go.Proofs.YtibahbkjjfmbgaaGreatDoor
open Go.ChangeShapes Go.WideShapes Go.ChangeAt Go.RowKit
set_option linter.unusedVariables false
section
variable {H : Type} {enc : TypeId × Value → H} {W : World}
theorem open_lines {A : Option Addr} {len cap : Nat} {d : DataW H} {p : List MemPlace} (hf : DataW.Trod enc Tryz.prog W 0 (fun _ => true) true 25 (.slice A len cap) d p) (lt : ∀ q ∈ p, q.block < W.heap.size) :
 ∃ ls : List (List UInt8), len = ls.length ∧ Strs W A ls ∧ len ≤ cap ∧ (cap = 0 ∨ ∃ es sp, d = .slice es sp ∧ es.length + sp.length = cap) := by
 obtain ⟨fuel, hf⟩ := hf
 rcases open_strings Tryz.underlying25 Tryz.underlying9 cell_s hf with ⟨hcs, _⟩ | ⟨a, l, c, zs, hcs, _, hl, hm, hz, hx, hcell, hwz⟩
 · simp [Value.cells] at hcs
   obtain ⟨rfl, rfl, rfl⟩ := hcs
   exact ⟨[], rfl, .inl rfl, Nat.le_refl _, .inl rfl⟩
 ·
  simp [Value.cells] at hcs
  obtain ⟨rfl, rfl, rfl⟩ := hcs
  simp only [Prod.mk.injEq] at hx
  obtain ⟨rfl, rfl⟩ := hx
  simp only [if_true] at hz
  refine ⟨(zs.take len).map fun s => s.data.toList, by simp; omega, ?_, hl, .inr ⟨_, _, rfl, by simp [strs]; omega⟩⟩
  rcases Nat.eq_zero_or_pos len with h0 | h0
  · subst h0; exact .inl (by simp [strV])
  · obtain ⟨b, off, spot⟩ := a
    have hspot : spot = none := by simpa [Addr.add] using World.cell?_spot (hcell 0 (by omega))
    subst hspot
    have hb : b < W.heap.size := lt (.cell b off) (MemPlace.mem_row.2 ⟨0, by omega, by simp⟩)
    refine .inr ⟨b, off, rfl, hb, fun j hj => ?_⟩
    have hj' : j < len := by simp [strV] at hj; omega
    have hjz : j < zs.length := by omega
    have hadd : (⟨b, off, none⟩ : Addr).add j = ⟨b, off + j, none⟩ := by unfold Addr.add; split <;> simp_all
    rw [← hadd, hcell j hjz]
    have hg : zs.getD j ByteArray.empty = zs[j] := by simp [List.getD, hjz]
    rw [hg]
    simp [strV, hj', hjz, ← S_of]
theorem bytes_str : Tryz.prog.bytesOf 9 = 16 := by kernel_rfl
theorem reach_lines {ts : List TypeId} {ds : List (DataW H)} (h : (DataW.weightsEach Tryz.prog ts ds).all (· ≤ reachBytes) = true) {j : Nat} {d : DataW H} (ht : ts[j]? = some 25) (hd : ds[j]? = some d)
 {len cap : Nat} (hl : len ≤ cap) (hc : cap = 0 ∨ ∃ es sp, d = .slice es sp ∧ es.length + sp.length = cap) : len ≤ 10000000000000 := by
 rcases hc with rfl | ⟨es, sp, rfl, rfl⟩
 · omega
 · have := sized_slice h ht hd Tryz.underlying25
   rw [bytes_str] at this
   simp only [reachBytes] at this
   omega
end
section
variable {H : Type} {enc : TypeId × Value → H} {W : World}
end
end Go.Proofs.YtibahbkjjfmbgaaGreatDoor
