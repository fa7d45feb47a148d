/-
  What is proved here: what a byte slice or a string that came in reads as, and that it is within the form's own reach; no condition.
-/
import Derived.Test.YtcapbojjceeapaaDoorRows
import Derived.Test.YtcapbojjceeapaaDoorWG1
import Derived.ProofKit
import Derived.OpenShut
import Derived.ShutString
import Derived.ChangeOld
import Derived.SizedLaws
namespace Go.Proofs.YtcapbojjceeapaaDoor
open Go.ChangeShapes Go.WideShapes Go.ChangeAt Go.RowKit
theorem own : ownKnob Tryd.prog.godebug = none := by kernel_rfl
theorem laidOut : laidOutB Tryd.prog = true := by kernel_rfl
variable {H : Type} {enc : TypeId × Value → H} {W : World}
theorem cells_int : Tryd.prog.cellsOf 3 = 1 := by kernel_rfl
theorem bytes_int : Tryd.prog.bytesOf 3 = 8 := by kernel_rfl
variable {H : Type} {enc : TypeId × Value → H} {W : World}
theorem open_i64s {A : Option Addr} {len cap : Nat} {d : DataW H} {p : List MemPlace} (hf : DataW.Trod enc Tryd.prog W 0 (fun _ => true) true 34 (.slice A len cap) d p)
    (lt : ∀ q ∈ p, q.block < W.heap.size) :
    ∃ x : List Int, len = x.length ∧ SeesP W (· < W.heap.size) A (x.map (Value.int .i64)) ∧ (∀ y ∈ x, -9223372036854775808 ≤ y ∧ y ≤ 9223372036854775807) ∧ len ≤ cap ∧ (cap = 0 ∨ ∃ es sp, d = .slice es sp ∧ es.length + sp.length = cap) := by
  obtain ⟨fuel, hf⟩ := hf
  rcases open_ints Tryd.underlying34 Tryd.underlying3 cells_int hf with ⟨hcs, _⟩ | ⟨a, l, c, zs, hcs, _, hl, hm, hz, hx, hcell, hwz⟩
  · simp [Value.cells] at hcs
    obtain ⟨rfl, rfl, rfl⟩ := hcs
    exact ⟨[], rfl, .inl rfl, by simp, Nat.le_refl _, .inl rfl⟩
  · simp [Value.cells] at hcs
    obtain ⟨rfl, rfl, rfl⟩ := hcs
    simp only [Prod.mk.injEq] at hx
    obtain ⟨rfl, rfl⟩ := hx
    simp only [if_true] at hz
    refine ⟨zs.take len, by simp; omega, ?_, ?_, hl, .inr ⟨_, _, rfl, by simp [lits]; omega⟩⟩
    · rcases Nat.eq_zero_or_pos len with h0 | h0
      · subst h0; exact .inl (by simp)
      · obtain ⟨b, off, spot⟩ := a
        have hspot : spot = none := by simpa [Addr.add] using World.cell?_spot (hcell 0 (by omega))
        subst hspot
        have hb : b < W.heap.size := lt (.cell b off) (MemPlace.mem_row.2 ⟨0, by omega, by simp⟩)
        refine .inr ⟨b, off, rfl, hb, fun j hj => ?_⟩
        have hj' : j < len := by simp at hj; omega
        have hjz : j < zs.length := by omega
        have hadd : (⟨b, off, none⟩ : Addr).add j = ⟨b, off + j, none⟩ := by unfold Addr.add; split <;> simp_all
        rw [← hadd, hcell j hjz]
        have hg : zs.getD j 0 = zs[j] := by simp [List.getD, hjz]
        rw [hg]
        simp [hj', hjz]
    · intro y hy
      have := hwz y (List.mem_of_mem_take hy)
      simpa [Lit.wf, IntKind.min, IntKind.max, IntKind.signed, IntKind.bits] using this
theorem reach_i64s {ts : List TypeId} {ds : List (DataW H)} (h : (DataW.weightsEach Tryd.prog ts ds).all (· ≤ reachBytes) = true) {j : Nat} {d : DataW H} (ht : ts[j]? = some 34) (hd : ds[j]? = some d)
    {len cap : Nat} (hl : len ≤ cap) (hc : cap = 0 ∨ ∃ es sp, d = .slice es sp ∧ es.length + sp.length = cap) : len ≤ 140737488351232 := by
  rcases hc with rfl | ⟨es, sp, rfl, rfl⟩
  · omega
  · have := sized_slice h ht hd Tryd.underlying34
    rw [bytes_int] at this
    simp only [reachBytes] at this
    omega
end Go.Proofs.YtcapbojjceeapaaDoor
