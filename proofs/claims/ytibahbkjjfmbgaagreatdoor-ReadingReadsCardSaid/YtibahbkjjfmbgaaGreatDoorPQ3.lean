/-
  What is proved here: lines that came in, as memory holds them.
-/
import Derived.Test.YtibahbkjjfmbgaaGreatDoorPY13
import Derived.Test.YtibahbkjjfmbgaaGreatDoorPY3
import Derived.SliceStrings
import Derived.SizedLaws
import Derived.Test.YtibahbkjjfmbgaaGreatDoorPX4
namespace Go.Proofs.YtibahbkjjfmbgaaGreatDoor
open Go.ChangeShapes Go.WideShapes Go.ChangeAt Go.RowKit
set_option linter.unusedVariables false
section
variable {H : Type} {enc : TypeId × Value → H} {W : World}
theorem bytes_str : Tryz.prog.bytesOf 9 = 16 := by kernel_rfl
end
theorem list_of {α : Type} (d : α) : ∀ (n : Nat) (P : Nat → α → Prop), (∀ i, i < n → ∃ x, P i x) → ∃ L : List α, L.length = n ∧ ∀ i, i < n → P i (L.getD i d)
 | 0, _, _ => ⟨[], rfl, fun i h => by omega⟩
 | n + 1, P, h => by
  obtain ⟨L, h1, h2⟩ := list_of d n (fun i => P (i + 1)) (fun i hi => h (i + 1) (by omega))
  obtain ⟨x, hx⟩ := h 0 (by omega)
  refine ⟨x :: L, by simp [h1], fun i hi => ?_⟩
  rcases i with _ | i
  · exact hx
  · exact h2 i (by omega)
theorem bytes_sls : Tryz.prog.bytesOf 25 = 24 := by kernel_rfl
theorem cell_sls : Tryz.prog.cellsOf 25 = 1 := by kernel_rfl
section
variable {H : Type} {enc : TypeId × Value → H} {W : World}
theorem weights_strs (t : TypeId) : ∀ ss : List ByteArray, DataW.weightsAll Tryz.prog t (strs (H := H) ss) = ss.map fun s => s.data.toList.length
 | [] => rfl
 | s :: ss => by
  have ih := weights_strs t ss
  show (DataW.lit (H := H) (.string s.data.toList)).weights Tryz.prog t ++ DataW.weightsAll Tryz.prog t (strs (H := H) ss) = _
  rw [ih]
  simp [DataW.weights]
theorem open_row {n : Nat} {cs : List Value} {y : DataW H × List MemPlace} (h : DataW.trod enc Tryz.prog W 0 (fun _ => true) true n 25 cs = some y) (hw : ∀ k ∈ y.1.weights Tryz.prog 25, k ≤ reachBytes) :
 ∃ (A : Option Addr) (c : Nat) (ls : List (List UInt8)), cs = [.slice A ls.length c] ∧ Strs W A ls ∧ ls.length ≤ 10000000000000 ∧ ∀ s ∈ ls, s.length ≤ 4611686018427387904 := by
 have lt : ∀ q ∈ y.2, q.block < W.heap.size := DataW.trod_lt n _ _ _ h
 rcases open_strings Tryz.underlying25 Tryz.underlying9 cell_s h with ⟨rfl, _⟩ | ⟨a, l, c, zs, rfl, _, hl, hm, hz, rfl, hcell, hwz⟩
 · exact ⟨none, 0, [], rfl, .inl rfl, Nat.zero_le _, by simp⟩
 ·
  simp only [if_true] at hz
  have hlz : (zs.take l).length = l := by simp; omega
  have hk := fun k hk => hw k (by
   show k ∈ (DataW.slice (strs (H := H) (zs.take l)) (strs (zs.drop l))).weights Tryz.prog 25
   simp only [DataW.weights, Tryz.underlying25]
   exact hk)
  refine ⟨some a, c, (zs.take l).map fun s => s.data.toList, by simp; omega, ?_, ?_, ?_⟩
  ·
   rcases Nat.eq_zero_or_pos l with h0 | h0
   · subst h0; exact .inl (by simp [strV])
   · obtain ⟨b, off, spot⟩ := a
     have hspot : spot = none := by simpa [Addr.add] using World.cell?_spot (hcell 0 (by omega))
     subst hspot
     have hb : b < W.heap.size := lt (.cell b off) (MemPlace.mem_row.2 ⟨0, by omega, by simp⟩)
     refine .inr ⟨b, off, rfl, hb, fun j hj => ?_⟩
     have hj' : j < l := by simp [strV] at hj; omega
     have hjz : j < zs.length := by omega
     have hadd : (⟨b, off, none⟩ : Addr).add j = ⟨b, off + j, none⟩ := by unfold Addr.add; split <;> simp_all
     rw [← hadd, hcell j hjz]
     have hg : zs.getD j ByteArray.empty = zs[j] := by simp [List.getD, hjz]
     rw [hg]
     simp [strV, hj', hjz, ← S_of]
  · have := hk _ (List.mem_cons_self ..)
    rw [bytes_str] at this
    simp only [reachBytes, strs, List.length_map] at this
    rw [hlz] at this
    rw [List.length_map, hlz]
    omega
  · intro s hs
    obtain ⟨z, hz1, rfl⟩ := List.mem_map.1 hs
    have := hk z.data.toList.length (List.mem_cons_of_mem _ (List.mem_append_left _ (by rw [weights_strs]; exact List.mem_map.2 ⟨z, hz1, rfl⟩)))
    simp only [reachBytes] at this
    omega
theorem weightsAll_mem (t : TypeId) : ∀ (ds : List (DataW H)) (d : DataW H), d ∈ ds → ∀ k ∈ d.weights Tryz.prog t, k ∈ DataW.weightsAll Tryz.prog t ds
 | x :: ds, d, h, k, hk => by
  show k ∈ x.weights Tryz.prog t ++ DataW.weightsAll Tryz.prog t ds
  rcases List.mem_cons.1 h with rfl | h
  · exact List.mem_append_left _ hk
  · exact List.mem_append_right _ (weightsAll_mem t ds d h k hk)
theorem open_rdg {A : Option Addr} {len cap : Nat} {d : DataW H} {p : List MemPlace} (hf : DataW.Trod enc Tryz.prog W 0 (fun _ => true) true 27 (.slice A len cap) d p) (hw : ∀ k ∈ d.weights Tryz.prog 27, k ≤ reachBytes) :
 ∃ L : List (List (List UInt8)), len = L.length ∧ Rdg W A L ∧ Fits3 L := by
 obtain ⟨fuel, hf⟩ := hf
 have lt : ∀ q ∈ p, q.block < W.heap.size := DataW.trod_lt fuel _ _ _ hf
 rcases DataW.trod_slice Tryz.underlying27 hf with ⟨hcs, _⟩ | ⟨a, l, c, elems, rest, n, _, hcs, hx, _, hl, hm, hlen, hel, hsp, _⟩
 · simp [Value.cells] at hcs
   obtain ⟨rfl, rfl, rfl⟩ := hcs
   exact ⟨[], rfl, ⟨[], .inl rfl, rfl, fun i r h => by simp at h⟩, Nat.zero_le _, fun r h => by simp at h, fun r h => by simp at h⟩
 ·
  simp [Value.cells] at hcs
  obtain ⟨rfl, rfl, rfl⟩ := hcs
  simp only [Prod.mk.injEq] at hx
  obtain ⟨rfl, hp⟩ := hx
  obtain ⟨hrl, _⟩ := hsp rfl
  have hk := fun k hk => hw k (by
   simp only [DataW.weights, Tryz.underlying27]
   exact hk)
  rw [cell_sls] at hel
  simp only [Nat.mul_one] at hel
  have hrow : ∀ i, i < len → ∃ ls : List (List UInt8), (∃ A' c', W.cell? (a.add i) = some (.slice A' ls.length c') ∧ Strs W A' ls) ∧ ls.length ≤ 10000000000000 ∧ ∀ s ∈ ls, s.length ≤ 4611686018427387904 := fun i hi => by
   have hie : i < elems.length := by omega
   have h1 := hel i hi
   rw [List.getElem?_eq_getElem hie, Option.bind_eq_some_iff] at h1
   obtain ⟨cs', hc1, hc2⟩ := h1
   obtain ⟨A', c', ls, rfl, h2, h3, h4⟩ := open_row hc2 (fun k hkk => hk k (List.mem_cons_of_mem _ (List.mem_append_left _ (weightsAll_mem _ _ _ (List.mem_map.2 ⟨elems[i], List.getElem_mem hie, rfl⟩) k hkk))))
   exact ⟨ls, ⟨A', c', cell_of_cells?_one hc1, h2⟩, h3, h4⟩
  obtain ⟨L, hL1, hL2⟩ := list_of ([] : List (List UInt8)) len _ hrow
  have hk0 := hk _ (List.mem_cons_self ..)
  rw [bytes_sls] at hk0
  simp only [reachBytes, List.length_map] at hk0
  refine ⟨L, hL1.symm, ?_, by rw [hL1]; omega, fun r hr => ?_, fun r hr => ?_⟩
  ·
   rcases Nat.eq_zero_or_pos len with h0 | h0
   · have : L = [] := List.eq_nil_of_length_eq_zero (by omega)
     subst this
     exact ⟨[], .inl rfl, rfl, fun i r h => by simp at h⟩
   ·
    obtain ⟨b, off, spot⟩ := a
    obtain ⟨A0, c0, hc0, _⟩ := (hL2 0 h0).1
    have hspot : spot = none := by simpa [Addr.add] using World.cell?_spot hc0
    subst hspot
    have hadd : ∀ j, (⟨b, off, none⟩ : Addr).add j = ⟨b, off + j, none⟩ := fun j => by unfold Addr.add; split <;> simp_all
    have hb : b < W.heap.size := lt (.cell b off) (by rw [hp]; exact List.mem_append_left _ (MemPlace.mem_row.2 ⟨0, by rw [cell_sls]; omega, by simp⟩))
    refine ⟨(List.range len).map fun i => (W.cell? ⟨b, off + i, none⟩).getD undef, .inr ⟨b, off, rfl, hb, fun j hj => ?_⟩, by simp [hL1], fun i r hr => ?_⟩
    · have hj' : j < len := by simpa using hj
      obtain ⟨A', c', hc', _⟩ := (hL2 j hj').1
      rw [hadd] at hc'
      rw [List.getElem?_map, List.getElem?_range hj']
      simp [hc']
    · have hi : i < len := by rw [← hL1]; exact (List.getElem?_eq_some_iff.1 hr).1
      obtain ⟨A', c', hc', hs'⟩ := (hL2 i hi).1
      have er : L.getD i [] = r := by simp [List.getD, hr]
      rw [hadd, er] at hc'
      rw [er] at hs'
      exact ⟨A', c', by rw [List.getElem?_map, List.getElem?_range hi]; simp [hc'], hs'⟩
  · obtain ⟨i, hi, rfl⟩ := List.getElem_of_mem hr
    have := (hL2 i (by omega)).2.1
    rwa [List.getD_eq_getElem?_getD, List.getElem?_eq_getElem hi, Option.getD_some] at this
  · obtain ⟨i, hi, rfl⟩ := List.getElem_of_mem hr
    have := (hL2 i (by omega)).2.2
    rwa [List.getD_eq_getElem?_getD, List.getElem?_eq_getElem hi, Option.getD_some] at this
theorem reach_rdg {ts : List TypeId} {ds : List (DataW H)} (h : (DataW.weightsEach Tryz.prog ts ds).all (· ≤ reachBytes) = true) {j : Nat} {t : TypeId} {d : DataW H} (ht : ts[j]? = some t) (hd : ds[j]? = some d) : ∀ k ∈ d.weights Tryz.prog t, k ≤ reachBytes := fun k hk => by
 have := List.all_eq_true.1 h _ (DataW.weights_mem_each ht hd k hk)
 simpa using this
end
end Go.Proofs.YtibahbkjjfmbgaaGreatDoor
