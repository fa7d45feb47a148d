/-
  What is proved here: infos that came in, as memory holds them; and that the table of identifiers lies as the laws lay it.
-/
import Derived.Test.YtcapbojjceeapaaDoorWG16
import Derived.Test.YtcapbojjceeapaaDoorWG17
import Derived.Test.YtcapbojjceeapaaDoorCards
import Derived.Test.YtcapbojjceeapaaDoorTie
import Derived.LaidMore
import Derived.Lay
import Derived.SevenTiedAt
import Derived.Stop.Joined
import Derived.Laws.IdiomArrays
import Derived.Deep.Slices
namespace Go.Proofs.YtcapbojjceeapaaDoor
open Go.ChangeShapes Go.WideShapes Go.ChangeAt Go.RowKit Go.Deep
set_option maxRecDepth 8000
set_option linter.unusedVariables false
set_option linter.unusedSimpArgs false
theorem arr_cells {H : Type} {enc : TypeId × Value → H} {P : Program} {w : World} {base : Nat} {sp : Nat → Bool} {held : Bool} {fuel : Nat} {t e : TypeId} {n : Nat} {k : IntKind} {cs : List Value} {q : List MemPlace} (zs : List Int)
    (ht : P.underlying t = some (.array n e)) (he : P.underlying e = some (.int k)) (hc : P.cellsOf e = 1) (hn : zs.length = n)
    (h : DataW.trod enc P w base sp held fuel t cs = some (.agg (zs.map fun z => .lit (.int k z)), q)) (j : Nat) (hj : j < zs.length) : cs[j]? = some (.int k zs[j]) := by
  obtain ⟨xs, m, _, ex, _, hl, hel⟩ := DataW.trod_array ht h
  have hE := hel j (by omega)
  rw [hc, Nat.mul_one, List.getElem?_eq_getElem (by omega)] at hE
  obtain ⟨z, e1, e2, _⟩ := DataW.trod_int he hE
  have e3 : (xs.map (·.1)) = zs.map fun n => .lit (.int k n) := (DataW.agg.inj (Prod.mk.inj ex).1).symm
  have e4 : (xs.map (·.1))[j]? = (zs.map fun n => (DataW.lit (.int k n) : DataW H))[j]? := by rw [e3]
  rw [List.getElem?_map, List.getElem?_map, List.getElem?_eq_getElem (by omega : j < xs.length), List.getElem?_eq_getElem hj, e2] at e4
  have hz : z = zs[j] := by simpa using e4
  have h0 : ((cs.drop j).take 1)[0]? = some (.int k z) := by rw [e1]; rfl
  rw [← hz]
  simpa using h0
theorem arr_cellsW {H : Type} {enc : TypeId × Value → H} {P : Program} {w : World} {base : Nat} {sp : Nat → Bool} {held : Bool} {fuel : Nat} {t e i : TypeId} {n m9 : Nat} {k : IntKind} {cs : List Value} {q : List MemPlace} (rows : List (List Int))
    (ht : P.underlying t = some (.array n e)) (he : P.underlying e = some (.array m9 i)) (hi : P.underlying i = some (.int k)) (hc : P.cellsOf e = m9) (hci : P.cellsOf i = 1) (hn : rows.length = n) (h2 : ∀ x ∈ rows, x.length = m9)
    (h : DataW.trod enc P w base sp held fuel t cs = some (.agg (rows.map fun x => .agg (x.map fun z => .lit (.int k z))), q)) (j l : Nat) (hj : j < rows.length) (hl2 : l < m9) : cs[j * m9 + l]? = some (.int k ((rows[j]'hj).getD l 0)) := by
  obtain ⟨xs, m, _, ex, _, hl, hel⟩ := DataW.trod_array ht h
  have hE := hel j (by omega)
  rw [hc, List.getElem?_eq_getElem (by omega)] at hE
  have e3 : (xs.map (·.1)) = rows.map fun x => .agg (x.map fun z => .lit (.int k z)) := (DataW.agg.inj (Prod.mk.inj ex).1).symm
  have e4 : (xs.map (·.1))[j]? = (rows.map fun x => (DataW.agg (x.map fun z => .lit (.int k z)) : DataW H))[j]? := by rw [e3]
  rw [List.getElem?_map, List.getElem?_map, List.getElem?_eq_getElem (by omega : j < xs.length), List.getElem?_eq_getElem hj] at e4
  simp only [Option.map_some, Option.some.injEq] at e4
  have hr2 : (rows[j]'hj).length = m9 := h2 _ (List.getElem_mem hj)
  have h5 : DataW.trod enc P w base sp held m e ((cs.drop (j * m9)).take m9) = some (.agg ((rows[j]'hj).map fun z => .lit (.int k z)), (xs[j]'(by omega)).2) := by
    rw [hE, ← e4]
  have h6 := arr_cells (rows[j]'hj) he hi hci hr2 h5 l (by omega)
  rw [List.getElem?_take, if_pos hl2, List.getElem?_drop] at h6
  rw [h6, List.getD_eq_getElem?_getD, List.getElem?_eq_getElem (by omega)]
  rfl
def laidL : List (String × DataW Unit) := [("traveldoc/securityinfo.identifiers", Rows.laid_traveldoc_securityinfo_identifiers)]
abbrev laidKinds : List LaidKind := [.data]
def rowsI : List (List Int) := [[4, 0, 127, 0, 7, 2, 2, 4, 1], [4, 0, 127, 0, 7, 2, 2, 4, 2], [4, 0, 127, 0, 7, 2, 2, 3, 1], [4, 0, 127, 0, 7, 2, 2, 2, 1], [4, 0, 127, 0, 7, 2, 2, 5, 1]]
theorem laid_i : Rows.laid_traveldoc_securityinfo_identifiers (H := Unit) = .agg (rowsI.map fun x => .agg (x.map fun z => .lit (.int .u8 z))) := by kernel_rfl
theorem rowsI_at : ∀ k, k < 45 → (rowsI.getD (k / 9) []).getD (k % 9) 0 = ((tabI.getD k 0).toNat : Int) := by decide +kernel
theorem cell_lt {w : World} {a : Addr} {v : Value} (h : w.cell? a = some v) : a.block < w.heap.size := by
  rcases Nat.lt_or_ge a.block w.heap.size with g | g
  · exact g
  · unfold World.cell? at h
    rw [Array.getElem?_eq_none g] at h
    cases h
theorem list_of {α : Type} (d : α) : ∀ (n : Nat) (P : Nat → α → Prop), (∀ i, i < n → ∃ x, P i x) → ∃ L : List α, L.length = n ∧ ∀ i, i < n → P i (L.getD i d)
  | 0, _, _ => ⟨[], rfl, fun i h => by omega⟩
  | n + 1, P, h => by
    obtain ⟨L, h1, h2⟩ := list_of d n (fun i => P (i + 1)) (fun i hi => h (i + 1) (by omega))
    obtain ⟨x, hx⟩ := h 0 (by omega)
    refine ⟨x :: L, by simp [h1], fun i hi => ?_⟩
    rcases i with _ | i
    · exact hx
    · exact h2 i (by omega)
theorem of_laid {W : World} (h : laidMetH Tryd.prog laidL W) : TabX W := by
  rw [MakeChecks.laidMetH_plain _ _ _ (by kernel_rfl)] at h
  obtain ⟨ps, ⟨g, t, cs, fuel, p, q, hg, ht, hv, hd, _, _⟩, _, _⟩ := h
  obtain rfl := Option.some.inj ((show Tryd.prog.globalNamed "traveldoc/securityinfo.identifiers" = some 0 by kernel_rfl).symm.trans hg)
  obtain rfl := Option.some.inj ((show (Tryd.prog.globals[0]?).map (·.type) = some 112 by kernel_rfl).symm.trans ht)
  have hk : ∀ k : Nat, k < 45 → W.cell? ⟨0, k, none⟩ = (Us tabI)[k]? := by
    intro k hk
    rw [show Rows.laid_traveldoc_securityinfo_identifiers (H := Unit) = _ from laid_i] at hd
    have e := arr_cellsW rowsI Tryd.underlying112 Tryd.underlying111 Tryd.underlying5 (by kernel_rfl) (by kernel_rfl) rfl (by decide) hd (k / 9) (k % 9) (by show k / 9 < 5; omega) (by omega)
    rw [show k / 9 * 9 + k % 9 = k by omega] at e
    rw [World.var?_cell hg hv k]
    have e2 := rowsI_at k hk
    have e3 : rowsI.getD (k / 9) [] = rowsI[k / 9]'(by show k / 9 < 5; omega) := by rw [List.getD, List.getElem?_eq_getElem]; rfl
    rw [e3] at e2
    rw [e2] at e
    have hlen : tabI.length = 45 := rfl
    have e4 : (Us tabI)[k]? = some (U (tabI.getD k 0)) := by
      unfold Us
      rw [List.getElem?_map, List.getD, List.getElem?_eq_getElem (by omega)]
      rfl
    rw [e4]
    simpa [U] using e
  exact ⟨cell_lt (hk 0 (by decide)), hk⟩
theorem cells_im5 : Tryd.prog.cellsOf 44 = 5 := by kernel_rfl
theorem bytes_im5 : Tryd.prog.bytesOf 44 = 40 := by kernel_rfl
theorem cells_ims1 : Tryd.prog.cellsOf 22 = 1 := by kernel_rfl
section
variable {H : Type} {enc : TypeId × Value → H} {W : World}
theorem weightsAll_mem (t : TypeId) : ∀ (ds : List (DataW H)) (d : DataW H), d ∈ ds → ∀ k ∈ d.weights Tryd.prog t, k ∈ DataW.weightsAll Tryd.prog t ds
  | x :: ds, d, h, k, hk => by
    show k ∈ x.weights Tryd.prog t ++ DataW.weightsAll Tryd.prog t ds
    rcases List.mem_cons.1 h with rfl | h
    · exact List.mem_append_left _ hk
    · exact List.mem_append_right _ (weightsAll_mem t ds d h k hk)
theorem reach_in {ts : List TypeId} {ds : List (DataW H)} (h : (DataW.weightsEach Tryd.prog ts ds).all (· ≤ reachBytes) = true) {j : Nat} {t : TypeId} {d : DataW H} (ht : ts[j]? = some t) (hd : ds[j]? = some d) : ∀ k ∈ d.weights Tryd.prog t, k ≤ reachBytes := fun k hk => by
  have := List.all_eq_true.1 h _ (DataW.weights_mem_each ht hd k hk)
  simpa using this
theorem weights_slice {t e : TypeId} (hu : Tryd.prog.underlying t = some (.slice e)) (es sp : List (DataW H)) : (DataW.slice es sp).weights Tryd.prog t = (es.length + sp.length) * Tryd.prog.bytesOf e :: (DataW.weightsAll Tryd.prog e es ++ DataW.weightsAll Tryd.prog e sp) := by
  simp only [DataW.weights, hu]
theorem open_im {n : Nat} {cs : List Value} {x : DataW H × List MemPlace} (h : DataW.trod enc Tryd.prog W 0 (fun _ => true) true n 44 cs = some x) : ∃ y : Im, cs = y.cs := by
  obtain ⟨xs, m, hm, rfl, hl, hlen, hf⟩ := DataW.trod_struct Tryd.underlying44 h
  rw [cells_im5] at hl
  obtain ⟨c0, c1, c2, c3, c4, rfl⟩ : ∃ a b c d e, cs = [a, b, c, d, e] := by
    match cs, hl with
    | [a, b, c, d, e], _ => exact ⟨a, b, c, d, e, rfl⟩
  obtain ⟨y0, y1, y2, y3, y4, rfl⟩ : ∃ a b c d e, xs = [a, b, c, d, e] := by
    match xs, hlen with
    | [a, b, c, d, e], _ => exact ⟨a, b, c, d, e, rfl⟩
  have h0 : DataW.trod enc Tryd.prog W 0 (fun _ => true) true m 3 (([c0, c1, c2, c3, c4].drop 0).take (Tryd.prog.cellsOf 3)) = some y0 := hf 0 _ rfl
  have h1 : DataW.trod enc Tryd.prog W 0 (fun _ => true) true m 3 (([c0, c1, c2, c3, c4].drop 1).take (Tryd.prog.cellsOf 3)) = some y1 := hf 1 _ rfl
  have h2 : DataW.trod enc Tryd.prog W 0 (fun _ => true) true m 3 (([c0, c1, c2, c3, c4].drop 2).take (Tryd.prog.cellsOf 3)) = some y2 := hf 2 _ rfl
  have h3 : DataW.trod enc Tryd.prog W 0 (fun _ => true) true m 3 (([c0, c1, c2, c3, c4].drop 3).take (Tryd.prog.cellsOf 3)) = some y3 := hf 3 _ rfl
  have h4 : DataW.trod enc Tryd.prog W 0 (fun _ => true) true m 3 (([c0, c1, c2, c3, c4].drop 4).take (Tryd.prog.cellsOf 3)) = some y4 := hf 4 _ rfl
  rw [cells_int] at h0 h1 h2 h3 h4
  obtain ⟨t0, e0, _, _⟩ := DataW.trod_int Tryd.underlying3 h0
  obtain ⟨t1, e1, _, _⟩ := DataW.trod_int Tryd.underlying3 h1
  obtain ⟨t2, e2, _, _⟩ := DataW.trod_int Tryd.underlying3 h2
  obtain ⟨t3, e3, _, _⟩ := DataW.trod_int Tryd.underlying3 h3
  obtain ⟨t4, e4, _, _⟩ := DataW.trod_int Tryd.underlying3 h4
  simp at e0 e1 e2 e3 e4
  subst e0; subst e1; subst e2; subst e3; subst e4
  exact ⟨⟨t0, t1, t2, t3, t4⟩, rfl⟩
theorem Ics_at : ∀ (l : List Im) (k j : Nat) (x : Im), l[k]? = some x → j < 5 → (Ics l)[k * 5 + j]? = x.cs[j]?
  | [], k, j, x, h, _ => by simp at h
  | y :: r, 0, j, x, h, hj => by
    simp at h
    subst h
    show (y.cs ++ Ics r)[0 * 5 + j]? = _
    rw [Nat.zero_mul, Nat.zero_add, List.getElem?_append_left (by rw [Im.cs_len]; exact hj)]
  | y :: r, k + 1, j, x, h, hj => by
    have h : r[k]? = some x := by simpa using h
    show (y.cs ++ Ics r)[(k + 1) * 5 + j]? = _
    rw [List.getElem?_append_right (by rw [Im.cs_len]; omega), Im.cs_len, show (k + 1) * 5 + j - 5 = k * 5 + j by omega]
    exact Ics_at r k j x h hj
theorem open_infos_at {fuel : Nat} {c1 : Value} {d : DataW H} {p : List MemPlace} (hf : DataW.trod enc Tryd.prog W 0 (fun _ => true) true fuel 22 [c1] = some (d, p)) (hw : ∀ k ∈ d.weights Tryd.prog 22, k ≤ reachBytes) :
    ∃ (L : List Im) (A : Option Addr) (cap : Nat), c1 = .slice A L.length cap ∧ SeesP W (· < W.heap.size) A (Ics L) ∧ L.length * 40 ≤ 140737488351232 := by
  rcases DataW.trod_slice Tryd.underlying22 hf with ⟨hcs, _⟩ | ⟨a, len, c, elems, rest, n, _, hcs, hx, _, hl, hm, hlen, hel, hsp, _⟩
  · simp at hcs
    exact ⟨[], none, 0, hcs, .inl rfl, Nat.zero_le _⟩
  · simp at hcs
    simp only [Prod.mk.injEq] at hx
    obtain ⟨rfl, hp⟩ := hx
    rw [weights_slice Tryd.underlying22] at hw
    have h72 := hw _ (List.mem_cons_self ..)
    rw [bytes_im5] at h72
    simp only [reachBytes, List.length_map] at h72
    have hrow : ∀ i, i < len → ∃ y : Im, ∀ j, j < 5 → W.cell? (a.add (i * 5 + j)) = y.cs[j]? := fun i hi => by
      have hie : i < elems.length := by omega
      have h1 := hel i hi
      rw [cells_im5, List.getElem?_eq_getElem hie, Option.bind_eq_some_iff] at h1
      obtain ⟨cs', hc1, hc2⟩ := h1
      obtain ⟨y, rfl⟩ := open_im hc2
      obtain ⟨_, _, hcc⟩ := World.cells?_some hc1
      refine ⟨y, fun j hj => ?_⟩
      have := hcc j hj
      rwa [Go.Deep.add_add] at this
    obtain ⟨L, hL1, hL2⟩ := list_of (default : Im) len _ hrow
    refine ⟨L, some a, c, by rw [hcs, hL1], ?_, by rw [hL1]; omega⟩
    rcases Nat.eq_zero_or_pos len with h0 | h0
    · have : L = [] := List.eq_nil_of_length_eq_zero (by omega)
      subst this
      exact .inl rfl
    · have hc0 := (hL2 0 h0 0 (by decide)).trans (rfl : _ = some (Value.int .i64 (L.getD 0 default).p))
      have hspot : a.spot = none := by
        have := World.cell?_spot hc0
        simpa [Addr.add] using this
      have hlt := cell_lt hc0
      obtain ⟨b, off, spot⟩ := a
      have hspot : spot = none := hspot
      subst hspot
      have hadd : ∀ j, (⟨b, off, none⟩ : Addr).add j = ⟨b, off + j, none⟩ := fun j => by unfold Addr.add; split <;> simp_all
      rw [hadd] at hlt
      refine .inr ⟨b, off, rfl, hlt, fun j hj => ?_⟩
      rw [Ics_len, hL1] at hj
      have h6 := hL2 (j / 5) (by omega) (j % 5) (Nat.mod_lt _ (by decide))
      rw [hadd, show j / 5 * 5 + j % 5 = j by omega] at h6
      have h7 := Ics_at L (j / 5) (j % 5) (L.getD (j / 5) default) (by rw [List.getD, List.getElem?_eq_getElem (by omega)]; rfl) (Nat.mod_lt _ (by decide))
      rw [show j / 5 * 5 + j % 5 = j by omega] at h7
      rw [h6, h7]
end
end Go.Proofs.YtcapbojjceeapaaDoor
