/-
  What is proved here: the tables of layer 12's laws lie in memory as their data say.
-/
import Derived.Test.YtibahbkjjfmbgaaGreatDoorUY13
import Derived.Test.YtibahbkjjfmbgaaGreatDoorUX6
import Derived.Lib.LaidU8
namespace Go.Proofs.YtibahbkjjfmbgaaGreatDoor
open Go.ChangeShapes Go.WideShapes Go.ChangeAt Go.RowKit
set_option linter.unusedVariables false
section
variable {enc : TypeId × Value → Unit} {w : World} {base : Nat} {sp : Nat → Bool} {held : Bool}
theorem str_cell12 {fuel : Nat} {c : Value} {x : List UInt8} {p : List MemPlace} (h : DataW.trod enc Tryz.prog w base sp held fuel 9 [c] = some (.lit (.string x), p)) : c = .string (S x) := by
 obtain ⟨s, hc, hz, _⟩ := DataW.trod_string Tryz.underlying9 h
 have h1 := (Prod.mk.inj hz).1
 have h2 : x = s.data.toList := by simpa using h1
 have h3 : c = .string s := by simpa using hc
 rw [h3, h2, ← S_of]
theorem tab_g {n : String} {g : Nat} {cs : Array Value} {fuel : Nat} {p : List MemPlace}
 (hg : Tryz.prog.globalNamed n = some g) (hv : w.var? Tryz.prog n = some cs) (hd : DataW.trod enc Tryz.prog w base sp held fuel 57 cs.toList = some (.agg (simG.map fun x => .lit (.string x)), p)) : TabG g w := by
 have hs : cs.toList.length = 6 := by
  obtain ⟨_, _, _, _, hl, _⟩ := DataW.trod_array Tryz.underlying57 hd
  exact hl.trans (by kernel_rfl)
 have key : ∀ i, i < 6 → w.cell? ⟨g, i, none⟩ = some (.string (S (simG.getD i []))) := by
  intro i hi
  obtain ⟨f, d, q, e1, h1⟩ := Lib.array_elem Tryz.underlying57 hd i hi
  rw [show Tryz.prog.cellsOf 9 = 1 by kernel_rfl, Nat.mul_one] at h1
  rw [List.getElem?_map, List.getElem?_eq_getElem (show i < simG.length from hi)] at e1
  simp only [Option.map_some, Option.some.injEq] at e1
  subst e1
  rw [List.take_one, List.head?_drop, List.getElem?_eq_getElem (by omega)] at h1
  have := str_cell12 h1
  rw [World.var?_cell hg hv, ← Array.getElem?_toList, List.getElem?_eq_getElem (by omega), this, List.getD_eq_getElem?_getD, List.getElem?_eq_getElem (show i < simG.length from hi)]
  rfl
 refine ⟨cell_lt (key 0 (by decide)), fun j v hv => ?_⟩
 rw [Nat.zero_add]
 unfold simV at hv
 rw [List.getElem?_map] at hv
 rcases hj : simG[j]? with _ | x
 · rw [hj] at hv; cases hv
 · have hlt : j < simG.length := (List.getElem?_eq_some_iff.1 hj).1
   have := key j hlt
   rw [List.getD_eq_getElem?_getD, hj] at this
   rw [hj] at hv
   injection hv with hv
   rw [this, ← hv]; rfl
end
def laidL12a : List (String × DataW Unit) := [("math/bits.deBruijn32tab", Rows.laid_math_bits_deBruijn32tab), ("math/bits.deBruijn64tab", Rows.laid_math_bits_deBruijn64tab), ("internal/strconv.uint64pow10", Rows.laid_internal_strconv_uint64pow10), ("traveldoc/dates.monthLengths", Rows.laid_traveldoc_dates_monthLengths), ("traveldoc/traveldocref12.groups", Rows.laid_traveldoc_traveldocref12_groups), ("unicode/utf8.acceptRanges", Rows.laid_unicode_utf8_acceptRanges), ("traveldoc/optical.weights", Rows.laid_traveldoc_optical_weights), ("traveldoc/zone.birthRanges", Rows.laid_traveldoc_zone_birthRanges), ("traveldoc/reading.groups", Rows.laid_traveldoc_reading_groups), ("unicode/utf8.first", Rows.laid_unicode_utf8_first)]
abbrev laidKinds12a : List LaidKind := [.data, .data, .data, .data, .data, .data, .data, .data, .data, .pinned]
theorem of_laid12a {W : World} (h : laidMetH Tryz.prog laidL12a W) (hx : ∃ m, W.cell? ⟨3, 0, none⟩ = some (.int .i64 m)) : Mm W ∧ TabG 0 W ∧ TabG 1 W := by
 rw [MakeChecks.laidMetH_plain _ _ _ (by kernel_rfl)] at h
 obtain ⟨ps, ⟨g1, t1, c1, f1, p1, q1, hg1, ht1, hv1, hd1, ⟨g2, t2, c2, f2, p2, q2, hg2, ht2, hv2, hd2, ⟨g3, t3, c3, f3, p3, q3, hg3, ht3, hv3, hd3, ⟨g4, t4, c4, f4, p4, q4, hg4, ht4, hv4, hd4, ⟨g5, t5, c5, f5, p5, q5, hg5, ht5, hv5, hd5, ⟨g6, t6, c6, f6, p6, q6, hg6, ht6, hv6, hd6, ⟨g7, t7, c7, f7, p7, q7, hg7, ht7, hv7, hd7, ⟨g8, t8, c8, f8, p8, q8, hg8, ht8, hv8, hd8, ⟨g9, t9, c9, f9, p9, q9, hg9, ht9, hv9, hd9, _, _⟩, _⟩, _⟩, _⟩, _⟩, _⟩, _⟩, _⟩, _⟩, _, _⟩ := h
 obtain rfl := Option.some.inj ((show Tryz.prog.globalNamed "traveldoc/dates.monthLengths" = some 5 by kernel_rfl).symm.trans hg4)
 obtain rfl := Option.some.inj ((show (Tryz.prog.globals[5]?).map (·.type) = some 187 by kernel_rfl).symm.trans ht4)
 obtain rfl := Option.some.inj ((show Tryz.prog.globalNamed "traveldoc/traveldocref12.groups" = some 1 by kernel_rfl).symm.trans hg5)
 obtain rfl := Option.some.inj ((show (Tryz.prog.globals[1]?).map (·.type) = some 57 by kernel_rfl).symm.trans ht5)
 obtain rfl := Option.some.inj ((show Tryz.prog.globalNamed "traveldoc/optical.weights" = some 4 by kernel_rfl).symm.trans hg7)
 obtain rfl := Option.some.inj ((show (Tryz.prog.globals[4]?).map (·.type) = some 119 by kernel_rfl).symm.trans ht7)
 obtain rfl := Option.some.inj ((show Tryz.prog.globalNamed "traveldoc/zone.birthRanges" = some 2 by kernel_rfl).symm.trans hg8)
 obtain rfl := Option.some.inj ((show (Tryz.prog.globals[2]?).map (·.type) = some 145 by kernel_rfl).symm.trans ht8)
 obtain rfl := Option.some.inj ((show Tryz.prog.globalNamed "traveldoc/reading.groups" = some 0 by kernel_rfl).symm.trans hg9)
 obtain rfl := Option.some.inj ((show (Tryz.prog.globals[0]?).map (·.type) = some 57 by kernel_rfl).symm.trans ht9)
 have hm : ∀ k : Nat, k < 12 → W.cell? ⟨5, k, none⟩ = some (.int .i64 (tb k)) := by
  intro k hk
  rw [show Rows.laid_traveldoc_dates_monthLengths (H := Unit) = _ from laid_m] at hd4
  have e := arr_cells [31, 28, 31, 30, 31, 30, 31, 31, 30, 31, 30, 31] Tryz.underlying187 Tryz.underlying3 (by kernel_rfl) rfl hd4 k hk
  rw [World.var?_cell hg4 hv4 k]
  have e2 : tb k = ([31, 28, 31, 30, 31, 30, 31, 31, 30, 31, 30, 31] : List Int)[k] := by unfold tb; rw [List.getD, List.getElem?_eq_getElem hk]; rfl
  rw [e2]
  simpa using e
 have hb : ∀ k : Nat, k < 6 → W.cell? ⟨2, k, none⟩ = some (.int .i64 (brI.getD k 0)) := by
  intro k hk
  rw [show Rows.laid_traveldoc_zone_birthRanges (H := Unit) = _ from laid_b] at hd8
  have e := arr_cells2 [[0, 99], [1, 12], [1, 31]] Tryz.underlying145 Tryz.underlying144 Tryz.underlying3 (by kernel_rfl) (by kernel_rfl) rfl (by decide) hd8 (k / 2) (k % 2) (by show k / 2 < 3; omega) (by omega)
  rw [show k / 2 * 2 + k % 2 = k by omega] at e
  rw [World.var?_cell hg8 hv8 k]
  have e2 : brI.getD k 0 = (([[0, 99], [1, 12], [1, 31]] : List (List Int))[k / 2]'(by show k / 2 < 3; omega)).getD (k % 2) 0 := by
   have : k = 0 ∨ k = 1 ∨ k = 2 ∨ k = 3 ∨ k = 4 ∨ k = 5 := by omega
   rcases this with rfl | rfl | rfl | rfl | rfl | rfl <;> rfl
  rw [e2]
  simpa using e
 obtain ⟨mx, hmx⟩ := hx
 refine ⟨⟨tab_w laid_w rfl hg7 hv7 hd7 rfl, ⟨cell_lt (hm 0 (by decide)), hm⟩, ⟨cell_lt (hb 0 (by decide)), hb⟩, cell_lt hmx, mx, hmx⟩, tab_g hg9 hv9 hd9, tab_g hg5 hv5 hd5⟩
end Go.Proofs.YtibahbkjjfmbgaaGreatDoor
