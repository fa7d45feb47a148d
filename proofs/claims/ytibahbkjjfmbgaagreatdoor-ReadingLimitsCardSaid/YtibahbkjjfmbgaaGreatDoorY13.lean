/-
  What is proved here: a law's statement out of its walk, where the walk may also use that the variables of the program have the shape of their types (the library's builder hands this on to nobody); and that internal/bytealg.MaxLen holds some number.
  And: a zone that came in by value, and the tables of the layer, as the laws' statements lay them.
-/
import Derived.Test.YtibahbkjjfmbgaaGreatDoorA3
import Derived.Test.YtibahbkjjfmbgaaGreatDoorShf
import Derived.Test.YtibahbkjjfmbgaaGreatDoorA5
import Derived.Test.YtibahbkjjfmbgaaGreatDoorY5
import Derived.Test.YtibahbkjjfmbgaaGreatDoorCards
import Derived.Test.YtibahbkjjfmbgaaGreatDoorTie
import Derived.Lib.SmallJoins
namespace Go.Proofs.YtibahbkjjfmbgaaGreatDoor
open Go.ChangeShapes Go.WideShapes Go.ChangeAt Go.RowKit

theorem handed_shaped {H : Type} {enc : TypeId × Value → H} {a : Assume} {C : Checked} {os : Os} {f : FuncId} {fn : Func} {s : ChangeSpec} {conds : List PathCond} {apart fresh handsOn again : Bool} {X : World → Array Value → Prop}
    (hX : ∀ (w w' : World) (args : Array Value), w.heap = w'.heap → X w args → X w' args) (own : ownKnob C.prog.godebug = none) (started : os.Started) (noInit : C.prog.inits.idxOf? f = none) (hfn : C.prog.funcs[f]? = some fn)
    (witness : ∃ (w : World) (tape : Tape) (i : Input), w.os = os ∧ (w.forCall tape i).Shaped C.prog ∧ i.vars = [] ∧ Input.okWide C.prog (w.forCall tape i) .any w.heap.size f i ∧
      ((s.pre enc C.prog fn conds apart (w.forCall tape i).memory i.args ∧ X (w.forCall tape i).memory i.args) ∧ sizedMet enc C.prog fn (OpenSpec.ofChange s) apart (w.forCall tape i).memory i.args) ∧ a.holds C.prog (lone (Frame.enter C.prog f i.args .normal) [] (w.forCall tape i)))
    (contract : ∀ (W : World) (base : Nat) (args : Array Value) (ds gs : List (DataW H)) (before : List MemPlace), W.ShapedOpen C.prog →
      (∀ (j : Nat) t v, fn.params[j]? = some t → args[j]? = some v → Value.okWide C.prog W .any base t v) → DataW.Whole enc C.prog fn.params.toList s.vars apart W args.toList ds gs before →
      (DataW.weightsEach C.prog (fn.params.toList ++ s.plain.varTypes C.prog) (ds ++ gs)).all (· ≤ reachBytes) = true → X W args →
      Calls C.prog f args W fun e W' => ∃ v, e = .returned v ∧ s.post enc C.prog fn apart fresh handsOn again W args v W') :
    ReturnsInHanded a C os f .any (fun w args => (s.pre enc C.prog fn conds apart w args ∧ X w args) ∧ sizedMet enc C.prog fn (OpenSpec.ofChange s) apart w args) (s.post enc C.prog fn apart fresh handsOn again) := by
  refine returnsInHanded_of_calls own started noInit witness (fun w tape i _ hsh _ hok hpre _ => ?_)
  obtain ⟨_, _, _, g, hg, _, _, _, _, hval⟩ := hok
  obtain rfl : g = fn := Option.some.inj (hg.symm.trans hfn)
  obtain ⟨⟨⟨ds, gs, before, hw, _⟩, hx⟩, hz⟩ := hpre
  have h := contract (w.forCall tape i) w.heap.size i.args ds gs before hsh hval (DataW.Whole.of_heap (w' := w.forCall tape i) (by rfl) hw) (hz.weights hw) (hX _ _ _ (by rfl) hx)
  refine h.mono fun e W' hp => ?_
  obtain ⟨v, rfl, hp⟩ := hp
  exact ChangeSpec.post_blind hp

theorem max_cell {W : World} (h : W.ShapedOpen Tryz.prog) : ∃ m, W.cell? ⟨3, 0, none⟩ = some (.int .i64 m) := sh_laysM145.s1_3 W h
theorem cell_below {w w' : World} {g : Nat} {v : Value} (h : w.cell? ⟨g, 0, none⟩ = some v) (hb : Below w.heap.size w w') : w'.cell? ⟨g, 0, none⟩ = some v := by
  refine (hb.cell (p := ⟨g, 0, none⟩) ?_).trans h
  rcases Nat.lt_or_ge g w.heap.size with h1 | h1
  · exact h1
  · unfold World.cell? at h
    rw [Array.getElem?_eq_none h1] at h
    cases h

/-! ### six variables -/
def laidL6 : List (String × DataW Unit) := [("math/bits.deBruijn32tab", Rows.laid_math_bits_deBruijn32tab), ("math/bits.deBruijn64tab", Rows.laid_math_bits_deBruijn64tab), ("internal/strconv.uint64pow10", Rows.laid_internal_strconv_uint64pow10), ("unicode/utf8.acceptRanges", Rows.laid_unicode_utf8_acceptRanges), ("traveldoc/optical.weights", Rows.laid_traveldoc_optical_weights), ("unicode/utf8.first", Rows.laid_unicode_utf8_first)]
abbrev laidKinds6 : List LaidKind := [.data, .data, .data, .data, .data, .pinned]
theorem of_laid6 {W : World} (h : laidMetH Tryz.prog laidL6 W) : TabW W := by
  rw [MakeChecks.laidMetH_plain _ _ _ (by kernel_rfl)] at h
  obtain ⟨ps, ⟨g1, t1, c1, f1, p1, q1, hg1, ht1, hv1, hd1, ⟨g2, t2, c2, f2, p2, q2, hg2, ht2, hv2, hd2, ⟨g3, t3, c3, f3, p3, q3, hg3, ht3, hv3, hd3, ⟨g4, t4, c4, f4, p4, q4, hg4, ht4, hv4, hd4, ⟨g5, t5, c5, f5, p5, q5, hg5, ht5, hv5, hd5, _, _⟩, _⟩, _⟩, _⟩, _⟩, _, _⟩ := h
  obtain rfl := Option.some.inj ((show Tryz.prog.globalNamed "traveldoc/optical.weights" = some 4 by kernel_rfl).symm.trans hg5)
  obtain rfl := Option.some.inj ((show (Tryz.prog.globals[4]?).map (·.type) = some 119 by kernel_rfl).symm.trans ht5)
  exact tab_w laid_w rfl hg5 hv5 hd5 rfl

end Go.Proofs.YtibahbkjjfmbgaaGreatDoor
namespace Go.Proofs.YtibahbkjjfmbgaaGreatDoor
open Go.ChangeShapes Go.WideShapes Go.ChangeAt Go.RowKit Go.Joins Go.Deep
set_option linter.unusedVariables false

theorem laidOutZ : laidOutB Tryz.prog = true := by kernel_rfl
/-! ## a zone by value -/
def zD {H : Type} (z : Zn) : DataW H := .agg [.lit (.int .i64 z.fm), .lit (.string z.kd), .lit (.string z.st), .lit (.string z.su), .lit (.string z.gi), .lit (.string z.nu), .lit (.string z.na), .lit (.string z.bi), .lit (.string z.sx), .lit (.string z.ex), .lit (.string z.op), .lit (.string z.se)]
theorem list12 {α : Type} {l : List α} (h : l.length = 12) : ∃ c0 c1 c2 c3 c4 c5 c6 c7 c8 c9 c10 c11, l = [c0, c1, c2, c3, c4, c5, c6, c7, c8, c9, c10, c11] := by
  match l, h with
  | [c0, c1, c2, c3, c4, c5, c6, c7, c8, c9, c10, c11], _ => exact ⟨c0, c1, c2, c3, c4, c5, c6, c7, c8, c9, c10, c11, rfl⟩
theorem arr12 {α : Type} {a : Array α} (h : a.size = 12) : ∃ c0 c1 c2 c3 c4 c5 c6 c7 c8 c9 c10 c11, a = #[c0, c1, c2, c3, c4, c5, c6, c7, c8, c9, c10, c11] := by
  obtain ⟨l⟩ := a
  obtain ⟨c0, c1, c2, c3, c4, c5, c6, c7, c8, c9, c10, c11, rfl⟩ := list12 (l := l) (by simpa using h)
  exact ⟨c0, c1, c2, c3, c4, c5, c6, c7, c8, c9, c10, c11, rfl⟩
section
variable {H : Type} {enc : TypeId × Value → H} {w : World} {base b0 : Nat} {sp : Nat → Bool} {held : Bool} {r : Reach} {v : Value} {d : DataW H} {p : List MemPlace}
theorem cell_s : Tryz.prog.cellsOf 9 = 1 := by kernel_rfl
theorem cell_i : Tryz.prog.cellsOf 3 = 1 := by kernel_rfl
set_option maxRecDepth 40000 in
set_option maxHeartbeats 4000000 in
theorem open_zone (hv : Value.okWide Tryz.prog w r b0 44 v) (h : DataW.Trod enc Tryz.prog w base sp held 44 v d p) : ∃ z : Zn, v = .agg (zV z).toArray ∧ d = zD z ∧ p = [] := by
  obtain ⟨cs, rfl, hsz⟩ := okWide_struct Tryz.underlying44 hv
  obtain ⟨c0, c1, c2, c3, c4, c5, c6, c7, c8, c9, c10, c11, rfl⟩ := arr12 (hsz.trans (by kernel_rfl))
  obtain ⟨fuel, hf⟩ := h
  obtain ⟨xs, n, _, hx, hl, hlen, hel⟩ := DataW.trod_struct Tryz.underlying44 hf
  obtain ⟨y0, y1, y2, y3, y4, y5, y6, y7, y8, y9, y10, y11, rfl⟩ := list12 (l := xs) (by simpa using hlen)
  have i0 := hel 0 _ rfl
  have i1 := hel 1 _ rfl
  have i2 := hel 2 _ rfl
  have i3 := hel 3 _ rfl
  have i4 := hel 4 _ rfl
  have i5 := hel 5 _ rfl
  have i6 := hel 6 _ rfl
  have i7 := hel 7 _ rfl
  have i8 := hel 8 _ rfl
  have i9 := hel 9 _ rfl
  have i10 := hel 10 _ rfl
  have i11 := hel 11 _ rfl
  simp [Value.cells, cell_s, cell_i] at i0 i1 i2 i3 i4 i5 i6 i7 i8 i9 i10 i11
  obtain ⟨x0, e0, rfl, w0⟩ := DataW.trod_int Tryz.underlying3 i0
  obtain ⟨s1, e1, rfl, w1⟩ := DataW.trod_string Tryz.underlying9 i1
  obtain ⟨s2, e2, rfl, w2⟩ := DataW.trod_string Tryz.underlying9 i2
  obtain ⟨s3, e3, rfl, w3⟩ := DataW.trod_string Tryz.underlying9 i3
  obtain ⟨s4, e4, rfl, w4⟩ := DataW.trod_string Tryz.underlying9 i4
  obtain ⟨s5, e5, rfl, w5⟩ := DataW.trod_string Tryz.underlying9 i5
  obtain ⟨s6, e6, rfl, w6⟩ := DataW.trod_string Tryz.underlying9 i6
  obtain ⟨s7, e7, rfl, w7⟩ := DataW.trod_string Tryz.underlying9 i7
  obtain ⟨s8, e8, rfl, w8⟩ := DataW.trod_string Tryz.underlying9 i8
  obtain ⟨s9, e9, rfl, w9⟩ := DataW.trod_string Tryz.underlying9 i9
  obtain ⟨s10, e10, rfl, w10⟩ := DataW.trod_string Tryz.underlying9 i10
  obtain ⟨s11, e11, rfl, w11⟩ := DataW.trod_string Tryz.underlying9 i11
  simp at e0 e1 e2 e3 e4 e5 e6 e7 e8 e9 e10 e11
  subst e0 e1 e2 e3 e4 e5 e6 e7 e8 e9 e10 e11
  simp only [List.map_cons, List.map_nil, List.flatMap_cons, List.flatMap_nil, Prod.mk.injEq] at hx
  refine ⟨⟨x0, s1.data.toList, s2.data.toList, s3.data.toList, s4.data.toList, s5.data.toList, s6.data.toList, s7.data.toList, s8.data.toList, s9.data.toList, s10.data.toList, s11.data.toList⟩, ?_, ?_, ?_⟩
  · simp only [zV, ← S_of]
  · exact hx.1
  · simpa using hx.2
end
theorem reach_zone {H : Type} {z : Zn} (h : (DataW.weightsEach Tryz.prog [44] [(zD z : DataW H)]).all (· ≤ reachBytes) = true) :
    (S z.kd).size ≤ 140737488355328 ∧ (S z.st).size ≤ 140737488355328 ∧ (S z.su).size ≤ 140737488355328 ∧ (S z.gi).size ≤ 140737488355328 ∧ (S z.nu).size ≤ 140737488355328 ∧ (S z.na).size ≤ 140737488355328 ∧ (S z.bi).size ≤ 140737488355328 ∧ (S z.sx).size ≤ 140737488355328 ∧ (S z.ex).size ≤ 140737488355328 ∧ (S z.op).size ≤ 140737488355328 ∧ (S z.se).size ≤ 140737488355328 := by
  have e : DataW.weightsEach Tryz.prog [44] [(zD z : DataW H)] = [z.kd.length, z.st.length, z.su.length, z.gi.length, z.nu.length, z.na.length, z.bi.length, z.sx.length, z.ex.length, z.op.length, z.se.length] := by kernel_rfl
  rw [e] at h
  have h2 := fun x hx => of_decide_eq_true (List.all_eq_true.1 h x hx)
  have e2 : reachBytes = 140737488351232 := rfl
  rw [e2] at h2
  simp only [S_size]
  refine ⟨?_, ?_, ?_, ?_, ?_, ?_, ?_, ?_, ?_, ?_, ?_⟩ <;> exact Nat.le_trans (h2 _ (by simp)) (by decide)
/-! ## the tables -/
theorem arr_cells2 {H : Type} {enc : TypeId × Value → H} {P : Program} {w : World} {base : Nat} {sp : Nat → Bool} {held : Bool} {fuel : Nat} {t e i : TypeId} {n : Nat} {k : IntKind} {cs : List Value} {q : List MemPlace} (rows : List (List Int))
    (ht : P.underlying t = some (.array n e)) (he : P.underlying e = some (.array 2 i)) (hi : P.underlying i = some (.int k)) (hc : P.cellsOf e = 2) (hci : P.cellsOf i = 1) (hn : rows.length = n) (h2 : ∀ x ∈ rows, x.length = 2)
    (h : DataW.trod enc P w base sp held fuel t cs = some (.agg (rows.map fun x => .agg (x.map fun z => .lit (.int k z))), q)) (j l : Nat) (hj : j < rows.length) (hl2 : l < 2) : cs[j * 2 + l]? = some (.int k ((rows[j]'hj).getD l 0)) := by
  obtain ⟨xs, m, _, ex, _, hl, hel⟩ := DataW.trod_array ht h
  have hE := hel j (by omega)
  rw [hc, List.getElem?_eq_getElem (by omega)] at hE
  have e3 : (xs.map (·.1)) = rows.map fun x => .agg (x.map fun z => .lit (.int k z)) := (DataW.agg.inj (Prod.mk.inj ex).1).symm
  have e4 : (xs.map (·.1))[j]? = (rows.map fun x => (DataW.agg (x.map fun z => .lit (.int k z)) : DataW H))[j]? := by rw [e3]
  rw [List.getElem?_map, List.getElem?_map, List.getElem?_eq_getElem (by omega : j < xs.length), List.getElem?_eq_getElem hj] at e4
  simp only [Option.map_some, Option.some.injEq] at e4
  have hr2 : (rows[j]'hj).length = 2 := h2 _ (List.getElem_mem hj)
  have h5 : DataW.trod enc P w base sp held m e ((cs.drop (j * 2)).take 2) = some (.agg ((rows[j]'hj).map fun z => .lit (.int k z)), (xs[j]'(by omega)).2) := by
    rw [hE, ← e4]
  have h6 := arr_cells (rows[j]'hj) he hi hci hr2 h5 l (by omega)
  rw [List.getElem?_take, if_pos hl2, List.getElem?_drop] at h6
  rw [h6, List.getD_eq_getElem?_getD, List.getElem?_eq_getElem (by omega)]
  rfl
def laidL9 : List (String × DataW Unit) := [("math/bits.deBruijn32tab", Rows.laid_math_bits_deBruijn32tab), ("math/bits.deBruijn64tab", Rows.laid_math_bits_deBruijn64tab), ("internal/strconv.uint64pow10", Rows.laid_internal_strconv_uint64pow10), ("traveldoc/dates.monthLengths", Rows.laid_traveldoc_dates_monthLengths), ("unicode/utf8.acceptRanges", Rows.laid_unicode_utf8_acceptRanges), ("traveldoc/optical.weights", Rows.laid_traveldoc_optical_weights), ("traveldoc/zone.birthRanges", Rows.laid_traveldoc_zone_birthRanges), ("unicode/utf8.first", Rows.laid_unicode_utf8_first)]
abbrev laidKinds9 : List LaidKind := [.data, .data, .data, .data, .data, .data, .data, .pinned]
theorem laid_b : Rows.laid_traveldoc_zone_birthRanges (H := Unit) = .agg (([[0, 99], [1, 12], [1, 31]] : List (List Int)).map fun x => .agg (x.map fun z => .lit (.int .i64 z))) := by kernel_rfl
theorem laid_m : Rows.laid_traveldoc_dates_monthLengths (H := Unit) = .agg (([31, 28, 31, 30, 31, 30, 31, 31, 30, 31, 30, 31] : List Int).map fun z => .lit (.int .i64 z)) := by kernel_rfl
theorem of_laid9 {W : World} (h : laidMetH Tryz.prog laidL9 W) (hx : ∃ m, W.cell? ⟨3, 0, none⟩ = some (.int .i64 m)) : Mm W := by
  rw [MakeChecks.laidMetH_plain _ _ _ (by kernel_rfl)] at h
  obtain ⟨ps, ⟨g1, t1, c1, f1, p1, q1, hg1, ht1, hv1, hd1, ⟨g2, t2, c2, f2, p2, q2, hg2, ht2, hv2, hd2, ⟨g3, t3, c3, f3, p3, q3, hg3, ht3, hv3, hd3, ⟨g4, t4, c4, f4, p4, q4, hg4, ht4, hv4, hd4, ⟨g5, t5, c5, f5, p5, q5, hg5, ht5, hv5, hd5, ⟨g6, t6, c6, f6, p6, q6, hg6, ht6, hv6, hd6, ⟨g7, t7, c7, f7, p7, q7, hg7, ht7, hv7, hd7, _, _⟩, _⟩, _⟩, _⟩, _⟩, _⟩, _⟩, _, _⟩ := h
  obtain rfl := Option.some.inj ((show Tryz.prog.globalNamed "traveldoc/dates.monthLengths" = some 5 by kernel_rfl).symm.trans hg4)
  obtain rfl := Option.some.inj ((show (Tryz.prog.globals[5]?).map (·.type) = some 187 by kernel_rfl).symm.trans ht4)
  obtain rfl := Option.some.inj ((show Tryz.prog.globalNamed "traveldoc/optical.weights" = some 4 by kernel_rfl).symm.trans hg6)
  obtain rfl := Option.some.inj ((show (Tryz.prog.globals[4]?).map (·.type) = some 119 by kernel_rfl).symm.trans ht6)
  obtain rfl := Option.some.inj ((show Tryz.prog.globalNamed "traveldoc/zone.birthRanges" = some 2 by kernel_rfl).symm.trans hg7)
  obtain rfl := Option.some.inj ((show (Tryz.prog.globals[2]?).map (·.type) = some 145 by kernel_rfl).symm.trans ht7)
  have hm : ∀ k : Nat, k < 12 → W.cell? ⟨5, k, none⟩ = some (.int .i64 (tb k)) := by
    intro k hk
    rw [show Rows.laid_traveldoc_dates_monthLengths (H := Unit) = _ from laid_m] at hd4
    have e := arr_cells [31, 28, 31, 30, 31, 30, 31, 31, 30, 31, 30, 31] Tryz.underlying187 Tryz.underlying3 (by kernel_rfl) rfl hd4 k hk
    rw [World.var?_cell hg4 hv4 k]
    have e2 : tb k = ([31, 28, 31, 30, 31, 30, 31, 31, 30, 31, 30, 31] : List Int)[k] := by unfold tb; rw [List.getD, List.getElem?_eq_getElem hk]; rfl
    rw [e2]
    simpa using e
  have hb : ∀ k : Nat, k < 6 → W.cell? ⟨2, k, none⟩ = some (.int .i64 (brI.getD k 0)) := by
    intro k hk
    rw [show Rows.laid_traveldoc_zone_birthRanges (H := Unit) = _ from laid_b] at hd7
    have e := arr_cells2 [[0, 99], [1, 12], [1, 31]] Tryz.underlying145 Tryz.underlying144 Tryz.underlying3 (by kernel_rfl) (by kernel_rfl) rfl (by decide) hd7 (k / 2) (k % 2) (by show k / 2 < 3; omega) (by omega)
    rw [show k / 2 * 2 + k % 2 = k by omega] at e
    rw [World.var?_cell hg7 hv7 k]
    have e2 : brI.getD k 0 = (([[0, 99], [1, 12], [1, 31]] : List (List Int))[k / 2]'(by show k / 2 < 3; omega)).getD (k % 2) 0 := by
      have : k = 0 ∨ k = 1 ∨ k = 2 ∨ k = 3 ∨ k = 4 ∨ k = 5 := by omega
      rcases this with rfl | rfl | rfl | rfl | rfl | rfl <;> rfl
    rw [e2]
    simpa using e
  obtain ⟨mx, hmx⟩ := hx
  exact ⟨tab_w laid_w rfl hg6 hv6 hd6 rfl, ⟨cell_lt (hm 0 (by decide)), hm⟩, ⟨cell_lt (hb 0 (by decide)), hb⟩, cell_lt hmx, mx, hmx⟩
end Go.Proofs.YtibahbkjjfmbgaaGreatDoor
