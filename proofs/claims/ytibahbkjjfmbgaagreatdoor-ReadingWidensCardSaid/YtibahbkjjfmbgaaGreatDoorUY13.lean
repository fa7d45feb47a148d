/-
  What is proved here: a law's statement out of its walk, where the walk may also use that the variables of the program have the shape of their types (the library's builder hands this on to nobody); and that internal/bytealg.MaxLen holds some number.
-/
import Derived.Test.YtibahbkjjfmbgaaGreatDoorUA3
import Derived.Test.YtibahbkjjfmbgaaGreatDoorUShf
import Derived.Test.YtibahbkjjfmbgaaGreatDoorUA5
import Derived.Test.YtibahbkjjfmbgaaGreatDoorUY5
import Derived.Test.YtibahbkjjfmbgaaGreatDoorCards
import Derived.Test.YtibahbkjjfmbgaaGreatDoorTie
import Derived.Lib.SmallJoins
namespace Go.Proofs.YtibahbkjjfmbgaaGreatDoor
open Go.ChangeShapes Go.WideShapes Go.ChangeAt Go.RowKit
theorem handed_shaped {H : Type} {enc : TypeId × Value → H} {a : Assume} {C : Checked} {os : Os} {f : FuncId} {fn : Func} {s : ChangeSpec} {conds : List PathCond} {apart fresh handsOn again : Bool} {X : World → Array Value → Prop}
 (hX : ∀ (w w' : World) (args : Array Value), w.heap = w'.heap → X w args → X w' args) (own : ownKnob C.prog.godebug = none) (started : os.Started) (noInit : C.prog.inits.idxOf? f = none) (hfn : C.prog.funcs[f]? = some fn)
 (witness : ∃ (w : World) (tape : Tape) (i : Input), w.os = os ∧ (w.forCall tape i).Shaped C.prog ∧ i.vars = [] ∧ Input.okWide C.prog (w.forCall tape i) .any w.heap.size f i ∧
  ((s.pre enc C.prog fn conds apart (w.forCall tape i).memory i.args ∧ X (w.forCall tape i).memory i.args) ∧ sizedMet enc C.prog fn (OpenSpec.ofChange s) apart (w.forCall tape i).memory i.args) ∧ a.holds C.prog (lone (Frame.enter C.prog f i.args .normal) [] (w.forCall tape i)))
 (contract : ∀ (W : World) (base : Nat) (args : Array Value) (ds gs : List (DataW H)) (before : List MemPlace), W.ShapedOpen C.prog →
  (∀ (j : Nat) t v, fn.params[j]? = some t → args[j]? = some v → Value.okWide C.prog W .any base t v) → DataW.Whole enc C.prog fn.params.toList s.vars apart W args.toList ds gs before →
  (DataW.weightsEach C.prog (fn.params.toList ++ s.plain.varTypes C.prog) (ds ++ gs)).all (· ≤ reachBytes) = true → X W args →
  Calls C.prog f args W fun e W' => ∃ v, e = .returned v ∧ s.post enc C.prog fn apart fresh handsOn again W args v W') :
 ReturnsInHanded a C os f .any (fun w args => (s.pre enc C.prog fn conds apart w args ∧ X w args) ∧ sizedMet enc C.prog fn (OpenSpec.ofChange s) apart w args) (s.post enc C.prog fn apart fresh handsOn again) := by
 refine returnsInHanded_of_calls own started noInit witness (fun w tape i _ hsh _ hok hpre _ => ?_)
 obtain ⟨_, _, _, g, hg, _, _, _, _, hval⟩ := hok
 obtain rfl : g = fn := Option.some.inj (hg.symm.trans hfn)
 obtain ⟨⟨⟨ds, gs, before, hw, _⟩, hx⟩, hz⟩ := hpre
 have h := contract (w.forCall tape i) w.heap.size i.args ds gs before hsh hval (DataW.Whole.of_heap (w' := w.forCall tape i) (by rfl) hw) (hz.weights hw) (hX _ _ _ (by rfl) hx)
 refine h.mono fun e W' hp => ?_
 obtain ⟨v, rfl, hp⟩ := hp
 exact ChangeSpec.post_blind hp
theorem max_cell {W : World} (h : W.ShapedOpen Tryz.prog) : ∃ m, W.cell? ⟨3, 0, none⟩ = some (.int .i64 m) := sh_laysM145.s1_3 W h
end Go.Proofs.YtibahbkjjfmbgaaGreatDoor
namespace Go.Proofs.YtibahbkjjfmbgaaGreatDoor
open Go.ChangeShapes Go.WideShapes Go.ChangeAt Go.RowKit Go.Joins Go.Deep
set_option linter.unusedVariables false
section
variable {H : Type} {enc : TypeId × Value → H} {w : World} {base b0 : Nat} {sp : Nat → Bool} {held : Bool} {r : Reach} {v : Value} {d : DataW H} {p : List MemPlace}
theorem cell_s : Tryz.prog.cellsOf 9 = 1 := by kernel_rfl
end
theorem arr_cells2 {H : Type} {enc : TypeId × Value → H} {P : Program} {w : World} {base : Nat} {sp : Nat → Bool} {held : Bool} {fuel : Nat} {t e i : TypeId} {n : Nat} {k : IntKind} {cs : List Value} {q : List MemPlace} (rows : List (List Int))
 (ht : P.underlying t = some (.array n e)) (he : P.underlying e = some (.array 2 i)) (hi : P.underlying i = some (.int k)) (hc : P.cellsOf e = 2) (hci : P.cellsOf i = 1) (hn : rows.length = n) (h2 : ∀ x ∈ rows, x.length = 2)
 (h : DataW.trod enc P w base sp held fuel t cs = some (.agg (rows.map fun x => .agg (x.map fun z => .lit (.int k z))), q)) (j l : Nat) (hj : j < rows.length) (hl2 : l < 2) : cs[j * 2 + l]? = some (.int k ((rows[j]'hj).getD l 0)) := by
 obtain ⟨xs, m, _, ex, _, hl, hel⟩ := DataW.trod_array ht h
 have hE := hel j (by omega)
 rw [hc, List.getElem?_eq_getElem (by omega)] at hE
 have e3 : (xs.map (·.1)) = rows.map fun x => .agg (x.map fun z => .lit (.int k z)) := (DataW.agg.inj (Prod.mk.inj ex).1).symm
 have e4 : (xs.map (·.1))[j]? = (rows.map fun x => (DataW.agg (x.map fun z => .lit (.int k z)) : DataW H))[j]? := by rw [e3]
 rw [List.getElem?_map, List.getElem?_map, List.getElem?_eq_getElem (by omega : j < xs.length), List.getElem?_eq_getElem hj] at e4
 simp only [Option.map_some, Option.some.injEq] at e4
 have hr2 : (rows[j]'hj).length = 2 := h2 _ (List.getElem_mem hj)
 have h5 : DataW.trod enc P w base sp held m e ((cs.drop (j * 2)).take 2) = some (.agg ((rows[j]'hj).map fun z => .lit (.int k z)), (xs[j]'(by omega)).2) := by
  rw [hE, ← e4]
 have h6 := arr_cells (rows[j]'hj) he hi hci hr2 h5 l (by omega)
 rw [List.getElem?_take, if_pos hl2, List.getElem?_drop] at h6
 rw [h6, List.getD_eq_getElem?_getD, List.getElem?_eq_getElem (by omega)]
 rfl
theorem laid_b : Rows.laid_traveldoc_zone_birthRanges (H := Unit) = .agg (([[0, 99], [1, 12], [1, 31]] : List (List Int)).map fun x => .agg (x.map fun z => .lit (.int .i64 z))) := by kernel_rfl
theorem laid_m : Rows.laid_traveldoc_dates_monthLengths (H := Unit) = .agg (([31, 28, 31, 30, 31, 30, 31, 31, 30, 31, 30, 31] : List Int).map fun z => .lit (.int .i64 z)) := by kernel_rfl
end Go.Proofs.YtibahbkjjfmbgaaGreatDoor
