/-
  What is proved here: the tables that the rows of layer 10 list lie in memory as their data say; the program's own check of the layer.
-/
import Derived.Test.YtdlcoilpkelbaaaGreatDoorOd
import Derived.Test.YtdlcoilpkelbaaaGreatDoorOm
import Derived.Test.YtdlcoilpkelbaaaGreatDoorCards
import Derived.Test.YtdlcoilpkelbaaaGreatDoorTie
import Derived.Test.YtdlcoilpkelbaaaGreatDoorStrIn
import Derived.ProofKit
import Derived.OpenShut
import Derived.LaidMore
import Derived.Lay
import Derived.SevenTiedAt
import Derived.Stop.Joined
namespace Go.Proofs.YtdlcoilpkelbaaaGreatDoor
open Go.ChangeShapes Go.WideShapes Go.ChangeAt Go.RowKit

/-- the elements of a listed array of integers, as cells -/
theorem arr_cells {H : Type} {enc : TypeId × Value → H} {P : Program} {w : World} {base : Nat} {sp : Nat → Bool} {held : Bool} {fuel : Nat} {t e : TypeId} {n : Nat} {k : IntKind} {cs : List Value} {q : List MemPlace} (zs : List Int)
    (ht : P.underlying t = some (.array n e)) (he : P.underlying e = some (.int k)) (hc : P.cellsOf e = 1) (hn : zs.length = n)
    (h : DataW.trod enc P w base sp held fuel t cs = some (.agg (zs.map fun z => .lit (.int k z)), q)) (j : Nat) (hj : j < zs.length) : cs[j]? = some (.int k zs[j]) := by
  obtain ⟨xs, m, _, ex, _, hl, hel⟩ := DataW.trod_array ht h
  have hE := hel j (by omega)
  rw [hc, Nat.mul_one, List.getElem?_eq_getElem (by omega)] at hE
  obtain ⟨z, e1, e2, _⟩ := DataW.trod_int he hE
  have e3 : (xs.map (·.1)) = zs.map fun n => .lit (.int k n) := (DataW.agg.inj (Prod.mk.inj ex).1).symm
  have e4 : (xs.map (·.1))[j]? = (zs.map fun n => (DataW.lit (.int k n) : DataW H))[j]? := by rw [e3]
  rw [List.getElem?_map, List.getElem?_map, List.getElem?_eq_getElem (by omega : j < xs.length), List.getElem?_eq_getElem hj, e2] at e4
  have hz : z = zs[j] := by simpa using e4
  have h0 : ((cs.drop j).take 1)[0]? = some (.int k z) := by rw [e1]; rfl
  rw [← hz]
  simpa using h0

theorem own : ownKnob Tryz.prog.godebug = none := by kernel_rfl
def laidL : List (String × DataW Unit) := [("math/bits.deBruijn32tab", Rows.laid_math_bits_deBruijn32tab), ("math/bits.deBruijn64tab", Rows.laid_math_bits_deBruijn64tab), ("internal/strconv.uint64pow10", Rows.laid_internal_strconv_uint64pow10), ("traveldoc/optical.weights", Rows.laid_traveldoc_optical_weights)]
abbrev laidKinds : List LaidKind := [.data, .data, .data, .data]
theorem laid_w : Rows.laid_traveldoc_optical_weights (H := Unit) = .agg (([7, 3, 1] : List Int).map fun z => .lit (.int .i64 z)) := by kernel_rfl
theorem tab_w {W : World} {n : String} {g : Nat} {t : TypeId} {cs : Array Value} {fuel : Nat} {p : List MemPlace} {d : DataW Unit} (hd0 : d = .agg (([7, 3, 1] : List Int).map fun z => .lit (.int .i64 z))) (ht : t = 99) (hg : Tryz.prog.globalNamed n = some g) (hv : W.var? Tryz.prog n = some cs)
    (hd : DataW.trod (fun _ => ()) Tryz.prog W 0 (fun _ => true) false fuel t cs.toList = some (d, p)) (he : g = 1) : TabW W := by
  subst hd0 ht he
  have hk : ∀ k : Nat, (hk : k < 3) → W.cell? ⟨1, k, none⟩ = some (.int .i64 (([7, 3, 1] : List Int)[k]'hk)) := by
    intro k hk
    have e := arr_cells [7, 3, 1] Tryz.underlying99 Tryz.underlying3 (by kernel_rfl) rfl hd k hk
    rw [World.var?_cell hg hv k]
    simpa using e
  exact ⟨hk 0 (by decide), hk 1 (by decide), hk 2 (by decide)⟩
theorem of_laid {W : World} (h : laidMetH Tryz.prog laidL W) : TabW W := by
  rw [MakeChecks.laidMetH_plain _ _ _ (by kernel_rfl)] at h
  obtain ⟨ps, ⟨g1, t1, c1, f1, p1, q1, hg1, ht1, hv1, hd1, ⟨g2, t2, c2, f2, p2, q2, hg2, ht2, hv2, hd2, ⟨g3, t3, c3, f3, p3, q3, hg3, ht3, hv3, hd3, ⟨g4, t4, c4, f4, p4, q4, hg4, ht4, hv4, hd4, _, _⟩, _⟩, _⟩, _⟩, _, _⟩ := h
  obtain rfl := Option.some.inj ((show Tryz.prog.globalNamed "traveldoc/optical.weights" = some 1 by kernel_rfl).symm.trans hg4)
  obtain rfl := Option.some.inj ((show (Tryz.prog.globals[1]?).map (·.type) = some 99 by kernel_rfl).symm.trans ht4)
  exact tab_w laid_w rfl hg4 hv4 hd4 rfl

theorem TabW.below {w w' : World} (h : TabW w) (hb : Below w.heap.size w w') : TabW w' := by
  have hl : 1 < w.heap.size := by
    rcases Nat.lt_or_ge 1 w.heap.size with h1 | h1
    · exact h1
    · have := h.1
      unfold World.cell? at this
      rw [Array.getElem?_eq_none h1] at this
      cases this
  exact ⟨(hb.cell (p := ⟨1, 0, none⟩) hl).trans h.1, (hb.cell (p := ⟨1, 1, none⟩) hl).trans h.2.1, (hb.cell (p := ⟨1, 2, none⟩) hl).trans h.2.2⟩
theorem TabW.drew {w w' : World} (h : TabW w) (hb : ∃ n, w' = w.drewN n) : TabW w' := by obtain ⟨n, rfl⟩ := hb; exact h
theorem below_dr {w w' : World} (hb : ∃ n, w' = w.drewN n) : Below w.heap.size w w' := by obtain ⟨n, rfl⟩ := hb; exact below_drewN _ _ _

theorem aw_digit (w : World) (h : TabW w) : Calls Tryz.prog 86 #[.string ⟨#[53, 50, 48, 55, 50, 55]⟩] w fun e w' => e = .returned (.tuple #[.string ⟨#[51]⟩, .int .i64 0]) ∧ ∃ n, w' = w.drewN n := by
  have := p_digit ⟨#[53, 50, 48, 55, 50, 55]⟩ [53, 50, 48, 55, 50, 55] rfl w (by decide) h
  rw [show dgL [53, 50, 48, 55, 50, 55] = [51] by decide, show dgE [53, 50, 48, 55, 50, 55] = 0 by decide] at this
  exact this
theorem aw_names (w : World) : Calls Tryz.prog 76 #[.string ⟨#[79, 75]⟩, .string ⟨#[65]⟩, .int .i64 8] w fun e w' => e = .returned (.tuple #[.string ⟨#[79, 75, 60, 60, 65, 60, 60, 60]⟩, .int .i64 0]) ∧ Below w.heap.size w w' := by
  have := p_names ⟨#[79, 75]⟩ ⟨#[65]⟩ [79, 75] [65] rfl rfl 8 w (by decide) (by decide)
  rw [show namesL [79, 75] [65] 8 = [79, 75, 60, 60, 65, 60, 60, 60] by decide, show namesE [79, 75] [65] 8 = 0 by decide] at this
  exact this
end Go.Proofs.YtdlcoilpkelbaaaGreatDoor
