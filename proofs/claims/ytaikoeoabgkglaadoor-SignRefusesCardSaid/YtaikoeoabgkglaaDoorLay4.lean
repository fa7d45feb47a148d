/-
  What is proved here: a table of integers that a row lists lies in memory as its datum says; and that for the tables of the digest.
-/
import Derived.Test.YtaikoeoabgkglaaDoorTa4
import Derived.Test.YtaikoeoabgkglaaDoorCards
import Derived.Test.YtaikoeoabgkglaaDoorTie
import Derived.ProofKit
import Derived.OpenShut
import Derived.LaidMore
import Derived.Lay
import Derived.SevenTiedAt
import Derived.Stop.Joined
namespace Go.Proofs.YtaikoeoabgkglaaDoor
open Go.ChangeShapes Go.WideShapes Go.ChangeAt Go.RowKit

/-- the elements of a listed array of integers, as cells -/
theorem arr_cells {H : Type} {enc : TypeId × Value → H} {P : Program} {w : World} {base : Nat} {sp : Nat → Bool} {held : Bool} {fuel : Nat} {t e : TypeId} {n : Nat} {k : IntKind} {cs : List Value} {q : List MemPlace} (zs : List Int)
    (ht : P.underlying t = some (.array n e)) (he : P.underlying e = some (.int k)) (hc : P.cellsOf e = 1) (hn : zs.length = n)
    (h : DataW.trod enc P w base sp held fuel t cs = some (.agg (zs.map fun z => .lit (.int k z)), q)) (j : Nat) (hj : j < zs.length) : cs[j]? = some (.int k zs[j]) := by
  obtain ⟨xs, m, _, ex, _, hl, hel⟩ := DataW.trod_array ht h
  have hE := hel j (by omega)
  rw [hc, Nat.mul_one, List.getElem?_eq_getElem (by omega)] at hE
  obtain ⟨z, e1, e2, _⟩ := DataW.trod_int he hE
  have e3 : (xs.map (·.1)) = zs.map fun n => .lit (.int k n) := (DataW.agg.inj (Prod.mk.inj ex).1).symm
  have e4 : (xs.map (·.1))[j]? = (zs.map fun n => (DataW.lit (.int k n) : DataW H))[j]? := by rw [e3]
  rw [List.getElem?_map, List.getElem?_map, List.getElem?_eq_getElem (by omega : j < xs.length), List.getElem?_eq_getElem hj, e2] at e4
  have hz : z = zs[j] := by simpa using e4
  have h0 : ((cs.drop j).take 1)[0]? = some (.int k z) := by rw [e1]; rfl
  rw [← hz]
  simpa using h0

theorem own : ownKnob Tryd.prog.godebug = none := by kernel_rfl
def laidL : List (String × DataW Unit) := [("traveldoc/digest.firstState", Rows.laid_traveldoc_digest_firstState), ("traveldoc/digest.constants", Rows.laid_traveldoc_digest_constants)]
abbrev laidKinds : List LaidKind := [.data, .data]
def laidL3 : List (String × DataW Unit) := [("traveldoc/traveldocref04.constants", Rows.laid_traveldoc_traveldocref04_constants), ("traveldoc/digest.firstState", Rows.laid_traveldoc_digest_firstState), ("traveldoc/digest.constants", Rows.laid_traveldoc_digest_constants)]
abbrev laidKinds3 : List LaidKind := [.data, .data, .data]
def numsOf (l : List UInt32) : List Int := l.map fun x => (x.toNat : Int)
theorem nums_length (l : List UInt32) : (numsOf l).length = l.length := by simp [numsOf]
theorem nums_get (l : List UInt32) (k : Nat) (h : k < l.length) : (numsOf l)[k]'(by rw [nums_length]; exact h) = ((l.getD k 0).toNat : Int) := by
  rw [getD_at h]
  simp [numsOf]
theorem kT_length : kT.length = 64 := rfl
theorem laid_kP : Rows.laid_traveldoc_digest_constants (H := Unit) = .agg ((numsOf kT).map fun z => .lit (.int .u32 z)) := by kernel_rfl
theorem laid_kR : Rows.laid_traveldoc_traveldocref04_constants (H := Unit) = .agg ((numsOf kT).map fun z => .lit (.int .u32 z)) := by kernel_rfl
theorem laid_fP : Rows.laid_traveldoc_digest_firstState (H := Unit) = .agg ((numsOf firstW).map fun z => .lit (.int .u32 z)) := by kernel_rfl
theorem block_of_cell {w : World} {b k : Nat} {v : Value} (h : w.cell? ⟨b, k, none⟩ = some v) : b < w.heap.size := by
  rcases Nat.lt_or_ge b w.heap.size with h1 | h1
  · exact h1
  · unfold World.cell? at h
    rw [Array.getElem?_eq_none h1] at h
    cases h
theorem tab_k {W : World} {n : String} {g : Nat} {t : TypeId} {cs : Array Value} {fuel : Nat} {p : List MemPlace} {d : DataW Unit} (hd0 : d = .agg ((numsOf kT).map fun z => .lit (.int .u32 z))) (ht : t = 70) (hg : Tryd.prog.globalNamed n = some g) (hv : W.var? Tryd.prog n = some cs)
    (hd : DataW.trod (fun _ => ()) Tryd.prog W 0 (fun _ => true) false fuel t cs.toList = some (d, p)) : g < W.heap.size ∧ ∀ k, k < 64 → W.cell? ⟨g, k, none⟩ = some (.int .u32 ((kT.getD k 0).toNat : Int)) := by
  subst hd0 ht
  have hk : ∀ k : Nat, k < 64 → W.cell? ⟨g, k, none⟩ = some (.int .u32 ((kT.getD k 0).toNat : Int)) := by
    intro k hk
    have hl : (numsOf kT).length = 64 := by rw [nums_length]; rfl
    have e := arr_cells (numsOf kT) Tryd.underlying70 Tryd.underlying59 (by kernel_rfl) hl hd k (by rw [hl]; exact hk)
    rw [World.var?_cell hg hv k, ← nums_get kT k (by rw [kT_length]; exact hk)]
    simpa using e
  exact ⟨block_of_cell (hk 0 (by decide)), hk⟩
theorem tab_f {W : World} {n : String} {g : Nat} {t : TypeId} {cs : Array Value} {fuel : Nat} {p : List MemPlace} {d : DataW Unit} (hd0 : d = .agg ((numsOf firstW).map fun z => .lit (.int .u32 z))) (ht : t = 62) (hg : Tryd.prog.globalNamed n = some g) (hv : W.var? Tryd.prog n = some cs)
    (hd : DataW.trod (fun _ => ()) Tryd.prog W 0 (fun _ => true) false fuel t cs.toList = some (d, p)) : g < W.heap.size ∧ W.rangeAt g 0 (Ws firstW) := by
  subst hd0 ht
  have hk : ∀ k : Nat, k < 8 → W.cell? ⟨g, k, none⟩ = some (.int .u32 ((firstW.getD k 0).toNat : Int)) := by
    intro k hk
    have hl : (numsOf firstW).length = 8 := by rw [nums_length]; rfl
    have e := arr_cells (numsOf firstW) Tryd.underlying62 Tryd.underlying59 (by kernel_rfl) hl hd k (by rw [hl]; exact hk)
    rw [World.var?_cell hg hv k, ← nums_get firstW k hk]
    simpa using e
  refine ⟨block_of_cell (hk 0 (by decide)), fun j v hv => ?_⟩
  have hj : j < 8 := by have := (List.getElem?_eq_some_iff.1 hv).1; rwa [Ws_length] at this
  rw [Nat.zero_add, hk j hj, ← hv, ws_get (show j < firstW.length from hj), getD_at (show j < firstW.length from hj)]
theorem of_laid {W : World} (h : laidMetH Tryd.prog laidL W) : TabA W := by
  rw [MakeChecks.laidMetH_plain _ _ _ (by kernel_rfl)] at h
  obtain ⟨ps, ⟨g, t, cs, fuel, p, q, hg, ht, hv, hd, ⟨g2, t2, cs2, fuel2, p2, q2, hg2, ht2, hv2, hd2, _, _⟩, _⟩, _, _⟩ := h
  obtain rfl := Option.some.inj ((show Tryd.prog.globalNamed "traveldoc/digest.firstState" = some 0 by kernel_rfl).symm.trans hg)
  obtain rfl := Option.some.inj ((show Tryd.prog.globalNamed "traveldoc/digest.constants" = some 2 by kernel_rfl).symm.trans hg2)
  obtain rfl := Option.some.inj ((show (Tryd.prog.globals[0]?).map (·.type) = some 62 by kernel_rfl).symm.trans ht)
  obtain rfl := Option.some.inj ((show (Tryd.prog.globals[2]?).map (·.type) = some 70 by kernel_rfl).symm.trans ht2)
  have h1 := tab_f laid_fP rfl hg hv hd
  have h2 := tab_k laid_kP rfl hg2 hv2 hd2
  exact ⟨h2, h1.2, h1.1⟩
theorem of_laid3 {W : World} (h : laidMetH Tryd.prog laidL3 W) : TabA W ∧ TabR W := by
  rw [MakeChecks.laidMetH_plain _ _ _ (by kernel_rfl)] at h
  obtain ⟨ps, ⟨g0, t0, cs0, fuel0, p0, q0, hg0, ht0, hv0, hd0, ⟨g, t, cs, fuel, p, q, hg, ht, hv, hd, ⟨g2, t2, cs2, fuel2, p2, q2, hg2, ht2, hv2, hd2, _, _⟩, _⟩, _⟩, _, _⟩ := h
  obtain rfl := Option.some.inj ((show Tryd.prog.globalNamed "traveldoc/traveldocref04.constants" = some 1 by kernel_rfl).symm.trans hg0)
  obtain rfl := Option.some.inj ((show Tryd.prog.globalNamed "traveldoc/digest.firstState" = some 0 by kernel_rfl).symm.trans hg)
  obtain rfl := Option.some.inj ((show Tryd.prog.globalNamed "traveldoc/digest.constants" = some 2 by kernel_rfl).symm.trans hg2)
  obtain rfl := Option.some.inj ((show (Tryd.prog.globals[1]?).map (·.type) = some 70 by kernel_rfl).symm.trans ht0)
  obtain rfl := Option.some.inj ((show (Tryd.prog.globals[0]?).map (·.type) = some 62 by kernel_rfl).symm.trans ht)
  obtain rfl := Option.some.inj ((show (Tryd.prog.globals[2]?).map (·.type) = some 70 by kernel_rfl).symm.trans ht2)
  have h0 := tab_k laid_kR rfl hg0 hv0 hd0
  have h1 := tab_f laid_fP rfl hg hv hd
  have h2 := tab_k laid_kP rfl hg2 hv2 hd2
  exact ⟨⟨h2, h1.2, h1.1⟩, h0⟩

end Go.Proofs.YtaikoeoabgkglaaDoor
