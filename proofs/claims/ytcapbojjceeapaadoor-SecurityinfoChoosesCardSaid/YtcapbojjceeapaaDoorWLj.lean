/-
  What is proved here: two lists of infos that came in, as an array.
-/
import Derived.Test.YtcapbojjceeapaaDoorWLi
namespace Go.Proofs.YtcapbojjceeapaaDoor
open Go.ChangeShapes Go.WideShapes Go.ChangeAt Go.RowKit Go.Deep
set_option maxRecDepth 8000
set_option linter.unusedVariables false
set_option linter.unusedSimpArgs false
theorem cells_ims2 : Tryd.prog.cellsOf 42 = 2 := by kernel_rfl
section
variable {H : Type} {enc : TypeId × Value → H} {W : World}
theorem weights_arr {t e : TypeId} {n : Nat} (hu : Tryd.prog.underlying t = some (.array n e)) (ps : List (DataW H)) : (DataW.agg ps).weights Tryd.prog t = DataW.weightsAll Tryd.prog e ps := by
  simp only [DataW.weights, hu]
theorem open_infos2 {v : Value} {base : Nat} {d : DataW H} {p : List MemPlace} (hv : Value.okWide Tryd.prog W .any base 42 v)
    (h : DataW.Trod enc Tryd.prog W 0 (fun _ => true) true 42 v d p) (hw : ∀ k ∈ d.weights Tryd.prog 42, k ≤ reachBytes) :
    ∃ (x : List Im) (a : Option Addr) (c : Nat) (y : List Im) (b : Option Addr) (e : Nat), v = .agg #[.slice a x.length c, .slice b y.length e] ∧ SeesP W (· < W.heap.size) a (Ics x) ∧ x.length * 40 ≤ 140737488351232 ∧ SeesP W (· < W.heap.size) b (Ics y) ∧ y.length * 40 ≤ 140737488351232 := by
  obtain ⟨cs, rfl, hsz, _⟩ : ∃ cs, v = .agg cs ∧ cs.size = Tryd.prog.cellsOf 42 ∧ Row.okWide Tryd.prog W .any base 42 cs := by
    simpa [Value.okWide, Tryd.underlying42] using hv
  rw [cells_ims2] at hsz
  obtain ⟨c0, c1, rfl⟩ : ∃ c0 c1, cs = #[c0, c1] := by
    obtain ⟨l⟩ := cs
    match l, hsz with
    | [a, b], _ => exact ⟨a, b, rfl⟩
  obtain ⟨fuel, hf⟩ := h
  obtain ⟨xs, m, _, ex, _, hl, hel⟩ := DataW.trod_array Tryd.underlying42 hf
  obtain ⟨y0, y1, rfl⟩ : ∃ y0 y1, xs = [y0, y1] := by
    match xs, hl with
    | [a, b], _ => exact ⟨a, b, rfl⟩
  have h0 := hel 0 (by decide)
  have h1 := hel 1 (by decide)
  rw [cells_ims1] at h0 h1
  simp [Value.cells] at h0 h1
  obtain ⟨d0, p0⟩ := y0
  obtain ⟨d1, p1⟩ := y1
  injection ex with ex _
  subst ex
  rw [weights_arr Tryd.underlying42] at hw
  obtain ⟨x, a, c, rfl, s0, m0⟩ := open_infos_at h0 fun k hk => hw k (weightsAll_mem _ _ d0 (by simp) k hk)
  obtain ⟨y, b, e, rfl, s1, m1⟩ := open_infos_at h1 fun k hk => hw k (weightsAll_mem _ _ d1 (by simp) k hk)
  exact ⟨x, a, c, y, b, e, rfl, s0, m0, s1, m1⟩
end
end Go.Proofs.YtcapbojjceeapaaDoor
