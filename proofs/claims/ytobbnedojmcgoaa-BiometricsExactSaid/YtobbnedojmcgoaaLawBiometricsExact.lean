/-
  What is proved here: the given statement BiometricsExactSaid: for any templates and any objects (without a ring).
-/
import Derived.Test.YtobbnedojmcgoaaBo
namespace Go.Proofs.Ytobbnedojmcgoaa.biometricsExact
open Go.ChangeShapes Go.WideShapes Go.ChangeAt Go.RowKit
open Go.ChangeMaps (open_string shut_string)
set_option linter.unusedVariables false

theorem walk (A : Option Addr) (c : Nat) (L : List Tm) (B : Option Addr) (d : Nat) (f : F) (w : World) (hs : SeesT w (· < w.heap.size) A L) (_ : L.length ≤ 2000000000000) (hf : SeesN w (· < w.heap.size) B f) (hok : f.ok) (hk : f.k0 ≤ 140737488351232) :
    Calls Try.prog 4 #[.slice A L.length c, .slice B f.len d] w fun e w' => e = .returned (.bool true) ∧ Below w.heap.size w w' :=
  law_exact L L.length rfl A c f f.len rfl hok hk B d w hs hf

/-! ### the given statement, out of the walk -/
set_option maxRecDepth 100000 in
theorem lifted (os : Os) (started : os.Started) (H : Type) (enc : TypeId × Value → H) :
    ReturnsInHanded {} Try.checked os 4 .any (Rows.biometricsExactSpec.pre6 enc Try.prog Try.f4 Rows.biometricsExactRow.domain false) (Rows.biometricsExactSpec.post enc Try.prog Try.f4 false true false false) := by
  refine returnsInHanded_of_change_sized (C := Try.checked) own started (by kernel_rfl) Try.func4
    (ChangeSpec.witness6 (enc := enc) (C := Try.checked) false ⟨#[], #[.slice none 0 0, .slice none 0 0], []⟩ 8 (by kernel_rfl) (by kernel_rfl) (by kernel_rfl) (by kernel_rfl)) ?_
  intro W base args ds gs before hval0 hW hcnd hsz0 _
  have hsz : (DataW.weightsEach Try.prog (Try.f4.params.toList ++ Rows.biometricsExactSpec.plain.varTypes Try.prog) (ds ++ gs)).all (· ≤ reachBytes) = true := hsz0
  have hval : ∀ (j : Nat) t v, Try.f4.params[j]? = some t → args[j]? = some v → Value.okWide Try.prog W .any base t v := hval0
  have hW' := hW
  obtain ⟨p, q, hA0, hV, rfl, hfz, hnd⟩ := hW
  have hA : DataW.TrodAll enc Try.prog W 0 (fun _ => true) true Try.f4.params.toList args.toList ds p := hA0
  rw [Try.params4] at hA hval hsz
  obtain ⟨v0, vs0, d0, ds0, p0, q0, hargs, rfl, rfl, h0, r0⟩ := trodAll_cons hA
  obtain ⟨v1, vs1, d1, ds1, p1, q1, rfl, rfl, rfl, h1, r1⟩ := trodAll_cons r0
  obtain ⟨rfl, rfl, rfl⟩ := trodAll_nil r1
  obtain rfl : args = #[v0, v1] := by cases args; simp_all
  obtain ⟨rfl, rfl⟩ := trodVars_none hV
  obtain ⟨a0, len0, cap0, rfl⟩ := okWide_slice Try.underlying22 (hval 0 22 v0 rfl rfl)
  have lt0 : ∀ x ∈ p0, x.block < W.heap.size := by obtain ⟨m, hm⟩ := h0; exact DataW.trod_lt m _ _ _ hm
  have wt0 := reach_in hsz (j := 0) (t := 22) (d := d0) rfl rfl
  obtain ⟨f0, rfl, see0, ml0⟩ := open_tms h0 wt0
  obtain ⟨a1, len1, cap1, rfl⟩ := okWide_slice Try.underlying33 (hval 1 33 v1 rfl rfl)
  have lt1 : ∀ x ∈ p1, x.block < W.heap.size := by obtain ⟨m, hm⟩ := h1; exact DataW.trod_lt m _ _ _ hm
  have wt1 := reach_in hsz (j := 1) (t := 33) (d := d1) rfl rfl
  obtain ⟨fu1, hfu1⟩ := h1
  obtain ⟨f1, rfl, _, see1, ok1, _, kz1⟩ := open_nodes fu1 a1 len1 cap1 d1 p1 hfu1 wt1
  have h1 : DataW.Trod enc Try.prog W 0 (fun _ => true) true 33 (.slice a1 f1.len cap1) d1 p1 := ⟨fu1, hfu1⟩
  clear hA0 hval0
  refine (walk a0 cap0 f0 a1 cap1 f1 W see0 ml0 see1 ok1 kz1).mono fun e W' ⟨he, bel⟩ => ?_
  subst he
  exact ⟨_, rfl, _, _, _, [], _, [], hW', trodAll_mk1 (shut_bool Try.underlying4 _), (trodAll_cons_mk (Below.trod laidOut (by kernel_rfl) (of_decide_eq_true (by kernel_rfl)) h0 bel lt0) (trodAll_cons_mk (Below.trod laidOut (by kernel_rfl) (of_decide_eq_true (by kernel_rfl)) h1 bel lt1) trodAll_mk0)), rfl, bel.frame _, fun h => by cases h⟩

theorem proved : Rows.BiometricsExactSaid :=
  OpenClaim.holds_of_wide 4 Try.f4 rfl rfl rfl rfl rfl rfl rfl ⟨rfl, rfl, rfl, rfl, rfl⟩ rfl rfl rfl rfl rfl (by kernel_rfl) Try.func4 (by kernel_rfl)
    (of_decide_eq_true (by kernel_rfl)) (by unfold Func.isWrapper; first | (rw [if_pos (by decide +kernel)]; kernel_rfl) | (rw [if_neg (by decide +kernel)]; exact ⟨rfl, rfl⟩))
    (fun os started H enc _ => lifted os started H enc)
end Go.Proofs.Ytobbnedojmcgoaa.biometricsExact
