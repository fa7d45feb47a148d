/-
  What is proved here: the given statement GroupHalvesSaid, for every number; no condition.
-/
import Derived.Test.YtjfkekjeeiokmaaGd
import Derived.Test.YtjfkekjeeiokmaaOp5
namespace Go.Proofs.Ytjfkekjeeiokmaa.groupHalves
open Go.ChangeShapes Go.WideShapes Go.ChangeAt Go.RowKit
open Go.ChangeMaps (open_string shut_string)
set_option linter.unusedVariables false

set_option maxRecDepth 40000 in
set_option maxHeartbeats 1000000 in
theorem walk (n : Int) (w : World) (m0 : (Lit.int .i64 n).wf = true) :
    Calls Try.prog 8 #[.int .i64 n] w fun e w' => e = .returned (.bool true) ∧ Below w.heap.size w w' := by
  clear m0
  have hN := near_bd n
  have na := fun w => ref_near n w
  generalize nearZ n = k at *
  obtain ⟨k1, k2⟩ := hN
  have x1 : 2 ≤ 2 + (k - 1) % 1073741787 := by omega
  have x2 : 2 + (k - 1) % 1073741787 ≤ 1073741788 := by omega
  obtain ⟨x, hx⟩ : ∃ x, x = 2 + (k - 1) % 1073741787 := ⟨_, rfl⟩
  rw [← hx] at x1 x2
  have rx : resB x = true := resB_mk (by omega) (by omega)
  have mm := fun w => grp_multiply x x w
  rw [(mu_yes rx rx).1, (mu_yes rx rx).2] at mm
  have es := fun w => grp_element (muZ x x) w
  rw [sq_el x1 (by omega)] at es
  have e1 := fun w => grp_element x w
  have e2 := fun w => grp_element (2147483579 - x) w
  rw [halves x1 (by omega)] at e2
  have e3 := fun w => grp_element 1 w
  rw [el_one] at e3
  have e4 := fun w => grp_element 2147483578 w
  rw [el_last] at e4
  generalize muZ x x = s at *
  generalize elB x = t at *
  have HQ := Lib.hid (show _ ∧ _ ∧ _ ∧ _ ∧ _ ∧ _ ∧ _ from ⟨na, mm, es, e1, e2, e3, e4⟩)
  have HX := Lib.hid hx.symm
  clear na mm es e1 e2 e3 e4 rx hx
  have H2 : ∀ w, Calls Try.prog 9 #[.int .i64 (2 + (k - 1) % 1073741787), .int .i64 (2 + (k - 1) % 1073741787)] w fun e w' => e = .returned (.tuple #[.int .i64 s, .int .i64 0]) ∧ w = w' := by rw [HX.out]; exact HQ.out.2.1
  have H4 : ∀ w, Calls Try.prog 16 #[.int .i64 (2 + (k - 1) % 1073741787)] w fun e w' => e = .returned (.bool t) ∧ w = w' := by rw [HX.out]; exact HQ.out.2.2.2.1
  have H5 : ∀ w, Calls Try.prog 16 #[.int .i64 (2147483579 - (2 + (k - 1) % 1073741787))] w fun e w' => e = .returned (.bool (!t)) ∧ w = w' := by rw [HX.out]; exact HQ.out.2.2.2.2.1
  replace H2 := Lib.hid H2
  replace H4 := Lib.hid H4
  replace H5 := Lib.hid H5
  clear x1 x2
  go_enter Try.func8, Try.ntmps8
  cases t
  all_goals
    go_wp2_with (first
    | (go_at_call 28; ((with_reducible refine (HQ.out.1 _).mono ?_); rintro e w' ⟨rfl, rfl⟩))
    | (go_at_call 9; ((with_reducible refine (H2.out _).mono ?_); rintro e w' ⟨rfl, rfl⟩))
    | (go_at_call 15; ((with_reducible refine (awake _).mono ?_); rintro e w1 ⟨rfl, hb⟩); have HB := Lib.hid hb; clear hb)
    | (go_at_call 16; ((with_reducible refine (HQ.out.2.2.1 _).mono ?_); rintro e w' ⟨rfl, rfl⟩))
    | (go_at_call 16; ((with_reducible refine (H4.out _).mono ?_); rintro e w' ⟨rfl, rfl⟩))
    | (go_at_call 16; ((with_reducible refine (H5.out _).mono ?_); rintro e w' ⟨rfl, rfl⟩))
    | (go_at_call 16; ((with_reducible refine (HQ.out.2.2.2.2.2.1 _).mono ?_); rintro e w' ⟨rfl, rfl⟩))
    | (go_at_call 16; ((with_reducible refine (HQ.out.2.2.2.2.2.2 _).mono ?_); rintro e w' ⟨rfl, rfl⟩)))
    go_ret
    exact ⟨rfl, HB.out⟩

/-! ### the given statement, out of the walk -/
set_option maxRecDepth 100000 in
theorem lifted (os : Os) (started : os.Started) (H : Type) (enc : TypeId × Value → H) :
    ReturnsInHanded {} Try.checked os 8 .any (Rows.groupHalvesSpec.pre6 enc Try.prog Try.f8 Rows.groupHalvesRow.domain false) (Rows.groupHalvesSpec.post enc Try.prog Try.f8 false true false false) := by
  refine returnsInHanded_of_change_sized (C := Try.checked) own started (by kernel_rfl) Try.func8
    (ChangeSpec.witness6 (enc := enc) (C := Try.checked) false ⟨#[], #[.int .i64 0], []⟩ 8 (by kernel_rfl) (by kernel_rfl) (by kernel_rfl) (by kernel_rfl)) ?_
  intro W base args ds gs before hval0 hW hcnd hsz0 _
  have hsz : (DataW.weightsEach Try.prog (Try.f8.params.toList ++ Rows.groupHalvesSpec.plain.varTypes Try.prog) (ds ++ gs)).all (· ≤ reachBytes) = true := hsz0
  have hval : ∀ (j : Nat) t v, Try.f8.params[j]? = some t → args[j]? = some v → Value.okWide Try.prog W .any base t v := hval0
  have hW' := hW
  obtain ⟨p, q, hA0, hV, rfl, hfz, hnd⟩ := hW
  have hA : DataW.TrodAll enc Try.prog W 0 (fun _ => true) true Try.f8.params.toList args.toList ds p := hA0
  rw [Try.params8] at hA hval hsz
  obtain ⟨v0, vs0, d0, ds0, p0, q0, hargs, rfl, rfl, h0, r0⟩ := trodAll_cons hA
  obtain ⟨rfl, rfl, rfl⟩ := trodAll_nil r0
  obtain rfl : args = #[v0] := by cases args; simp_all
  obtain ⟨rfl, rfl⟩ := trodVars_none hV
  obtain ⟨n0, rfl, rfl, rfl, w0⟩ := open_int Try.underlying3 (hval 0 3 v0 rfl rfl) h0
  clear hA0 hval0
  refine (walk n0 W w0).mono fun e W' ⟨he, bel⟩ => ?_
  subst he
  exact ⟨_, rfl, _, _, _, [], _, [], hW', trodAll_mk1 (shut_bool Try.underlying4 _), (trodAll_cons_mk (shut_int Try.underlying3 w0) trodAll_mk0), rfl, bel.frame _, fun h => by cases h⟩

theorem proved : Rows.GroupHalvesSaid :=
  OpenClaim.holds_of_wide 8 Try.f8 rfl rfl rfl rfl rfl rfl rfl ⟨rfl, rfl, rfl, rfl, rfl⟩ rfl rfl rfl rfl rfl (by kernel_rfl) Try.func8 (by kernel_rfl)
    (of_decide_eq_true (by kernel_rfl)) (by unfold Func.isWrapper; first | (rw [if_pos (by decide +kernel)]; kernel_rfl) | (rw [if_neg (by decide +kernel)]; exact ⟨rfl, rfl⟩))
    (fun os started H enc _ => lifted os started H enc)
end Go.Proofs.Ytjfkekjeeiokmaa.groupHalves
