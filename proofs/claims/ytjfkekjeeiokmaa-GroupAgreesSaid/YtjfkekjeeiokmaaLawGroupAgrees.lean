/-
  What is proved here: the given statement GroupAgreesSaid, for every two numbers; no condition.
-/
import Derived.Test.YtjfkekjeeiokmaaGd
import Derived.Test.YtjfkekjeeiokmaaOp5
namespace Go.Proofs.Ytjfkekjeeiokmaa.groupAgrees
open Go.ChangeShapes Go.WideShapes Go.ChangeAt Go.RowKit
open Go.ChangeMaps (open_string shut_string)
set_option linter.unusedVariables false

set_option maxRecDepth 40000 in
set_option maxHeartbeats 1000000 in
theorem walk (a b : Int) (w : World) (m0 : (Lit.int .i64 a).wf = true) (m1 : (Lit.int .i64 b).wf = true) :
    Calls Try.prog 6 #[.int .i64 a, .int .i64 b] w fun e w' => e = .returned (.bool true) ∧ Below w.heap.size w w' := by
  clear m0 m1
  have hA := near_bd a
  have hB := near_bd b
  have na := fun w => ref_near a w
  have nb := fun w => ref_near b w
  generalize nearZ a = k at *
  generalize nearZ b = n at *
  have pk := fun w => grp_public k w
  have pn := fun w => grp_public n w
  have sk : secB k = true := secB_mk hA.1 (by omega)
  have sn : secB n = true := secB_mk hB.1 (by omega)
  rw [(pu_yes sk).1, (pu_yes sk).2] at pk
  rw [(pu_yes sn).1, (pu_yes sn).2] at pn
  have s1 := fun w => grp_share k (pwZ 4 n) w
  have s2 := fun w => grp_share n (pwZ 4 k) w
  have el1 := pt_el hB.1 (by omega)
  have el2 := pt_el hA.1 (by omega)
  rw [(sh_yes sk el1).1, (sh_yes sk el1).2, pw_comm] at s1
  rw [(sh_yes sn el2).1, (sh_yes sn el2).2] at s2
  have el3 := pt2_el hA.1 (by omega) hB.1 (by omega)
  have ez := fun w => grp_element (pwZ (pwZ 4 k) n) w
  rw [el3] at ez
  generalize pwZ (pwZ 4 k) n = z at *
  generalize pwZ 4 k = x at *
  generalize pwZ 4 n = y at *
  have HQ := Lib.hid (show _ ∧ _ ∧ _ ∧ _ ∧ _ ∧ _ ∧ _ from ⟨na, nb, pk, pn, s1, s2, ez⟩)
  clear na nb pk pn s1 s2 ez sk sn el1 el2 el3 hA hB
  go_enter Try.func6, Try.ntmps6
  go_wp2_with (first
    | (go_at_call 28; ((with_reducible refine (HQ.out.1 _).mono ?_); rintro e w' ⟨rfl, rfl⟩))
    | (go_at_call 28; ((with_reducible refine (HQ.out.2.1 _).mono ?_); rintro e w' ⟨rfl, rfl⟩))
    | (go_at_call 24; ((with_reducible refine (HQ.out.2.2.1 _).mono ?_); rintro e w' ⟨rfl, rfl⟩))
    | (go_at_call 24; ((with_reducible refine (HQ.out.2.2.2.1 _).mono ?_); rintro e w' ⟨rfl, rfl⟩))
    | (go_at_call 26; ((with_reducible refine (HQ.out.2.2.2.2.1 _).mono ?_); rintro e w' ⟨rfl, rfl⟩))
    | (go_at_call 26; ((with_reducible refine (HQ.out.2.2.2.2.2.1 _).mono ?_); rintro e w' ⟨rfl, rfl⟩))
    | (go_at_call 15; ((with_reducible refine (awake _).mono ?_); rintro e w1 ⟨rfl, hb⟩); have HB := Lib.hid hb; clear hb)
    | (go_at_call 16; ((with_reducible refine (HQ.out.2.2.2.2.2.2 _).mono ?_); rintro e w' ⟨rfl, rfl⟩)))
  go_ret
  exact ⟨rfl, HB.out⟩

/-! ### the given statement, out of the walk -/
set_option maxRecDepth 100000 in
theorem lifted (os : Os) (started : os.Started) (H : Type) (enc : TypeId × Value → H) :
    ReturnsInHanded {} Try.checked os 6 .any (Rows.groupAgreesSpec.pre6 enc Try.prog Try.f6 Rows.groupAgreesRow.domain false) (Rows.groupAgreesSpec.post enc Try.prog Try.f6 false true false false) := by
  refine returnsInHanded_of_change_sized (C := Try.checked) own started (by kernel_rfl) Try.func6
    (ChangeSpec.witness6 (enc := enc) (C := Try.checked) false ⟨#[], #[.int .i64 0, .int .i64 0], []⟩ 8 (by kernel_rfl) (by kernel_rfl) (by kernel_rfl) (by kernel_rfl)) ?_
  intro W base args ds gs before hval0 hW hcnd hsz0 _
  have hsz : (DataW.weightsEach Try.prog (Try.f6.params.toList ++ Rows.groupAgreesSpec.plain.varTypes Try.prog) (ds ++ gs)).all (· ≤ reachBytes) = true := hsz0
  have hval : ∀ (j : Nat) t v, Try.f6.params[j]? = some t → args[j]? = some v → Value.okWide Try.prog W .any base t v := hval0
  have hW' := hW
  obtain ⟨p, q, hA0, hV, rfl, hfz, hnd⟩ := hW
  have hA : DataW.TrodAll enc Try.prog W 0 (fun _ => true) true Try.f6.params.toList args.toList ds p := hA0
  rw [Try.params6] at hA hval hsz
  obtain ⟨v0, vs0, d0, ds0, p0, q0, hargs, rfl, rfl, h0, r0⟩ := trodAll_cons hA
  obtain ⟨v1, vs1, d1, ds1, p1, q1, rfl, rfl, rfl, h1, r1⟩ := trodAll_cons r0
  obtain ⟨rfl, rfl, rfl⟩ := trodAll_nil r1
  obtain rfl : args = #[v0, v1] := by cases args; simp_all
  obtain ⟨rfl, rfl⟩ := trodVars_none hV
  obtain ⟨n0, rfl, rfl, rfl, w0⟩ := open_int Try.underlying3 (hval 0 3 v0 rfl rfl) h0
  obtain ⟨n1, rfl, rfl, rfl, w1⟩ := open_int Try.underlying3 (hval 1 3 v1 rfl rfl) h1
  clear hA0 hval0
  refine (walk n0 n1 W w0 w1).mono fun e W' ⟨he, bel⟩ => ?_
  subst he
  exact ⟨_, rfl, _, _, _, [], _, [], hW', trodAll_mk1 (shut_bool Try.underlying4 _), (trodAll_cons_mk (shut_int Try.underlying3 w0) (trodAll_cons_mk (shut_int Try.underlying3 w1) trodAll_mk0)), rfl, bel.frame _, fun h => by cases h⟩

theorem proved : Rows.GroupAgreesSaid :=
  OpenClaim.holds_of_wide 6 Try.f6 rfl rfl rfl rfl rfl rfl rfl ⟨rfl, rfl, rfl, rfl, rfl⟩ rfl rfl rfl rfl rfl (by kernel_rfl) Try.func6 (by kernel_rfl)
    (of_decide_eq_true (by kernel_rfl)) (by unfold Func.isWrapper; first | (rw [if_pos (by decide +kernel)]; kernel_rfl) | (rw [if_neg (by decide +kernel)]; exact ⟨rfl, rfl⟩))
    (fun os started H enc _ => lifted os started H enc)
end Go.Proofs.Ytjfkekjeeiokmaa.groupAgrees
