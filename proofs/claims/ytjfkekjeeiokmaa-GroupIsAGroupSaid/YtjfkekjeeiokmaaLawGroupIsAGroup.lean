/-
  What is proved here: the given statement GroupIsAGroupSaid, for every three numbers; no condition.
-/
import Derived.Test.YtjfkekjeeiokmaaGd
import Derived.Test.YtjfkekjeeiokmaaOp5
namespace Go.Proofs.Ytjfkekjeeiokmaa.groupIsAGroup
open Go.ChangeShapes Go.WideShapes Go.ChangeAt Go.RowKit
open Go.ChangeMaps (open_string shut_string)
set_option linter.unusedVariables false

set_option maxRecDepth 40000 in
set_option maxHeartbeats 1000000 in
theorem walk (a b c : Int) (w : World) (m0 : (Lit.int .i64 a).wf = true) (m1 : (Lit.int .i64 b).wf = true) (m2 : (Lit.int .i64 c).wf = true) :
    Calls Try.prog 7 #[.int .i64 a, .int .i64 b, .int .i64 c] w fun e w' => e = .returned (.bool true) ∧ Below w.heap.size w w' := by
  clear m0 m1 m2
  have pa := fun w => ref_point a w
  have pb := fun w => ref_point b w
  have pc := fun w => ref_point c w
  have nb := fun w => ref_near b w
  have nc := fun w => ref_near c w
  have sx : Sub (pointZ a) := sub_four.pow _
  have sy : Sub (pointZ b) := sub_four.pow _
  have sz : Sub (pointZ c) := sub_four.pow _
  have hB := near_bd b
  have hC := near_bd c
  generalize pointZ a = x at *
  generalize pointZ b = y at *
  generalize pointZ c = z at *
  generalize nearZ b = k at *
  generalize nearZ c = n at *
  obtain ⟨k1, k2⟩ := hB
  obtain ⟨n1, n2⟩ := hC
  have mul : ∀ {u v : Int}, Sub u → Sub v → ∀ w, Calls Try.prog 9 #[.int .i64 u, .int .i64 v] w fun e w' => e = .returned (.tuple #[.int .i64 (muZ u v), .int .i64 0]) ∧ w = w' := fun {u v} hu hv w => by
    have h := grp_multiply u v w
    rwa [(mu_yes hu.res hv.res).1, (mu_yes hu.res hv.res).2] at h
  have pow : ∀ {u v : Int}, Sub u → 0 ≤ v → v ≤ 1073741789 → ∀ w, Calls Try.prog 11 #[.int .i64 u, .int .i64 v] w fun e w' => e = .returned (.tuple #[.int .i64 (pwZ u v), .int .i64 0]) ∧ w = w' := fun {u v} hu h0 h1 w => by
    have h := grp_power_any u v w
    rwa [(po_yes hu.res h0 h1).1, (po_yes hu.res h0 h1).2] at h
  have f1 := mul sx sy
  have f2 := mul sy sx
  rw [mu_comm y x] at f2
  have f3 := mul sy sz
  have sxy := sx.mul sy
  have f4 := mul sxy sz
  have f5 := mul sx (sy.mul sz)
  rw [← mu_assoc] at f5
  have f6 := fun w => grp_invert x w
  rw [(in_yes sx.res).1, (in_yes sx.res).2] at f6
  have f7 := mul sx (sx.pow 2147483577)
  rw [mu_inv sx] at f7
  have g1 := pow sx (show 0 ≤ k / 2 by omega) (by omega)
  have g2 := pow sx (show 0 ≤ n / 2 by omega) (by omega)
  have g3 := pow sx (show 0 ≤ k / 2 + n / 2 by omega) (by omega)
  have g4 := mul (sx.pow (k / 2)) (sx.pow (n / 2))
  rw [pw_add (by omega) (by omega)] at g4
  have sl := sxy.mul sz
  clear mul pow
  have e1 : muZ x y ≠ 1 → ∀ w, Calls Try.prog 16 #[.int .i64 (muZ x y)] w fun e w' => e = .returned (.bool true) ∧ w = w' := fun hne w => by
    have h := grp_element (muZ x y) w
    rwa [sxy.el hne] at h
  have e2 : muZ (muZ x y) z ≠ 1 → ∀ w, Calls Try.prog 16 #[.int .i64 (muZ (muZ x y) z)] w fun e w' => e = .returned (.bool true) ∧ w = w' := fun hne w => by
    have h := grp_element (muZ (muZ x y) z) w
    rwa [sl.el hne] at h
  clear sx sy sz sxy sl
  generalize muZ (muZ x y) z = l at *
  generalize muZ x y = s at *
  generalize muZ y z = t at *
  generalize pwZ x 2147483577 = i at *
  generalize pwZ x (k / 2 + n / 2) = r at *
  generalize pwZ x (k / 2) = p at *
  generalize pwZ x (n / 2) = q at *
  have HP := Lib.hid (show _ ∧ _ ∧ _ ∧ _ ∧ _ from ⟨pa, pb, pc, nb, nc⟩)
  have HF := Lib.hid (show _ ∧ _ ∧ _ ∧ _ ∧ _ ∧ _ ∧ _ from ⟨f1, f2, f3, f4, f5, f6, f7⟩)
  have HG := Lib.hid (show _ ∧ _ ∧ _ ∧ _ from ⟨g1, g2, g3, g4⟩)
  have HE := Lib.hid (And.intro e1 e2)
  clear pa pb pc nb nc f1 f2 f3 f4 f5 f6 f7 g1 g2 g3 g4 e1 e2
  have hs : (s == 1) = true ∧ True ∨ (s == 1) = false ∧ ∀ w, Calls Try.prog 16 #[.int .i64 s] w fun e w' => e = .returned (.bool true) ∧ w = w' := by
    by_cases h : s = 1
    · exact .inl ⟨by simpa using h, trivial⟩
    · exact .inr ⟨by simpa using h, HE.out.1 h⟩
  have hl : (l == 1) = true ∧ True ∨ (l == 1) = false ∧ ∀ w, Calls Try.prog 16 #[.int .i64 l] w fun e w' => e = .returned (.bool true) ∧ w = w' := by
    by_cases h : l = 1
    · exact .inl ⟨by simpa using h, trivial⟩
    · exact .inr ⟨by simpa using h, HE.out.2 h⟩
  clear HE
  go_enter Try.func7, Try.ntmps7
  rcases hs with ⟨ds, es⟩ | ⟨ds, es⟩ <;> rcases hl with ⟨dl, el⟩ | ⟨dl, el⟩
  all_goals
    have ES := Lib.hid es
    have EL := Lib.hid el
    clear es el
    go_wp2_with (first
    | (go_at_call 22; ((with_reducible refine (HP.out.1 _).mono ?_); rintro e w' ⟨rfl, rfl⟩))
    | (go_at_call 22; ((with_reducible refine (HP.out.2.1 _).mono ?_); rintro e w' ⟨rfl, rfl⟩))
    | (go_at_call 22; ((with_reducible refine (HP.out.2.2.1 _).mono ?_); rintro e w' ⟨rfl, rfl⟩))
    | (go_at_call 28; ((with_reducible refine (HP.out.2.2.2.1 _).mono ?_); rintro e w' ⟨rfl, rfl⟩))
    | (go_at_call 28; ((with_reducible refine (HP.out.2.2.2.2 _).mono ?_); rintro e w' ⟨rfl, rfl⟩))
    | (go_at_call 9; ((with_reducible refine (HF.out.1 _).mono ?_); rintro e w' ⟨rfl, rfl⟩))
    | (go_at_call 9; ((with_reducible refine (HF.out.2.1 _).mono ?_); rintro e w' ⟨rfl, rfl⟩))
    | (go_at_call 9; ((with_reducible refine (HF.out.2.2.1 _).mono ?_); rintro e w' ⟨rfl, rfl⟩))
    | (go_at_call 9; ((with_reducible refine (HF.out.2.2.2.1 _).mono ?_); rintro e w' ⟨rfl, rfl⟩))
    | (go_at_call 9; ((with_reducible refine (HF.out.2.2.2.2.1 _).mono ?_); rintro e w' ⟨rfl, rfl⟩))
    | (go_at_call 13; ((with_reducible refine (HF.out.2.2.2.2.2.1 _).mono ?_); rintro e w' ⟨rfl, rfl⟩))
    | (go_at_call 9; ((with_reducible refine (HF.out.2.2.2.2.2.2 _).mono ?_); rintro e w' ⟨rfl, rfl⟩))
    | (go_at_call 11; ((with_reducible refine (HG.out.1 _).mono ?_); rintro e w' ⟨rfl, rfl⟩))
    | (go_at_call 11; ((with_reducible refine (HG.out.2.1 _).mono ?_); rintro e w' ⟨rfl, rfl⟩))
    | (go_at_call 11; ((with_reducible refine (HG.out.2.2.1 _).mono ?_); rintro e w' ⟨rfl, rfl⟩))
    | (go_at_call 9; ((with_reducible refine (HG.out.2.2.2 _).mono ?_); rintro e w' ⟨rfl, rfl⟩))
    | (go_at_call 15; ((with_reducible refine (awake _).mono ?_); rintro e w1 ⟨rfl, hb⟩); have HB := Lib.hid hb; clear hb)
    | (go_at_call 16; ((with_reducible refine (ES.out _).mono ?_); rintro e w' ⟨rfl, rfl⟩))
    | (go_at_call 16; ((with_reducible refine (EL.out _).mono ?_); rintro e w' ⟨rfl, rfl⟩)))
    go_ret
    exact ⟨rfl, HB.out⟩

/-! ### the given statement, out of the walk -/
set_option maxRecDepth 100000 in
theorem lifted (os : Os) (started : os.Started) (H : Type) (enc : TypeId × Value → H) :
    ReturnsInHanded {} Try.checked os 7 .any (Rows.groupIsAGroupSpec.pre6 enc Try.prog Try.f7 Rows.groupIsAGroupRow.domain false) (Rows.groupIsAGroupSpec.post enc Try.prog Try.f7 false true false false) := by
  refine returnsInHanded_of_change_sized (C := Try.checked) own started (by kernel_rfl) Try.func7
    (ChangeSpec.witness6 (enc := enc) (C := Try.checked) false ⟨#[], #[.int .i64 0, .int .i64 0, .int .i64 0], []⟩ 8 (by kernel_rfl) (by kernel_rfl) (by kernel_rfl) (by kernel_rfl)) ?_
  intro W base args ds gs before hval0 hW hcnd hsz0 _
  have hsz : (DataW.weightsEach Try.prog (Try.f7.params.toList ++ Rows.groupIsAGroupSpec.plain.varTypes Try.prog) (ds ++ gs)).all (· ≤ reachBytes) = true := hsz0
  have hval : ∀ (j : Nat) t v, Try.f7.params[j]? = some t → args[j]? = some v → Value.okWide Try.prog W .any base t v := hval0
  have hW' := hW
  obtain ⟨p, q, hA0, hV, rfl, hfz, hnd⟩ := hW
  have hA : DataW.TrodAll enc Try.prog W 0 (fun _ => true) true Try.f7.params.toList args.toList ds p := hA0
  rw [Try.params7] at hA hval hsz
  obtain ⟨v0, vs0, d0, ds0, p0, q0, hargs, rfl, rfl, h0, r0⟩ := trodAll_cons hA
  obtain ⟨v1, vs1, d1, ds1, p1, q1, rfl, rfl, rfl, h1, r1⟩ := trodAll_cons r0
  obtain ⟨v2, vs2, d2, ds2, p2, q2, rfl, rfl, rfl, h2, r2⟩ := trodAll_cons r1
  obtain ⟨rfl, rfl, rfl⟩ := trodAll_nil r2
  obtain rfl : args = #[v0, v1, v2] := by cases args; simp_all
  obtain ⟨rfl, rfl⟩ := trodVars_none hV
  obtain ⟨n0, rfl, rfl, rfl, w0⟩ := open_int Try.underlying3 (hval 0 3 v0 rfl rfl) h0
  obtain ⟨n1, rfl, rfl, rfl, w1⟩ := open_int Try.underlying3 (hval 1 3 v1 rfl rfl) h1
  obtain ⟨n2, rfl, rfl, rfl, w2⟩ := open_int Try.underlying3 (hval 2 3 v2 rfl rfl) h2
  clear hA0 hval0
  refine (walk n0 n1 n2 W w0 w1 w2).mono fun e W' ⟨he, bel⟩ => ?_
  subst he
  exact ⟨_, rfl, _, _, _, [], _, [], hW', trodAll_mk1 (shut_bool Try.underlying4 _), (trodAll_cons_mk (shut_int Try.underlying3 w0) (trodAll_cons_mk (shut_int Try.underlying3 w1) (trodAll_cons_mk (shut_int Try.underlying3 w2) trodAll_mk0))), rfl, bel.frame _, fun h => by cases h⟩

theorem proved : Rows.GroupIsAGroupSaid :=
  OpenClaim.holds_of_wide 7 Try.f7 rfl rfl rfl rfl rfl rfl rfl ⟨rfl, rfl, rfl, rfl, rfl⟩ rfl rfl rfl rfl rfl (by kernel_rfl) Try.func7 (by kernel_rfl)
    (of_decide_eq_true (by kernel_rfl)) (by unfold Func.isWrapper; first | (rw [if_pos (by decide +kernel)]; kernel_rfl) | (rw [if_neg (by decide +kernel)]; exact ⟨rfl, rfl⟩))
    (fun os started H enc _ => lifted os started H enc)
end Go.Proofs.Ytjfkekjeeiokmaa.groupIsAGroup
