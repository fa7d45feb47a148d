/-
  What is proved here: the given statement OctetsNumberSaid, for every byte slice and every two numbers; no condition.
-/
import Derived.Test.YtelbphjdcekajaaOpen
import Derived.Test.YtelbphjdcekajaaNum
import Derived.Test.YtelbphjdcekajaaAwake
namespace Go.Proofs.Ytelbphjdcekajaa.octetsNumber
open Go.ChangeShapes Go.WideShapes Go.ChangeAt Go.RowKit
open Go.ChangeMaps (open_string shut_string)
set_option linter.unusedVariables false

theorem octB_le (n s : Int) : (octB n s).length ≤ 7 := by
  unfold octB; split
  · simp
  · split
    · simp
    · rw [octL_length]; omega

theorem walk (A0 : Option Addr) (c0 : Nat) (x0 : List UInt8) (n1 n2 : Int) (w : World) (h0 : Sees w w.heap.size A0 (Us x0)) (m0 : x0.length ≤ 140737488351232) (m1 : (Lit.int .i64 n1).wf = true) (m2 : (Lit.int .i64 n2).wf = true) :
    Calls Try.prog 4 #[.slice A0 x0.length c0, .int .i64 n1, .int .i64 n2] w fun e w' => e = .returned (.bool true) ∧ Below w.heap.size w w' := by
  have M1 := Lib.hid m1
  have M2 := Lib.hid m2
  clear m1 m2
  go_enter Try.func4, Try.ntmps4
  go_wp2_with fail
  refine (oct_num _ _ _ x0 _ _ h0 rfl (by unfold maxLen; omega)).mono ?_
  rintro e w1 ⟨he, rfl⟩
  unfold NumEnd at he
  subst he
  go_wp2_with fail
  refine (ref_num _ _ _ x0 _ _ h0 rfl (by unfold maxLen; omega)).mono ?_
  rintro e w1 ⟨he, rfl⟩
  unfold NumEnd at he
  subst he
  clear h0
  go_wp2_with fail
  refine (oct_oct n1 n2 M1.out M2.out _).mono ?_
  rintro e w1 ⟨A2, c2, rfl, s2, b2⟩
  go_wp2_with fail
  refine (ref_oct n1 n2 M1.out M2.out _).mono ?_
  rintro e w2 ⟨A3, c3, rfl, s3, b3⟩
  have s2 := s2.on b3
  have b2 := below_on b2 b3
  clear b3
  go_wp2_with fail
  refine (awake _).mono ?_
  rintro e w3 ⟨rfl, b4⟩
  have s2 := s2.on b4
  have s3 := s3.on b4
  have b2 := below_on b2 b4
  clear b4
  go_wp2_with fail
  have hx := octB_le n1 n2
  refine (ref_same_yes _ _ _ _ (octB n1 n2) _ s2 s3 (by unfold maxLen; omega)).mono ?_
  rintro e w6 ⟨rfl, b4⟩
  have b2 := below_on b2 b4
  clear b4
  go_wp2
  go_ret
  exact ⟨rfl, b2⟩

/-! ### the given statement, out of the walk -/
set_option maxRecDepth 100000 in
theorem lifted (os : Os) (started : os.Started) (H : Type) (enc : TypeId × Value → H) :
    ReturnsInHanded {} Try.checked os 4 .any (Rows.octetsNumberSpec.pre6 enc Try.prog Try.f4 Rows.octetsNumberRow.domain false) (Rows.octetsNumberSpec.post enc Try.prog Try.f4 false true false false) := by
  refine returnsInHanded_of_change_sized (C := Try.checked) own started (by kernel_rfl) Try.func4
    (ChangeSpec.witness6 (enc := enc) (C := Try.checked) false ⟨#[], #[.slice none 0 0, .int .i64 0, .int .i64 0], []⟩ 8 (by kernel_rfl) (by kernel_rfl) (by kernel_rfl) (by kernel_rfl)) ?_
  intro W base args ds gs before hval0 hW hcnd hsz0 _
  have hsz : (DataW.weightsEach Try.prog (Try.f4.params.toList ++ Rows.octetsNumberSpec.plain.varTypes Try.prog) (ds ++ gs)).all (· ≤ reachBytes) = true := hsz0
  have hval : ∀ (j : Nat) t v, Try.f4.params[j]? = some t → args[j]? = some v → Value.okWide Try.prog W .any base t v := hval0
  have hW' := hW
  obtain ⟨p, q, hA0, hV, rfl, hfz, hnd⟩ := hW
  have hA : DataW.TrodAll enc Try.prog W 0 (fun _ => true) true Try.f4.params.toList args.toList ds p := hA0
  rw [Try.params4] at hA hval hsz
  obtain ⟨v0, vs0, d0, ds0, p0, q0, hargs, rfl, rfl, h0, r0⟩ := trodAll_cons hA
  obtain ⟨v1, vs1, d1, ds1, p1, q1, rfl, rfl, rfl, h1, r1⟩ := trodAll_cons r0
  obtain ⟨v2, vs2, d2, ds2, p2, q2, rfl, rfl, rfl, h2, r2⟩ := trodAll_cons r1
  obtain ⟨rfl, rfl, rfl⟩ := trodAll_nil r2
  obtain rfl : args = #[v0, v1, v2] := by cases args; simp_all
  obtain ⟨rfl, rfl⟩ := trodVars_none hV
  obtain ⟨a0, len0, cap0, rfl⟩ := okWide_slice Try.underlying22 (hval 0 22 v0 rfl rfl)
  have lt0 : ∀ x ∈ p0, x.block < W.heap.size := by obtain ⟨m, hm⟩ := h0; exact DataW.trod_lt m _ _ _ hm
  obtain ⟨x0, rfl, see0, hl0, hc0⟩ := open_u8s h0 lt0
  have m0 := reach_u8s hsz (j := 0) rfl rfl hl0 hc0
  obtain ⟨n1, rfl, rfl, rfl, w1⟩ := open_int Try.underlying3 (hval 1 3 v1 rfl rfl) h1
  obtain ⟨n2, rfl, rfl, rfl, w2⟩ := open_int Try.underlying3 (hval 2 3 v2 rfl rfl) h2
  clear hA0 hval0
  refine (walk a0 cap0 x0 n1 n2 W see0 m0 w1 w2).mono fun e W' ⟨he, bel⟩ => ?_
  subst he
  exact ⟨_, rfl, _, _, _, [], _, [], hW', trodAll_mk1 (shut_bool Try.underlying4 _), (trodAll_cons_mk (Below.trod laidOut (by kernel_rfl) (of_decide_eq_true (by kernel_rfl)) h0 bel lt0) (trodAll_cons_mk (shut_int Try.underlying3 w1) (trodAll_cons_mk (shut_int Try.underlying3 w2) trodAll_mk0))), rfl, bel.frame _, fun h => by cases h⟩

theorem proved : Rows.OctetsNumberSaid :=
  OpenClaim.holds_of_wide 4 Try.f4 rfl rfl rfl rfl rfl rfl rfl ⟨rfl, rfl, rfl, rfl, rfl⟩ rfl rfl rfl rfl rfl (by kernel_rfl) Try.func4 (by kernel_rfl)
    (of_decide_eq_true (by kernel_rfl)) (by unfold Func.isWrapper; first | (rw [if_pos (by decide +kernel)]; kernel_rfl) | (rw [if_neg (by decide +kernel)]; exact ⟨rfl, rfl⟩))
    (fun os started H enc _ => lifted os started H enc)
end Go.Proofs.Ytelbphjdcekajaa.octetsNumber
