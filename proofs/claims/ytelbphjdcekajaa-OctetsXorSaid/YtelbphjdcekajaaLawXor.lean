/-
  What is proved here: the given statement OctetsXorSaid, for every two byte slices; no condition.
-/
import Derived.Test.YtelbphjdcekajaaOpen
import Derived.Test.YtelbphjdcekajaaXor
import Derived.Test.YtelbphjdcekajaaAwake
namespace Go.Proofs.Ytelbphjdcekajaa.octetsXor
open Go.ChangeShapes Go.WideShapes Go.ChangeAt Go.RowKit
open Go.ChangeMaps (open_string shut_string)
set_option linter.unusedVariables false

theorem walk (A0 : Option Addr) (c0 : Nat) (x0 : List UInt8) (A1 : Option Addr) (c1 : Nat) (x1 : List UInt8) (w : World) (h0 : Sees w w.heap.size A0 (Us x0)) (m0 : x0.length ≤ 140737488351232) (h1 : Sees w w.heap.size A1 (Us x1)) (m1 : x1.length ≤ 140737488351232) :
    Calls Try.prog 5 #[.slice A0 x0.length c0, .slice A1 x1.length c1] w fun e w' => e = .returned (.bool true) ∧ Below w.heap.size w w' := by
  go_enter Try.func5, Try.ntmps5
  have ml : x0.length ≤ maxLen := by unfold maxLen; omega
  go_wp2_with fail
  refine (oct_xor_any _ _ _ _ x0 x1 _ h0 h1 (by omega)).mono ?_
  rintro e w1 ⟨A2, c2, rfl, s2, b2⟩
  have h0' := h0.on b2
  have h1' := h1.on b2
  go_wp2_with fail
  refine (ref_xor_any _ _ _ _ x0 x1 _ h0' h1' (by omega)).mono ?_
  rintro e w2 ⟨A3, c3, rfl, s3, b3⟩
  have h0 := h0'.on b3
  have h1 := h1'.on b3
  have s2 := s2.on b3
  have b3 := below_on b2 b3
  clear h0' h1' b2
  go_wp2_with fail
  refine (awake _).mono ?_
  rintro e w3 ⟨rfl, b4⟩
  have h0 := h0.on b4
  have h1 := h1.on b4
  have s2 := s2.on b4
  have s3 := s3.on b4
  have b4 := below_on b3 b4
  clear b3
  go_wp2_with fail
  have hx := xorB_le x0 x1
  refine (ref_same_yes _ _ _ _ (xorB x0 x1) _ s2 s3 (by omega)).mono ?_
  rintro e w4 ⟨rfl, b5⟩
  have h0 := h0.on b5
  have h1 := h1.on b5
  have b4 := below_on b4 b5
  clear b5 s2 s3
  go_wp2_with fail
  refine (oct_same_b _ _ _ _ x0 x1 _ h0 h1).mono ?_
  rintro e w5 ⟨rfl, b5⟩
  have h0 := h0.on b5
  have h1 := h1.on b5
  have b4 := below_on b4 b5
  clear b5
  go_wp2_with fail
  refine (ref_same_b _ _ _ _ x0 x1 _ h0 h1 ml).mono ?_
  rintro e w6 ⟨rfl, b5⟩
  have h0 := h0.on b5
  have b4 := below_on b4 b5
  clear b5
  go_wp2_with fail
  refine (oct_same_yes _ _ _ _ x0 _ h0 h0).mono ?_
  rintro e w7 ⟨rfl, b5⟩
  have b4 := below_on b4 b5
  clear b5
  go_wp2
  go_ret
  exact ⟨rfl, b4⟩

/-! ### the given statement, out of the walk -/
set_option maxRecDepth 100000 in
theorem lifted (os : Os) (started : os.Started) (H : Type) (enc : TypeId × Value → H) :
    ReturnsInHanded {} Try.checked os 5 .any (Rows.octetsXorSpec.pre6 enc Try.prog Try.f5 Rows.octetsXorRow.domain false) (Rows.octetsXorSpec.post enc Try.prog Try.f5 false true false false) := by
  refine returnsInHanded_of_change_sized (C := Try.checked) own started (by kernel_rfl) Try.func5
    (ChangeSpec.witness6 (enc := enc) (C := Try.checked) false ⟨#[], #[.slice none 0 0, .slice none 0 0], []⟩ 8 (by kernel_rfl) (by kernel_rfl) (by kernel_rfl) (by kernel_rfl)) ?_
  intro W base args ds gs before hval0 hW hcnd hsz0 _
  have hsz : (DataW.weightsEach Try.prog (Try.f5.params.toList ++ Rows.octetsXorSpec.plain.varTypes Try.prog) (ds ++ gs)).all (· ≤ reachBytes) = true := hsz0
  have hval : ∀ (j : Nat) t v, Try.f5.params[j]? = some t → args[j]? = some v → Value.okWide Try.prog W .any base t v := hval0
  have hW' := hW
  obtain ⟨p, q, hA0, hV, rfl, hfz, hnd⟩ := hW
  have hA : DataW.TrodAll enc Try.prog W 0 (fun _ => true) true Try.f5.params.toList args.toList ds p := hA0
  rw [Try.params5] at hA hval hsz
  obtain ⟨v0, vs0, d0, ds0, p0, q0, hargs, rfl, rfl, h0, r0⟩ := trodAll_cons hA
  obtain ⟨v1, vs1, d1, ds1, p1, q1, rfl, rfl, rfl, h1, r1⟩ := trodAll_cons r0
  obtain ⟨rfl, rfl, rfl⟩ := trodAll_nil r1
  obtain rfl : args = #[v0, v1] := by cases args; simp_all
  obtain ⟨rfl, rfl⟩ := trodVars_none hV
  obtain ⟨a0, len0, cap0, rfl⟩ := okWide_slice Try.underlying22 (hval 0 22 v0 rfl rfl)
  have lt0 : ∀ x ∈ p0, x.block < W.heap.size := by obtain ⟨m, hm⟩ := h0; exact DataW.trod_lt m _ _ _ hm
  obtain ⟨x0, rfl, see0, hl0, hc0⟩ := open_u8s h0 lt0
  have m0 := reach_u8s hsz (j := 0) rfl rfl hl0 hc0
  obtain ⟨a1, len1, cap1, rfl⟩ := okWide_slice Try.underlying22 (hval 1 22 v1 rfl rfl)
  have lt1 : ∀ x ∈ p1, x.block < W.heap.size := by obtain ⟨m, hm⟩ := h1; exact DataW.trod_lt m _ _ _ hm
  obtain ⟨x1, rfl, see1, hl1, hc1⟩ := open_u8s h1 lt1
  have m1 := reach_u8s hsz (j := 1) rfl rfl hl1 hc1
  clear hA0 hval0
  refine (walk a0 cap0 x0 a1 cap1 x1 W see0 m0 see1 m1).mono fun e W' ⟨he, bel⟩ => ?_
  subst he
  exact ⟨_, rfl, _, _, _, [], _, [], hW', trodAll_mk1 (shut_bool Try.underlying4 _), (trodAll_cons_mk (Below.trod laidOut (by kernel_rfl) (of_decide_eq_true (by kernel_rfl)) h0 bel lt0) (trodAll_cons_mk (Below.trod laidOut (by kernel_rfl) (of_decide_eq_true (by kernel_rfl)) h1 bel lt1) trodAll_mk0)), rfl, bel.frame _, fun h => by cases h⟩

theorem proved : Rows.OctetsXorSaid :=
  OpenClaim.holds_of_wide 5 Try.f5 rfl rfl rfl rfl rfl rfl rfl ⟨rfl, rfl, rfl, rfl, rfl⟩ rfl rfl rfl rfl rfl (by kernel_rfl) Try.func5 (by kernel_rfl)
    (of_decide_eq_true (by kernel_rfl)) (by unfold Func.isWrapper; first | (rw [if_pos (by decide +kernel)]; kernel_rfl) | (rw [if_neg (by decide +kernel)]; exact ⟨rfl, rfl⟩))
    (fun os started H enc _ => lifted os started H enc)
end Go.Proofs.Ytelbphjdcekajaa.octetsXor
