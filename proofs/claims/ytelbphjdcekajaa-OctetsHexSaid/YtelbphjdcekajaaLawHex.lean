/-
  What is proved here: the given statement OctetsHexSaid, for every byte slice and every string; no condition.
-/
import Derived.Test.YtelbphjdcekajaaOpen
import Derived.Test.YtelbphjdcekajaaUnhex
import Derived.Test.YtelbphjdcekajaaAwake
namespace Go.Proofs.Ytelbphjdcekajaa.octetsHex
open Go.ChangeShapes Go.WideShapes Go.ChangeAt Go.RowKit
open Go.ChangeMaps (open_string shut_string)
set_option linter.unusedVariables false

theorem unB_le (x : List UInt8) : (unB x).length ≤ x.length := by
  unfold unB; split
  · simp; omega
  · simp

theorem walk (A0 : Option Addr) (c0 : Nat) (x0 : List UInt8) (s1 : ByteArray) (w : World) (h0 : Sees w w.heap.size A0 (Us x0)) (m0 : x0.length ≤ 140737488351232) (m1 : s1.size ≤ 140737488351232) :
    Calls Try.prog 3 #[.slice A0 x0.length c0, .string s1] w fun e w' => e = .returned (.bool true) ∧ Below w.heap.size w w' := by
  obtain ⟨x1, hs⟩ : ∃ x, s1 = S x := ⟨s1.data.toList, by simp [S]⟩
  have hl : x1.length ≤ 140737488351232 := by rw [hs, S_size] at m1; exact m1
  have HS := Lib.hid hs
  clear hs
  go_enter Try.func3, Try.ntmps3
  go_wp2_with fail
  refine (oct_unhex s1 x1 _ HS.out (by omega)).mono ?_
  rintro e w1 ⟨A2, c2, rfl, s2, b2⟩
  have h0 := h0.on b2
  go_wp2_with fail
  refine (ref_unhex s1 x1 _ HS.out (by omega)).mono ?_
  rintro e w2 ⟨A3, c3, rfl, s3, b3⟩
  have h0 := h0.on b3
  have s2 := s2.on b3
  have b2 := below_on b2 b3
  clear b3
  go_wp2_with fail
  refine (awake _).mono ?_
  rintro e w3 ⟨rfl, b4⟩
  have h0 := h0.on b4
  have s2 := s2.on b4
  have s3 := s3.on b4
  have b2 := below_on b2 b4
  clear b4
  go_wp2_with fail
  refine (oct_hex _ _ _ x0 _ h0 rfl (by omega)).mono ?_
  rintro e w4 ⟨rfl, b4⟩
  have h0 := h0.on b4
  have s2 := s2.on b4
  have s3 := s3.on b4
  have b2 := below_on b2 b4
  clear b4
  go_wp2_with fail
  refine (ref_hex_b _ _ x0 _ h0 (by omega)).mono ?_
  rintro e w5 ⟨rfl, b4⟩
  have s2 := s2.on b4
  have s3 := s3.on b4
  have b2 := below_on b2 b4
  clear b4
  go_wp2_with fail
  have hx := unB_le x1
  refine (ref_same_yes _ _ _ _ (unB x1) _ s2 s3 (by unfold maxLen; omega)).mono ?_
  rintro e w6 ⟨rfl, b4⟩
  have b2 := below_on b2 b4
  clear b4
  go_wp2
  go_ret
  exact ⟨rfl, b2⟩

/-! ### the given statement, out of the walk -/
set_option maxRecDepth 100000 in
theorem lifted (os : Os) (started : os.Started) (H : Type) (enc : TypeId × Value → H) :
    ReturnsInHanded {} Try.checked os 3 .any (Rows.octetsHexSpec.pre6 enc Try.prog Try.f3 Rows.octetsHexRow.domain false) (Rows.octetsHexSpec.post enc Try.prog Try.f3 false true false false) := by
  refine returnsInHanded_of_change_sized (C := Try.checked) own started (by kernel_rfl) Try.func3
    (ChangeSpec.witness6 (enc := enc) (C := Try.checked) false ⟨#[], #[.slice none 0 0, .string ByteArray.empty], []⟩ 8 (by kernel_rfl) (by kernel_rfl) (by kernel_rfl) (by kernel_rfl)) ?_
  intro W base args ds gs before hval0 hW hcnd hsz0 _
  have hsz : (DataW.weightsEach Try.prog (Try.f3.params.toList ++ Rows.octetsHexSpec.plain.varTypes Try.prog) (ds ++ gs)).all (· ≤ reachBytes) = true := hsz0
  have hval : ∀ (j : Nat) t v, Try.f3.params[j]? = some t → args[j]? = some v → Value.okWide Try.prog W .any base t v := hval0
  have hW' := hW
  obtain ⟨p, q, hA0, hV, rfl, hfz, hnd⟩ := hW
  have hA : DataW.TrodAll enc Try.prog W 0 (fun _ => true) true Try.f3.params.toList args.toList ds p := hA0
  rw [Try.params3] at hA hval hsz
  obtain ⟨v0, vs0, d0, ds0, p0, q0, hargs, rfl, rfl, h0, r0⟩ := trodAll_cons hA
  obtain ⟨v1, vs1, d1, ds1, p1, q1, rfl, rfl, rfl, h1, r1⟩ := trodAll_cons r0
  obtain ⟨rfl, rfl, rfl⟩ := trodAll_nil r1
  obtain rfl : args = #[v0, v1] := by cases args; simp_all
  obtain ⟨rfl, rfl⟩ := trodVars_none hV
  obtain ⟨a0, len0, cap0, rfl⟩ := okWide_slice Try.underlying22 (hval 0 22 v0 rfl rfl)
  have lt0 : ∀ x ∈ p0, x.block < W.heap.size := by obtain ⟨m, hm⟩ := h0; exact DataW.trod_lt m _ _ _ hm
  obtain ⟨x0, rfl, see0, hl0, hc0⟩ := open_u8s h0 lt0
  have m0 := reach_u8s hsz (j := 0) rfl rfl hl0 hc0
  obtain ⟨s1, rfl, rfl, rfl, w1⟩ := open_string Try.underlying9 (hval 1 9 v1 rfl rfl) h1
  have m1 := reach_str hsz (j := 1) rfl rfl
  clear hA0 hval0
  refine (walk a0 cap0 x0 s1 W see0 m0 m1).mono fun e W' ⟨he, bel⟩ => ?_
  subst he
  exact ⟨_, rfl, _, _, _, [], _, [], hW', trodAll_mk1 (shut_bool Try.underlying4 _), (trodAll_cons_mk (Below.trod laidOut (by kernel_rfl) (of_decide_eq_true (by kernel_rfl)) h0 bel lt0) (trodAll_cons_mk (shut_string Try.underlying9 w1) trodAll_mk0)), rfl, bel.frame _, fun h => by cases h⟩

theorem proved : Rows.OctetsHexSaid :=
  OpenClaim.holds_of_wide 3 Try.f3 rfl rfl rfl rfl rfl rfl rfl ⟨rfl, rfl, rfl, rfl, rfl⟩ rfl rfl rfl rfl rfl (by kernel_rfl) Try.func3 (by kernel_rfl)
    (of_decide_eq_true (by kernel_rfl)) (by unfold Func.isWrapper; first | (rw [if_pos (by decide +kernel)]; kernel_rfl) | (rw [if_neg (by decide +kernel)]; exact ⟨rfl, rfl⟩))
    (fun os started H enc _ => lifted os started H enc)
end Go.Proofs.Ytelbphjdcekajaa.octetsHex
