/-
  What is proved here: for all bytes, out of which a key and a block of 16 bytes are made: decryption and encryption lead back to the block, in both orders (the statement AesReturns); no condition.
-/
import Derived.Test.YtkcccpknppofmaaOp5
import Derived.Test.YtkcccpknppofmaaAw5
namespace Go.Proofs.Ytkcccpknppofmaa.aesReturns
open Go.ChangeShapes Go.WideShapes Go.ChangeAt Go.RowKit
open Go.ChangeMaps (open_string shut_string)
set_option linter.unusedVariables false

set_option maxRecDepth 40000 in
set_option maxHeartbeats 1000000 in
theorem walk (A0 : Option Addr) (c0 : Nat) (x0 : List UInt8) (A1 : Option Addr) (c1 : Nat) (x1 : List UInt8) (w : World) (h0 : Sees w w.heap.size A0 (Us x0)) (m0 : x0.length ≤ 140737488351232) (n0 : A0 = none → c0 = 0) (h1 : Sees w w.heap.size A1 (Us x1)) (m1 : x1.length ≤ 140737488351232) (n1 : A1 = none → c1 = 0) :
    Calls Try.prog 7 #[.slice A0 x0.length c0, .slice A1 x1.length c1] w fun e w' => e = .returned (.bool true) ∧ Below w.heap.size w w' := by
  have H0 := Lib.hid h0
  have H1 := Lib.hid h1
  have HN := Lib.hid (And.intro n0 n1)
  have HB := Lib.hid (Below.refl w.heap.size w)
  obtain ⟨k, hk⟩ : ∃ k, k = sxL x0 := ⟨_, rfl⟩
  obtain ⟨b, hb⟩ : ∃ b, b = sxL x1 := ⟨_, rfl⟩
  have HKL := Lib.hid (show k.length = 16 by rw [hk]; exact sxL_length _)
  have HBL := Lib.hid (show b.length = 16 by rw [hb]; exact sxL_length _)
  have c16 : ∀ w, Sees w w.heap.size A0 (Us x0) → Calls Try.prog 14 #[.slice A0 x0.length c0] w (Mk16 w k) := fun w h => by rw [hk]; exact law_sixteen x0 A0 c0 w m0 n0 h
  have d16 : ∀ w, Sees w w.heap.size A1 (Us x1) → Calls Try.prog 14 #[.slice A1 x1.length c1] w (Mk16 w b) := fun w h => by rw [hb]; exact law_sixteen x1 A1 c1 w m1 n1 h
  have C16 := Lib.hid c16
  have D16 := Lib.hid d16
  obtain ⟨x, hx⟩ : ∃ x, x = encL k b := ⟨_, rfl⟩
  obtain ⟨z, hz⟩ : ∃ z, z = decL k b := ⟨_, rfl⟩
  have HXL := Lib.hid (show x.length = 16 by rw [hx]; exact encL_length _ _)
  have HZL := Lib.hid (show z.length = 16 by rw [hz]; exact decL_length _ _)
  have HX := Lib.hid (show encL k b = x from hx.symm)
  have HZ := Lib.hid (show decL k b = z from hz.symm)
  have HDX := Lib.hid (show decL k x = b by rw [hx]; exact dec_enc HKL.out HBL.out)
  have HEZ := Lib.hid (show encL k z = b by rw [hz]; exact enc_dec HKL.out HBL.out)
  clear h0 h1 n0 n1 c16 d16 hk hb hx hz HN
  go_enter Try.func7, Try.ntmps7
  go_wp2_with (first
    | (go_at_call 14; ((with_reducible refine (C16.out _ H0.out).mono ?_); rintro e w1 ⟨B0, e0, rfl, hs, hb⟩); replace H0 := Lib.hid (H0.out.on hb); replace H1 := Lib.hid (H1.out.on hb); replace HB := Lib.hid (below_on HB.out hb); have HQ := Lib.hid hs; clear hs; clear hb)
    | (go_at_call 14; ((with_reducible refine (D16.out _ H1.out).mono ?_); rintro e w2 ⟨B1, e1, rfl, hs, hb⟩); replace H0 := Lib.hid (H0.out.on hb); replace H1 := Lib.hid (H1.out.on hb); replace HQ := Lib.hid (HQ.out.on hb); replace HB := Lib.hid (below_on HB.out hb); have HP := Lib.hid hs; clear hs; clear hb)
    | (go_at_call 16; ((with_reducible refine (enc_16 k b B0 B1 _ _ _ HKL.out HBL.out HQ.out HP.out).mono ?_); rintro e w3 ⟨B2, e2, rfl, hs, hb⟩); replace HQ := Lib.hid (HQ.out.on hb); replace HP := Lib.hid (HP.out.on hb); replace HB := Lib.hid (below_on HB.out hb); rw [HX.out] at hs; have HS2 := Lib.hid hs; clear hs; clear hb)
    | (go_at_call 19; ((with_reducible refine (dec_16 k x B0 B2 _ _ _ HKL.out HXL.out HQ.out HS2.out).mono ?_); rintro e w4 ⟨B3, e3, rfl, hs, hb⟩); replace HQ := Lib.hid (HQ.out.on hb); replace HP := Lib.hid (HP.out.on hb); replace HS2 := Lib.hid (HS2.out.on hb); replace HB := Lib.hid (below_on HB.out hb); rw [HDX.out] at hs; have HS3 := Lib.hid hs; clear hs; clear hb)
    | (go_at_call 19; ((with_reducible refine (dec_16 k b B0 B1 _ _ _ HKL.out HBL.out HQ.out HP.out).mono ?_); rintro e w5 ⟨B4, e4, rfl, hs, hb⟩); replace HQ := Lib.hid (HQ.out.on hb); replace HP := Lib.hid (HP.out.on hb); replace HS3 := Lib.hid (HS3.out.on hb); replace HB := Lib.hid (below_on HB.out hb); rw [HZ.out] at hs; have HS4 := Lib.hid hs; clear hs; clear hb)
    | (go_at_call 16; ((with_reducible refine (enc_16 k z B0 B4 _ _ _ HKL.out HZL.out HQ.out HS4.out).mono ?_); rintro e w6 ⟨B5, e5, rfl, hs, hb⟩); replace HP := Lib.hid (HP.out.on hb); replace HS3 := Lib.hid (HS3.out.on hb); replace HB := Lib.hid (below_on HB.out hb); rw [HEZ.out] at hs; have HS5 := Lib.hid hs; clear hs; clear hb)
    | (go_at_call 11; ((with_reducible refine (awake _).mono ?_); rintro e w7 ⟨rfl, hb⟩); replace HP := Lib.hid (HP.out.on hb); replace HS3 := Lib.hid (HS3.out.on hb); replace HS5 := Lib.hid (HS5.out.on hb); replace HB := Lib.hid (below_on HB.out hb); clear hb)
    | (go_at_call 18; ((with_reducible refine (same_16 B3 B1 _ _ b _ HBL.out HS3.out HP.out).mono ?_); rintro e w8 ⟨rfl, hb⟩); replace HP := Lib.hid (HP.out.on hb); replace HS5 := Lib.hid (HS5.out.on hb); replace HB := Lib.hid (below_on HB.out hb); clear hb)
    | (go_at_call 18; ((with_reducible refine (same_16 B5 B1 _ _ b _ HBL.out HS5.out HP.out).mono ?_); rintro e w9 ⟨rfl, hb⟩); replace HB := Lib.hid (below_on HB.out hb); clear hb))
  go_ret
  exact ⟨rfl, HB.out⟩

/-! ### the given statement, out of the walk -/
set_option maxRecDepth 100000 in
theorem lifted (os : Os) (started : os.Started) (H : Type) (enc : TypeId × Value → H) :
    ReturnsInHanded {} Try.checked os 7 .any (Rows.aesReturnsSpec.pre6 enc Try.prog Try.f7 Rows.aesReturnsRow.domain false) (Rows.aesReturnsSpec.post enc Try.prog Try.f7 false true false false) := by
  refine returnsInHanded_of_change_sized (C := Try.checked) own started (by kernel_rfl) Try.func7
    (ChangeSpec.witness6 (enc := enc) (C := Try.checked) false ⟨#[], #[.slice none 0 0, .slice none 0 0], []⟩ 8 (by kernel_rfl) (by kernel_rfl) (by kernel_rfl) (by kernel_rfl)) ?_
  intro W base args ds gs before hval0 hW hcnd hsz0 _
  have hsz : (DataW.weightsEach Try.prog (Try.f7.params.toList ++ Rows.aesReturnsSpec.plain.varTypes Try.prog) (ds ++ gs)).all (· ≤ reachBytes) = true := hsz0
  have hval : ∀ (j : Nat) t v, Try.f7.params[j]? = some t → args[j]? = some v → Value.okWide Try.prog W .any base t v := hval0
  have hW' := hW
  obtain ⟨p, q, hA0, hV, rfl, hfz, hnd⟩ := hW
  have hA : DataW.TrodAll enc Try.prog W 0 (fun _ => true) true Try.f7.params.toList args.toList ds p := hA0
  rw [Try.params7] at hA hval hsz
  obtain ⟨v0, vs0, d0, ds0, p0, q0, hargs, rfl, rfl, h0, r0⟩ := trodAll_cons hA
  obtain ⟨v1, vs1, d1, ds1, p1, q1, rfl, rfl, rfl, h1, r1⟩ := trodAll_cons r0
  obtain ⟨rfl, rfl, rfl⟩ := trodAll_nil r1
  obtain rfl : args = #[v0, v1] := by cases args; simp_all
  obtain ⟨rfl, rfl⟩ := trodVars_none hV
  obtain ⟨a0, len0, cap0, rfl⟩ := okWide_slice Try.underlying26 (hval 0 26 v0 rfl rfl)
  have lt0 : ∀ x ∈ p0, x.block < W.heap.size := by obtain ⟨m, hm⟩ := h0; exact DataW.trod_lt m _ _ _ hm
  obtain ⟨x0, rfl, see0, hl0, nn0, hc0⟩ := open_u8s h0 lt0
  have m0 := reach_u8s hsz (j := 0) rfl rfl hl0 hc0
  obtain ⟨a1, len1, cap1, rfl⟩ := okWide_slice Try.underlying26 (hval 1 26 v1 rfl rfl)
  have lt1 : ∀ x ∈ p1, x.block < W.heap.size := by obtain ⟨m, hm⟩ := h1; exact DataW.trod_lt m _ _ _ hm
  obtain ⟨x1, rfl, see1, hl1, nn1, hc1⟩ := open_u8s h1 lt1
  have m1 := reach_u8s hsz (j := 1) rfl rfl hl1 hc1
  clear hA0 hval0
  refine (walk a0 cap0 x0 a1 cap1 x1 W see0 m0 nn0 see1 m1 nn1).mono fun e W' ⟨he, bel⟩ => ?_
  subst he
  exact ⟨_, rfl, _, _, _, [], _, [], hW', trodAll_mk1 (shut_bool Try.underlying4 _), (trodAll_cons_mk (Below.trod laidOut (by kernel_rfl) (of_decide_eq_true (by kernel_rfl)) h0 bel lt0) (trodAll_cons_mk (Below.trod laidOut (by kernel_rfl) (of_decide_eq_true (by kernel_rfl)) h1 bel lt1) trodAll_mk0)), rfl, bel.frame _, fun h => by cases h⟩

theorem proved : Rows.AesReturnsSaid :=
  OpenClaim.holds_of_wide 7 Try.f7 rfl rfl rfl rfl rfl rfl rfl ⟨rfl, rfl, rfl, rfl, rfl⟩ rfl rfl rfl rfl rfl (by kernel_rfl) Try.func7 (by kernel_rfl)
    (of_decide_eq_true (by kernel_rfl)) (by unfold Func.isWrapper; first | (rw [if_pos (by decide +kernel)]; kernel_rfl) | (rw [if_neg (by decide +kernel)]; exact ⟨rfl, rfl⟩))
    (fun os started H enc _ => lifted os started H enc)
end Go.Proofs.Ytkcccpknppofmaa.aesReturns
