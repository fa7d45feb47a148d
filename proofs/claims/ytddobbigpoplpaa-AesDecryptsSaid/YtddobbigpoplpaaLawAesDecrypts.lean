/-
  What is proved here: for all bytes, the program's Decrypt returns what the reference's returns, for them and for 16 bytes that are made of them (the statement AesDecrypts); no condition.
-/
import Derived.Test.YtddobbigpoplpaaOp5
import Derived.Test.YtddobbigpoplpaaAw5
import Derived.Test.YtddobbigpoplpaaR11
namespace Go.Proofs.Ytddobbigpoplpaa.aesDecrypts
open Go.ChangeShapes Go.WideShapes Go.ChangeAt Go.RowKit
open Go.ChangeMaps (open_string shut_string)
set_option linter.unusedVariables false

def anyB (x y : List UInt8) : List UInt8 := if x.length = 16 ∧ y.length = 16 then decL x y else []
def anyE (x y : List UInt8) : Int := if x.length = 16 ∧ y.length = 16 then 0 else 2
theorem any_len (x y : List UInt8) : (anyB x y).length ≤ 16 := by
  unfold anyB
  split
  · rw [decL_length]; exact Nat.le_refl _
  · simp
theorem aes_any (x y : List UInt8) (A1 A2 : Option Addr) (c1 c2 : Nat) (w : World) (m1 : x.length ≤ 140737488351232) (m2 : y.length ≤ 140737488351232) (h1 : Sees w w.heap.size A1 (Us x)) (h2 : Sees w w.heap.size A2 (Us y)) :
    Calls Try.prog 25 #[.slice A1 x.length c1, .slice A2 y.length c2] w (Gives w (anyB x y) (anyE x y)) := by
  unfold anyB anyE
  by_cases h : x.length = 16 ∧ y.length = 16
  · rw [if_pos h, if_pos h, h.1, h.2]
    exact aes_dec x y A1 A2 c1 c2 w h.1 h.2 h1 h2
  · rw [if_neg h, if_neg h]
    exact aes_dec_bad A1 A2 x.length y.length c1 c2 w (by omega) m1 m2
theorem ref_any (x y : List UInt8) (A1 A2 : Option Addr) (c1 c2 : Nat) (w : World) (m1 : x.length ≤ 140737488351232) (m2 : y.length ≤ 140737488351232) (h1 : Sees w w.heap.size A1 (Us x)) (h2 : Sees w w.heap.size A2 (Us y)) :
    Calls Try.prog 26 #[.slice A1 x.length c1, .slice A2 y.length c2] w (Gives w (anyB x y) (anyE x y)) := by
  unfold anyB anyE
  by_cases h : x.length = 16 ∧ y.length = 16
  · rw [if_pos h, if_pos h, h.1, h.2]
    exact ref_dec16 x y A1 A2 c1 c2 w h.1 h.2 h1 h2
  · rw [if_neg h, if_neg h]
    exact ref_dec_bad A1 A2 x.length y.length c1 c2 w (by omega) m1 m2
theorem ref_16 (k b : List UInt8) (A1 A2 : Option Addr) (c1 c2 : Nat) (w : World) (hk : k.length = 16) (hb : b.length = 16) (h1 : Sees w w.heap.size A1 (Us k)) (h2 : Sees w w.heap.size A2 (Us b)) :
    Calls Try.prog 26 #[.slice A1 16 c1, .slice A2 16 c2] w (G16 w (decL k b)) := (ref_dec16 k b A1 A2 c1 c2 w hk hb h1 h2).mono fun _ _ h => gives_16 (decL_length k b) h

set_option maxRecDepth 40000 in
set_option maxHeartbeats 1000000 in
theorem walk (A0 : Option Addr) (c0 : Nat) (x0 : List UInt8) (A1 : Option Addr) (c1 : Nat) (x1 : List UInt8) (w : World) (h0 : Sees w w.heap.size A0 (Us x0)) (m0 : x0.length ≤ 140737488351232) (n0 : A0 = none → c0 = 0) (h1 : Sees w w.heap.size A1 (Us x1)) (m1 : x1.length ≤ 140737488351232) (n1 : A1 = none → c1 = 0) :
    Calls Try.prog 6 #[.slice A0 x0.length c0, .slice A1 x1.length c1] w fun e w' => e = .returned (.bool true) ∧ Below w.heap.size w w' := by
  have H0 := Lib.hid h0
  have H1 := Lib.hid h1
  have HB := Lib.hid (Below.refl w.heap.size w)
  obtain ⟨X, hX⟩ : ∃ X, X = anyB x0 x1 := ⟨_, rfl⟩
  obtain ⟨E, hE⟩ : ∃ E, E = anyE x0 x1 := ⟨_, rfl⟩
  obtain ⟨k, hk⟩ : ∃ k, k = sxL x0 := ⟨_, rfl⟩
  obtain ⟨b, hb⟩ : ∃ b, b = sxL x1 := ⟨_, rfl⟩
  obtain ⟨z, hz⟩ : ∃ z, z = decL k b := ⟨_, rfl⟩
  have HKL := Lib.hid (show k.length = 16 by rw [hk]; exact sxL_length _)
  have HBL := Lib.hid (show b.length = 16 by rw [hb]; exact sxL_length _)
  have HZL := Lib.hid (show z.length = 16 by rw [hz]; exact decL_length _ _)
  have HZE := Lib.hid (show decL k b = z from hz.symm)
  have HXM := Lib.hid (show X.length ≤ maxLen by rw [hX]; have := any_len x0 x1; unfold maxLen; omega)
  have CP := Lib.hid (fun (w : World) (h : Sees w w.heap.size A0 (Us x0)) (h' : Sees w w.heap.size A1 (Us x1)) => (show Calls Try.prog 25 #[.slice A0 x0.length c0, .slice A1 x1.length c1] w (Gives w X E) by rw [hX, hE]; exact aes_any x0 x1 A0 A1 c0 c1 w m0 m1 h h'))
  have CR := Lib.hid (fun (w : World) (h : Sees w w.heap.size A0 (Us x0)) (h' : Sees w w.heap.size A1 (Us x1)) => (show Calls Try.prog 26 #[.slice A0 x0.length c0, .slice A1 x1.length c1] w (Gives w X E) by rw [hX, hE]; exact ref_any x0 x1 A0 A1 c0 c1 w m0 m1 h h'))
  have C16 := Lib.hid (fun (w : World) (h : Sees w w.heap.size A0 (Us x0)) => (show Calls Try.prog 20 #[.slice A0 x0.length c0] w (Mk16 w k) by rw [hk]; exact law_sixteen x0 A0 c0 w m0 n0 h))
  have D16 := Lib.hid (fun (w : World) (h : Sees w w.heap.size A1 (Us x1)) => (show Calls Try.prog 20 #[.slice A1 x1.length c1] w (Mk16 w b) by rw [hb]; exact law_sixteen x1 A1 c1 w m1 n1 h))
  clear h0 h1 n0 n1 hX hE hk hb hz
  go_enter Try.func6, Try.ntmps6
  go_wp2_with (first
    | (go_at_call 24; ((with_reducible refine (same_16 B5 B8 _ _ z _ HZL.out HZ.out HW.out).mono ?_); rintro e w11 ⟨rfl, hb⟩); replace HB := Lib.hid (below_on HB.out hb); clear hb)
    | (go_at_call 24; ((with_reducible refine (ref_same_yes B1 B2 _ _ X _ HX.out HY.out HXM.out).mono ?_); rintro e w10 ⟨rfl, hb⟩); replace HZ := Lib.hid (HZ.out.on hb); replace HW := Lib.hid (HW.out.on hb); replace HB := Lib.hid (below_on HB.out hb); clear hb)
    | (go_at_call 17; ((with_reducible refine (awake _).mono ?_); rintro e w9 ⟨rfl, hb⟩); replace HX := Lib.hid (HX.out.on hb); replace HY := Lib.hid (HY.out.on hb); replace HZ := Lib.hid (HZ.out.on hb); replace HW := Lib.hid (HW.out.on hb); replace HB := Lib.hid (below_on HB.out hb); clear hb)
    | (go_at_call 26; ((with_reducible refine (ref_16 k b B6 B7 _ _ _ HKL.out HBL.out HQ2.out HP2.out).mono ?_); rintro e w8 ⟨B8, e8, rfl, hs, hb⟩); replace HX := Lib.hid (HX.out.on hb); replace HY := Lib.hid (HY.out.on hb); replace HZ := Lib.hid (HZ.out.on hb); replace HB := Lib.hid (below_on HB.out hb); rw [HZE.out] at hs; have HW := Lib.hid hs; clear hs; clear hb)
    | (go_at_call 20; ((with_reducible refine (D16.out _ H1.out).mono ?_); rintro e w7 ⟨B7, e7, rfl, hs, hb⟩); replace HX := Lib.hid (HX.out.on hb); replace HY := Lib.hid (HY.out.on hb); replace HZ := Lib.hid (HZ.out.on hb); replace HQ2 := Lib.hid (HQ2.out.on hb); replace HB := Lib.hid (below_on HB.out hb); have HP2 := Lib.hid hs; clear hs; clear hb)
    | (go_at_call 20; ((with_reducible refine (C16.out _ H0.out).mono ?_); rintro e w6 ⟨B6, e6, rfl, hs, hb⟩); replace H0 := Lib.hid (H0.out.on hb); replace H1 := Lib.hid (H1.out.on hb); replace HX := Lib.hid (HX.out.on hb); replace HY := Lib.hid (HY.out.on hb); replace HZ := Lib.hid (HZ.out.on hb); replace HB := Lib.hid (below_on HB.out hb); have HQ2 := Lib.hid hs; clear hs; clear hb)
    | (go_at_call 25; ((with_reducible refine (dec_16 k b B3 B4 _ _ _ HKL.out HBL.out HQ.out HP.out).mono ?_); rintro e w5 ⟨B5, e5, rfl, hs, hb⟩); replace H0 := Lib.hid (H0.out.on hb); replace H1 := Lib.hid (H1.out.on hb); replace HX := Lib.hid (HX.out.on hb); replace HY := Lib.hid (HY.out.on hb); replace HB := Lib.hid (below_on HB.out hb); rw [HZE.out] at hs; have HZ := Lib.hid hs; clear hs; clear hb)
    | (go_at_call 20; ((with_reducible refine (D16.out _ H1.out).mono ?_); rintro e w4 ⟨B4, e4, rfl, hs, hb⟩); replace H0 := Lib.hid (H0.out.on hb); replace H1 := Lib.hid (H1.out.on hb); replace HX := Lib.hid (HX.out.on hb); replace HY := Lib.hid (HY.out.on hb); replace HQ := Lib.hid (HQ.out.on hb); replace HB := Lib.hid (below_on HB.out hb); have HP := Lib.hid hs; clear hs; clear hb)
    | (go_at_call 20; ((with_reducible refine (C16.out _ H0.out).mono ?_); rintro e w3 ⟨B3, e3, rfl, hs, hb⟩); replace H0 := Lib.hid (H0.out.on hb); replace H1 := Lib.hid (H1.out.on hb); replace HX := Lib.hid (HX.out.on hb); replace HY := Lib.hid (HY.out.on hb); replace HB := Lib.hid (below_on HB.out hb); have HQ := Lib.hid hs; clear hs; clear hb)
    | (go_at_call 26; ((with_reducible refine (CR.out _ H0.out H1.out).mono ?_); rintro e w2 ⟨B2, e2, rfl, hs, hb⟩); replace H0 := Lib.hid (H0.out.on hb); replace H1 := Lib.hid (H1.out.on hb); replace HX := Lib.hid (HX.out.on hb); replace HB := Lib.hid (below_on HB.out hb); have HY := Lib.hid hs; clear hs; clear hb)
    | (go_at_call 25; ((with_reducible refine (CP.out _ H0.out H1.out).mono ?_); rintro e w1 ⟨B1, e1, rfl, hs, hb⟩); replace H0 := Lib.hid (H0.out.on hb); replace H1 := Lib.hid (H1.out.on hb); replace HB := Lib.hid (below_on HB.out hb); have HX := Lib.hid hs; clear hs; clear hb))
  go_ret
  exact ⟨rfl, HB.out⟩

/-! ### the given statement, out of the walk -/
set_option maxRecDepth 100000 in
theorem lifted (os : Os) (started : os.Started) (H : Type) (enc : TypeId × Value → H) :
    ReturnsInHanded {} Try.checked os 6 .any (Rows.aesDecryptsSpec.pre6 enc Try.prog Try.f6 Rows.aesDecryptsRow.domain false) (Rows.aesDecryptsSpec.post enc Try.prog Try.f6 false true false false) := by
  refine returnsInHanded_of_change_sized (C := Try.checked) own started (by kernel_rfl) Try.func6
    (ChangeSpec.witness6 (enc := enc) (C := Try.checked) false ⟨#[], #[.slice none 0 0, .slice none 0 0], []⟩ 8 (by kernel_rfl) (by kernel_rfl) (by kernel_rfl) (by kernel_rfl)) ?_
  intro W base args ds gs before hval0 hW hcnd hsz0 _
  have hsz : (DataW.weightsEach Try.prog (Try.f6.params.toList ++ Rows.aesDecryptsSpec.plain.varTypes Try.prog) (ds ++ gs)).all (· ≤ reachBytes) = true := hsz0
  have hval : ∀ (j : Nat) t v, Try.f6.params[j]? = some t → args[j]? = some v → Value.okWide Try.prog W .any base t v := hval0
  have hW' := hW
  obtain ⟨p, q, hA0, hV, rfl, hfz, hnd⟩ := hW
  have hA : DataW.TrodAll enc Try.prog W 0 (fun _ => true) true Try.f6.params.toList args.toList ds p := hA0
  rw [Try.params6] at hA hval hsz
  obtain ⟨v0, vs0, d0, ds0, p0, q0, hargs, rfl, rfl, h0, r0⟩ := trodAll_cons hA
  obtain ⟨v1, vs1, d1, ds1, p1, q1, rfl, rfl, rfl, h1, r1⟩ := trodAll_cons r0
  obtain ⟨rfl, rfl, rfl⟩ := trodAll_nil r1
  obtain rfl : args = #[v0, v1] := by cases args; simp_all
  obtain ⟨rfl, rfl⟩ := trodVars_none hV
  obtain ⟨a0, len0, cap0, rfl⟩ := okWide_slice Try.underlying26 (hval 0 26 v0 rfl rfl)
  have lt0 : ∀ x ∈ p0, x.block < W.heap.size := by obtain ⟨m, hm⟩ := h0; exact DataW.trod_lt m _ _ _ hm
  obtain ⟨x0, rfl, see0, hl0, nn0, hc0⟩ := open_u8s h0 lt0
  have m0 := reach_u8s hsz (j := 0) rfl rfl hl0 hc0
  obtain ⟨a1, len1, cap1, rfl⟩ := okWide_slice Try.underlying26 (hval 1 26 v1 rfl rfl)
  have lt1 : ∀ x ∈ p1, x.block < W.heap.size := by obtain ⟨m, hm⟩ := h1; exact DataW.trod_lt m _ _ _ hm
  obtain ⟨x1, rfl, see1, hl1, nn1, hc1⟩ := open_u8s h1 lt1
  have m1 := reach_u8s hsz (j := 1) rfl rfl hl1 hc1
  clear hA0 hval0
  refine (walk a0 cap0 x0 a1 cap1 x1 W see0 m0 nn0 see1 m1 nn1).mono fun e W' ⟨he, bel⟩ => ?_
  subst he
  exact ⟨_, rfl, _, _, _, [], _, [], hW', trodAll_mk1 (shut_bool Try.underlying4 _), (trodAll_cons_mk (Below.trod laidOut (by kernel_rfl) (of_decide_eq_true (by kernel_rfl)) h0 bel lt0) (trodAll_cons_mk (Below.trod laidOut (by kernel_rfl) (of_decide_eq_true (by kernel_rfl)) h1 bel lt1) trodAll_mk0)), rfl, bel.frame _, fun h => by cases h⟩

theorem proved : Rows.AesDecryptsSaid :=
  OpenClaim.holds_of_wide 6 Try.f6 rfl rfl rfl rfl rfl rfl rfl ⟨rfl, rfl, rfl, rfl, rfl⟩ rfl rfl rfl rfl rfl (by kernel_rfl) Try.func6 (by kernel_rfl)
    (of_decide_eq_true (by kernel_rfl)) (by unfold Func.isWrapper; first | (rw [if_pos (by decide +kernel)]; kernel_rfl) | (rw [if_neg (by decide +kernel)]; exact ⟨rfl, rfl⟩))
    (fun os started H enc _ => lifted os started H enc)
end Go.Proofs.Ytddobbigpoplpaa.aesDecrypts
