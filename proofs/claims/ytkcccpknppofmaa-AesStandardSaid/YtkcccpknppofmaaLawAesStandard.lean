/-
  What is proved here: the published examples of the block cipher hold (the statement AesStandard): two substitutes, a last key, and an encrypted block; no condition.
-/
import Derived.Test.YtkcccpknppofmaaOp5
import Derived.Test.YtkcccpknppofmaaAw5
import Derived.Test.YtkcccpknppofmaaP10
import Derived.Test.YtkcccpknppofmaaUnr
namespace Go.Proofs.Ytkcccpknppofmaa.aesStandard
open Go.ChangeShapes Go.WideShapes Go.ChangeAt Go.RowKit
open Go.ChangeMaps (open_string shut_string)
set_option linter.unusedVariables false

theorem un_p : unB [48, 48, 49, 49, 50, 50, 51, 51, 52, 52, 53, 53, 54, 54, 55, 55, 56, 56, 57, 57, 97, 97, 98, 98, 99, 99, 100, 100, 101, 101, 102, 102] = [0, 17, 34, 51, 68, 85, 102, 119, 136, 153, 170, 187, 204, 221, 238, 255] ∧ unE [48, 48, 49, 49, 50, 50, 51, 51, 52, 52, 53, 53, 54, 54, 55, 55, 56, 56, 57, 57, 97, 97, 98, 98, 99, 99, 100, 100, 101, 101, 102, 102] = 0 := by decide +kernel
theorem un_q : unB [50, 98, 55, 101, 49, 53, 49, 54, 50, 56, 97, 101, 100, 50, 97, 54, 97, 98, 102, 55, 49, 53, 56, 56, 48, 57, 99, 102, 52, 102, 51, 99] = [43, 126, 21, 22, 40, 174, 210, 166, 171, 247, 21, 136, 9, 207, 79, 60] ∧ unE [50, 98, 55, 101, 49, 53, 49, 54, 50, 56, 97, 101, 100, 50, 97, 54, 97, 98, 102, 55, 49, 53, 56, 56, 48, 57, 99, 102, 52, 102, 51, 99] = 0 := by decide +kernel
theorem call_p (w : World) : Calls Try.prog 21 #[.string ⟨#[48, 48, 49, 49, 50, 50, 51, 51, 52, 52, 53, 53, 54, 54, 55, 55, 56, 56, 57, 57, 97, 97, 98, 98, 99, 99, 100, 100, 101, 101, 102, 102]⟩] w (G16 w [0, 17, 34, 51, 68, 85, 102, 119, 136, 153, 170, 187, 204, 221, 238, 255]) := by
  have h := ref_unhex ⟨#[48, 48, 49, 49, 50, 50, 51, 51, 52, 52, 53, 53, 54, 54, 55, 55, 56, 56, 57, 57, 97, 97, 98, 98, 99, 99, 100, 100, 101, 101, 102, 102]⟩ [48, 48, 49, 49, 50, 50, 51, 51, 52, 52, 53, 53, 54, 54, 55, 55, 56, 56, 57, 57, 97, 97, 98, 98, 99, 99, 100, 100, 101, 101, 102, 102] w rfl (by decide)
  rw [un_p.1, un_p.2] at h
  exact h.mono fun _ _ h => gives_16 rfl h
theorem call_q (w : World) : Calls Try.prog 21 #[.string ⟨#[50, 98, 55, 101, 49, 53, 49, 54, 50, 56, 97, 101, 100, 50, 97, 54, 97, 98, 102, 55, 49, 53, 56, 56, 48, 57, 99, 102, 52, 102, 51, 99]⟩] w (G16 w [43, 126, 21, 22, 40, 174, 210, 166, 171, 247, 21, 136, 9, 207, 79, 60]) := by
  have h := ref_unhex ⟨#[50, 98, 55, 101, 49, 53, 49, 54, 50, 56, 97, 101, 100, 50, 97, 54, 97, 98, 102, 55, 49, 53, 56, 56, 48, 57, 99, 102, 52, 102, 51, 99]⟩ [50, 98, 55, 101, 49, 53, 49, 54, 50, 56, 97, 101, 100, 50, 97, 54, 97, 98, 102, 55, 49, 53, 56, 56, 48, 57, 99, 102, 52, 102, 51, 99] w rfl (by decide)
  rw [un_q.1, un_q.2] at h
  exact h.mono fun _ _ h => gives_16 rfl h
theorem hex_16 (A : Option Addr) (c : Nat) (x : List UInt8) (w : World) (hx : x.length = 16) (h : Sees w w.heap.size A (Us x)) :
    Calls Try.prog 23 #[.slice A 16 c] w fun e w' => e = .returned (.string (S (hexL x))) ∧ Below w.heap.size w w' := by
  have h2 := ref_hex_b A c x w h (by rw [hx]; decide)
  rwa [hx] at h2
theorem seesL_at {w : World} {B : Nat} {A : Option Addr} {ls : List (List UInt8)} {l : List UInt8} {i : Nat} (h : SeesL w B A ls) (hi : ls[i]? = some l) : ∃ b off A2 c2, A = some ⟨b, off, none⟩ ∧ w.cell? ⟨b, off + i, none⟩ = some (.slice A2 l.length c2) ∧ Sees w B A2 (Us l) := by
  obtain ⟨vs, h1, h2⟩ := h
  have hlt : i < vs.length := by rw [h2.1]; exact (List.getElem?_eq_some_iff.1 hi).1
  obtain ⟨b, off, e, _, hc⟩ := h1.at_ hlt
  obtain ⟨A2, c2, hv, hs⟩ := h2.2 i l hi
  exact ⟨b, off, A2, c2, e, (hc i hlt).trans hv, hs⟩
theorem keys_at (k : List UInt8) : (keysL k)[10]? = some (rk k 10) := by
  rw [keysL, List.getElem?_map, List.getElem?_range (by decide)]
  rfl
theorem sub_83 : ((sb.getD 83 0).toNat : Int) = 237 := by kernel_rfl
theorem sub_0 : ((sb.getD 0 0).toNat : Int) = 99 := by kernel_rfl
theorem call_83 (w : World) : Calls Try.prog 9 #[.int .i64 83] w fun e w' => e = .returned (.int .i64 237) ∧ Below w.heap.size w w' := by
  have h := aes_subst 83 w (by decide)
  rw [sub_83] at h
  exact h
theorem call_0 (w : World) : Calls Try.prog 9 #[.int .i64 0] w fun e w' => e = .returned (.int .i64 99) ∧ Below w.heap.size w w' := by
  have h := aes_subst 0 w (by decide)
  rw [sub_0] at h
  exact h

set_option maxRecDepth 40000 in
set_option maxHeartbeats 1000000 in
theorem walk (w : World) : Calls Try.prog 8 #[] w fun e w' => e = .returned (.bool true) ∧ Below w.heap.size w w' := by
  obtain ⟨p, hp⟩ : ∃ y, y = ([0, 17, 34, 51, 68, 85, 102, 119, 136, 153, 170, 187, 204, 221, 238, 255] : List UInt8) := ⟨_, rfl⟩
  obtain ⟨q, hq⟩ : ∃ y, y = ([43, 126, 21, 22, 40, 174, 210, 166, 171, 247, 21, 136, 9, 207, 79, 60] : List UInt8) := ⟨_, rfl⟩
  obtain ⟨k, hk⟩ : ∃ y, y = keyX := ⟨_, rfl⟩
  obtain ⟨x, hx⟩ : ∃ y, y = encL k p := ⟨_, rfl⟩
  obtain ⟨r, hr⟩ : ∃ y, y = rk q 10 := ⟨_, rfl⟩
  have HP := Lib.hid (fun (w : World) => (show Calls Try.prog 21 #[.string ⟨#[48, 48, 49, 49, 50, 50, 51, 51, 52, 52, 53, 53, 54, 54, 55, 55, 56, 56, 57, 57, 97, 97, 98, 98, 99, 99, 100, 100, 101, 101, 102, 102]⟩] w (G16 w p) by rw [hp]; exact call_p w))
  have HQ := Lib.hid (fun (w : World) => (show Calls Try.prog 21 #[.string ⟨#[50, 98, 55, 101, 49, 53, 49, 54, 50, 56, 97, 101, 100, 50, 97, 54, 97, 98, 102, 55, 49, 53, 56, 56, 48, 57, 99, 102, 52, 102, 51, 99]⟩] w (G16 w q) by rw [hq]; exact call_q w))
  have HK := Lib.hid (fun (w : World) => (show Calls Try.prog 22 #[] w (Mk16 w k) by rw [hk]; exact law_key w))
  have HPL := Lib.hid (show p.length = 16 by rw [hp]; rfl)
  have HQL := Lib.hid (show q.length = 16 by rw [hq]; rfl)
  have HKL := Lib.hid (show k.length = 16 by rw [hk]; rfl)
  have HXL := Lib.hid (show x.length = 16 by rw [hx]; exact encL_length _ _)
  have HRL := Lib.hid (show r.length = 16 by rw [hr, rk_length, HQL.out])
  have HX := Lib.hid (show encL k p = x from hx.symm)
  have HR := Lib.hid (show (keysL q)[10]? = some r from by rw [hr]; exact keys_at q)
  have e1 : ((S (hexL x)).toList == [54, 57, 99, 52, 101, 48, 100, 56, 54, 97, 55, 98, 48, 52, 51, 48, 100, 56, 99, 100, 98, 55, 56, 48, 55, 48, 98, 52, 99, 53, 53, 97]) = true := by
    rw [S_toList, hx, hk, hp, enc_std]
    rfl
  have e2 : ((S (hexL r)).toList == [100, 48, 49, 52, 102, 57, 97, 56, 99, 57, 101, 101, 50, 53, 56, 57, 101, 49, 51, 102, 48, 99, 99, 56, 98, 54, 54, 51, 48, 99, 97, 54]) = true := by
    rw [S_toList, hr, hq, rk_std]
    rfl
  clear hp hq hk hx hr
  go_enter Try.func8, Try.ntmps8
  go_wp2_with fail
  refine (HP.out _).mono ?_
  rintro e w1 ⟨A1, c1, rfl, hs, hb⟩
  have S1 := Lib.hid hs
  have HB := Lib.hid hb
  clear hs hb
  go_wp2_with fail
  refine (HQ.out _).mono ?_
  rintro e w2 ⟨A2, c2, rfl, hs, hb⟩
  have S2 := Lib.hid hs
  replace S1 := Lib.hid (S1.out.on hb)
  replace HB := Lib.hid (below_on HB.out hb)
  clear hs hb
  go_wp2_with fail
  refine (HK.out _).mono ?_
  rintro e w3 ⟨A3, c3, rfl, hs, hb⟩
  have S3 := Lib.hid hs
  replace S1 := Lib.hid (S1.out.on hb)
  replace S2 := Lib.hid (S2.out.on hb)
  replace HB := Lib.hid (below_on HB.out hb)
  clear hs hb
  go_wp2_with fail
  refine (enc_16 k p A3 A1 _ _ _ HKL.out HPL.out S3.out S1.out).mono ?_
  rintro e w4 ⟨A4, c4, rfl, hs, hb⟩
  rw [HX.out] at hs
  have S4 := Lib.hid hs
  replace S2 := Lib.hid (S2.out.on hb)
  replace HB := Lib.hid (below_on HB.out hb)
  clear hs hb S1 S3
  go_wp2_with fail
  refine (aes_exp q A2 _ _ HQL.out S2.out).mono ?_
  rintro e w5 ⟨A5, c5, rfl, hs, hb⟩
  have S5 := Lib.hid hs
  replace S4 := Lib.hid (S4.out.on hb)
  replace HB := Lib.hid (below_on HB.out hb)
  clear hs hb S2
  rw [keysL_length]
  go_wp2_with fail
  refine (hex_16 A4 _ x _ HXL.out S4.out).mono ?_
  rintro e w6 ⟨rfl, hb⟩
  replace S5 := Lib.hid (S5.out.on hb)
  replace HB := Lib.hid (below_on HB.out hb)
  clear hb S4
  obtain ⟨b6, o6, A6, c6, rfl, y6, hs⟩ := seesL_at S5.out HR.out
  rw [HRL.out] at y6
  have S6 := Lib.hid hs
  clear hs S5
  go_wp2_with fail
  refine (hex_16 A6 _ r _ HRL.out S6.out).mono ?_
  rintro e w7 ⟨rfl, hb⟩
  replace HB := Lib.hid (below_on HB.out hb)
  clear hb S6 y6
  go_wp2_with fail
  refine (call_83 _).mono ?_
  rintro e w8 ⟨rfl, hb⟩
  replace HB := Lib.hid (below_on HB.out hb)
  clear hb
  go_wp2_with fail
  refine (call_0 _).mono ?_
  rintro e w9 ⟨rfl, hb⟩
  replace HB := Lib.hid (below_on HB.out hb)
  clear hb
  go_wp2_with fail
  go_ret
  exact ⟨rfl, HB.out⟩

/-! ### the given statement, out of the walk -/
set_option maxRecDepth 100000 in
theorem lifted (os : Os) (started : os.Started) (H : Type) (enc : TypeId × Value → H) :
    ReturnsInHanded {} Try.checked os 8 .any (Rows.aesStandardSpec.pre6 enc Try.prog Try.f8 Rows.aesStandardRow.domain false) (Rows.aesStandardSpec.post enc Try.prog Try.f8 false true false false) := by
  refine returnsInHanded_of_change_sized (C := Try.checked) own started (by kernel_rfl) Try.func8
    (ChangeSpec.witness6 (enc := enc) (C := Try.checked) false ⟨#[], #[], []⟩ 8 (by kernel_rfl) (by kernel_rfl) (by kernel_rfl) (by kernel_rfl)) ?_
  intro W base args ds gs before hval0 hW hcnd hsz0 _
  have hsz : (DataW.weightsEach Try.prog (Try.f8.params.toList ++ Rows.aesStandardSpec.plain.varTypes Try.prog) (ds ++ gs)).all (· ≤ reachBytes) = true := hsz0
  have hval : ∀ (j : Nat) t v, Try.f8.params[j]? = some t → args[j]? = some v → Value.okWide Try.prog W .any base t v := hval0
  have hW' := hW
  obtain ⟨p, q, hA0, hV, rfl, hfz, hnd⟩ := hW
  have hA : DataW.TrodAll enc Try.prog W 0 (fun _ => true) true Try.f8.params.toList args.toList ds p := hA0
  rw [Try.params8] at hA hval hsz
  obtain ⟨hargs, rfl, rfl⟩ := trodAll_nil hA
  obtain rfl : args = #[] := by cases args; simp_all
  obtain ⟨rfl, rfl⟩ := trodVars_none hV
  clear hA0 hval0
  refine (walk  W ).mono fun e W' ⟨he, bel⟩ => ?_
  subst he
  exact ⟨_, rfl, _, _, _, [], _, [], hW', trodAll_mk1 (shut_bool Try.underlying4 _), trodAll_mk0, rfl, bel.frame _, fun h => by cases h⟩

theorem proved : Rows.AesStandardSaid :=
  OpenClaim.holds_of_wide 8 Try.f8 rfl rfl rfl rfl rfl rfl rfl ⟨rfl, rfl, rfl, rfl, rfl⟩ rfl rfl rfl rfl rfl (by kernel_rfl) Try.func8 (by kernel_rfl)
    (of_decide_eq_true (by kernel_rfl)) (by unfold Func.isWrapper; first | (rw [if_pos (by decide +kernel)]; kernel_rfl) | (rw [if_neg (by decide +kernel)]; exact ⟨rfl, rfl⟩))
    (fun os started H enc _ => lifted os started H enc)
end Go.Proofs.Ytkcccpknppofmaa.aesStandard
