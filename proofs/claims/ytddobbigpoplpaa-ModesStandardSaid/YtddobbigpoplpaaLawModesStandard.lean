/-
  What is proved here: the published check codes of no bytes and of one block are what Code returns (the statement ModesStandard); no condition.
-/
import Derived.Test.YtddobbigpoplpaaOp5
import Derived.Test.YtddobbigpoplpaaAw5
import Derived.Test.YtddobbigpoplpaaUnr
import Derived.Test.YtddobbigpoplpaaMd
namespace Go.Proofs.Ytddobbigpoplpaa.modesStandard
open Go.ChangeShapes Go.WideShapes Go.ChangeAt Go.RowKit
open Go.ChangeMaps (open_string shut_string)
set_option linter.unusedVariables false

theorem un_p : unB [50, 98, 55, 101, 49, 53, 49, 54, 50, 56, 97, 101, 100, 50, 97, 54, 97, 98, 102, 55, 49, 53, 56, 56, 48, 57, 99, 102, 52, 102, 51, 99] = [43, 126, 21, 22, 40, 174, 210, 166, 171, 247, 21, 136, 9, 207, 79, 60] ∧ unE [50, 98, 55, 101, 49, 53, 49, 54, 50, 56, 97, 101, 100, 50, 97, 54, 97, 98, 102, 55, 49, 53, 56, 56, 48, 57, 99, 102, 52, 102, 51, 99] = 0 := by decide +kernel
theorem un_q : unB [54, 98, 99, 49, 98, 101, 101, 50, 50, 101, 52, 48, 57, 102, 57, 54, 101, 57, 51, 100, 55, 101, 49, 49, 55, 51, 57, 51, 49, 55, 50, 97] = [107, 193, 190, 226, 46, 64, 159, 150, 233, 61, 126, 17, 115, 147, 23, 42] ∧ unE [54, 98, 99, 49, 98, 101, 101, 50, 50, 101, 52, 48, 57, 102, 57, 54, 101, 57, 51, 100, 55, 101, 49, 49, 55, 51, 57, 51, 49, 55, 50, 97] = 0 := by decide +kernel
theorem std_1 : codeL [43, 126, 21, 22, 40, 174, 210, 166, 171, 247, 21, 136, 9, 207, 79, 60] [] = [187, 29, 105, 41, 233, 89, 55, 40, 127, 163, 125, 18, 155, 117, 103, 70] := by decide +kernel
theorem std_2 : codeL [43, 126, 21, 22, 40, 174, 210, 166, 171, 247, 21, 136, 9, 207, 79, 60] [107, 193, 190, 226, 46, 64, 159, 150, 233, 61, 126, 17, 115, 147, 23, 42] = [7, 10, 22, 180, 107, 77, 65, 68, 247, 155, 221, 157, 208, 74, 40, 124] := by decide +kernel
theorem call_p (w : World) : Calls Try.prog 27 #[.string ⟨#[50, 98, 55, 101, 49, 53, 49, 54, 50, 56, 97, 101, 100, 50, 97, 54, 97, 98, 102, 55, 49, 53, 56, 56, 48, 57, 99, 102, 52, 102, 51, 99]⟩] w (G16 w [43, 126, 21, 22, 40, 174, 210, 166, 171, 247, 21, 136, 9, 207, 79, 60]) := by
  have h := ref_unhex ⟨#[50, 98, 55, 101, 49, 53, 49, 54, 50, 56, 97, 101, 100, 50, 97, 54, 97, 98, 102, 55, 49, 53, 56, 56, 48, 57, 99, 102, 52, 102, 51, 99]⟩ [50, 98, 55, 101, 49, 53, 49, 54, 50, 56, 97, 101, 100, 50, 97, 54, 97, 98, 102, 55, 49, 53, 56, 56, 48, 57, 99, 102, 52, 102, 51, 99] w rfl (by decide)
  rw [un_p.1, un_p.2] at h
  exact h.mono fun _ _ h => gives_16 rfl h
theorem call_q (w : World) : Calls Try.prog 27 #[.string ⟨#[54, 98, 99, 49, 98, 101, 101, 50, 50, 101, 52, 48, 57, 102, 57, 54, 101, 57, 51, 100, 55, 101, 49, 49, 55, 51, 57, 51, 49, 55, 50, 97]⟩] w (G16 w [107, 193, 190, 226, 46, 64, 159, 150, 233, 61, 126, 17, 115, 147, 23, 42]) := by
  have h := ref_unhex ⟨#[54, 98, 99, 49, 98, 101, 101, 50, 50, 101, 52, 48, 57, 102, 57, 54, 101, 57, 51, 100, 55, 101, 49, 49, 55, 51, 57, 51, 49, 55, 50, 97]⟩ [54, 98, 99, 49, 98, 101, 101, 50, 50, 101, 52, 48, 57, 102, 57, 54, 101, 57, 51, 100, 55, 101, 49, 49, 55, 51, 57, 51, 49, 55, 50, 97] w rfl (by decide)
  rw [un_q.1, un_q.2] at h
  exact h.mono fun _ _ h => gives_16 rfl h
theorem hex_16 (A : Option Addr) (c : Nat) (x : List UInt8) (w : World) (hx : x.length = 16) (h : Sees w w.heap.size A (Us x)) :
    Calls Try.prog 29 #[.slice A 16 c] w fun e w' => e = .returned (.string (S (hexL x))) ∧ Below w.heap.size w w' := by
  have h2 := ref_hex_b A c x w h (by rw [hx]; decide)
  rwa [hx] at h2
theorem row_16 {w w' : World} {l : List UInt8} {e : Ending} (h : Row16 w l e w') : G16 w l e w' := by
  obtain ⟨g, he, hg, hr, hb⟩ := h
  exact ⟨some ⟨g, 0, none⟩, 16, he, SeesP.iff_sees.1 (hr.sees (· < w'.heap.size) hr.lt), hb⟩
theorem code_0 (k : List UInt8) (A : Option Addr) (c : Nat) (w : World) (hk : k.length = 16) (h : Sees w w.heap.size A (Us k)) :
    Calls Try.prog 40 #[.slice A 16 c, .slice none 0 0] w (G16 w (codeL k [])) := by
  have h2 := modes_code k [] A none c 0 w (by omega) (by decide) (SeesP.iff_sees.2 h) (.inl rfl)
  rw [hk] at h2
  exact h2.mono fun _ _ h => row_16 (h.1 rfl)
theorem code_16 (k b : List UInt8) (A A2 : Option Addr) (c c2 : Nat) (w : World) (hk : k.length = 16) (hb : b.length = 16) (h : Sees w w.heap.size A (Us k)) (h2 : Sees w w.heap.size A2 (Us b)) :
    Calls Try.prog 40 #[.slice A 16 c, .slice A2 16 c2] w (G16 w (codeL k b)) := by
  have h2 := modes_code k b A A2 c c2 w (by omega) (by omega) (SeesP.iff_sees.2 h) (SeesP.iff_sees.2 h2)
  rw [hk, hb] at h2
  exact h2.mono fun _ _ h => row_16 (h.1 rfl)

set_option maxRecDepth 40000 in
set_option maxHeartbeats 1000000 in
theorem walk (w : World) : Calls Try.prog 14 #[] w fun e w' => e = .returned (.bool true) ∧ Below w.heap.size w w' := by
  obtain ⟨k, hk⟩ : ∃ y, y = ([43, 126, 21, 22, 40, 174, 210, 166, 171, 247, 21, 136, 9, 207, 79, 60] : List UInt8) := ⟨_, rfl⟩
  obtain ⟨b, hb⟩ : ∃ y, y = ([107, 193, 190, 226, 46, 64, 159, 150, 233, 61, 126, 17, 115, 147, 23, 42] : List UInt8) := ⟨_, rfl⟩
  obtain ⟨x, hx⟩ : ∃ y, y = codeL k [] := ⟨_, rfl⟩
  obtain ⟨y, hy⟩ : ∃ y, y = codeL k b := ⟨_, rfl⟩
  have HP := Lib.hid (fun (w : World) => (show Calls Try.prog 27 #[.string ⟨#[50, 98, 55, 101, 49, 53, 49, 54, 50, 56, 97, 101, 100, 50, 97, 54, 97, 98, 102, 55, 49, 53, 56, 56, 48, 57, 99, 102, 52, 102, 51, 99]⟩] w (G16 w k) by rw [hk]; exact call_p w))
  have HQ := Lib.hid (fun (w : World) => (show Calls Try.prog 27 #[.string ⟨#[54, 98, 99, 49, 98, 101, 101, 50, 50, 101, 52, 48, 57, 102, 57, 54, 101, 57, 51, 100, 55, 101, 49, 49, 55, 51, 57, 51, 49, 55, 50, 97]⟩] w (G16 w b) by rw [hb]; exact call_q w))
  have HKL := Lib.hid (show k.length = 16 by rw [hk]; rfl)
  have HBL := Lib.hid (show b.length = 16 by rw [hb]; rfl)
  have HXL := Lib.hid (show x.length = 16 by rw [hx]; exact codeL_length _ _)
  have HYL := Lib.hid (show y.length = 16 by rw [hy]; exact codeL_length _ _)
  have HX := Lib.hid (show codeL k [] = x from hx.symm)
  have HY := Lib.hid (show codeL k b = y from hy.symm)
  have e1 : ((S (hexL x)).toList == [98, 98, 49, 100, 54, 57, 50, 57, 101, 57, 53, 57, 51, 55, 50, 56, 55, 102, 97, 51, 55, 100, 49, 50, 57, 98, 55, 53, 54, 55, 52, 54]) = true := by
    rw [S_toList, hx, hk, std_1]
    rfl
  have e2 : ((S (hexL y)).toList == [48, 55, 48, 97, 49, 54, 98, 52, 54, 98, 52, 100, 52, 49, 52, 52, 102, 55, 57, 98, 100, 100, 57, 100, 100, 48, 52, 97, 50, 56, 55, 99]) = true := by
    rw [S_toList, hy, hk, hb, std_2]
    rfl
  clear hk hb hx hy
  go_enter Try.func14, Try.ntmps14
  go_wp2_with fail
  refine (HP.out _).mono ?_
  rintro e w1 ⟨A1, c1, rfl, hs, hb⟩
  have S1 := Lib.hid hs
  have HB := Lib.hid hb
  clear hs hb
  go_wp2_with fail
  refine (HQ.out _).mono ?_
  rintro e w2 ⟨A2, c2, rfl, hs, hb⟩
  have S2 := Lib.hid hs
  replace S1 := Lib.hid (S1.out.on hb)
  replace HB := Lib.hid (below_on HB.out hb)
  clear hs hb
  go_wp2_with fail
  refine (code_0 k A1 _ _ HKL.out S1.out).mono ?_
  rintro e w3 ⟨A3, c3, rfl, hs, hb⟩
  rw [HX.out] at hs
  have S3 := Lib.hid hs
  replace S1 := Lib.hid (S1.out.on hb)
  replace S2 := Lib.hid (S2.out.on hb)
  replace HB := Lib.hid (below_on HB.out hb)
  clear hs hb
  go_wp2_with fail
  refine (code_16 k b A1 A2 _ _ _ HKL.out HBL.out S1.out S2.out).mono ?_
  rintro e w4 ⟨A4, c4, rfl, hs, hb⟩
  rw [HY.out] at hs
  have S4 := Lib.hid hs
  replace S3 := Lib.hid (S3.out.on hb)
  replace HB := Lib.hid (below_on HB.out hb)
  clear hs hb S1 S2
  go_wp2_with fail
  refine (hex_16 A3 _ x _ HXL.out S3.out).mono ?_
  rintro e w5 ⟨rfl, hb⟩
  replace S4 := Lib.hid (S4.out.on hb)
  replace HB := Lib.hid (below_on HB.out hb)
  clear hb S3
  go_wp2_with fail
  refine (hex_16 A4 _ y _ HYL.out S4.out).mono ?_
  rintro e w6 ⟨rfl, hb⟩
  replace HB := Lib.hid (below_on HB.out hb)
  clear hb S4
  go_wp2_with fail
  go_ret
  exact ⟨rfl, HB.out⟩

/-! ### the given statement, out of the walk -/
set_option maxRecDepth 100000 in
theorem lifted (os : Os) (started : os.Started) (H : Type) (enc : TypeId × Value → H) :
    ReturnsInHanded {} Try.checked os 14 .any (Rows.modesStandardSpec.pre6 enc Try.prog Try.f14 Rows.modesStandardRow.domain false) (Rows.modesStandardSpec.post enc Try.prog Try.f14 false true false false) := by
  refine returnsInHanded_of_change_sized (C := Try.checked) own started (by kernel_rfl) Try.func14
    (ChangeSpec.witness6 (enc := enc) (C := Try.checked) false ⟨#[], #[], []⟩ 8 (by kernel_rfl) (by kernel_rfl) (by kernel_rfl) (by kernel_rfl)) ?_
  intro W base args ds gs before hval0 hW hcnd hsz0 _
  have hsz : (DataW.weightsEach Try.prog (Try.f14.params.toList ++ Rows.modesStandardSpec.plain.varTypes Try.prog) (ds ++ gs)).all (· ≤ reachBytes) = true := hsz0
  have hval : ∀ (j : Nat) t v, Try.f14.params[j]? = some t → args[j]? = some v → Value.okWide Try.prog W .any base t v := hval0
  have hW' := hW
  obtain ⟨p, q, hA0, hV, rfl, hfz, hnd⟩ := hW
  have hA : DataW.TrodAll enc Try.prog W 0 (fun _ => true) true Try.f14.params.toList args.toList ds p := hA0
  rw [Try.params14] at hA hval hsz
  obtain ⟨hargs, rfl, rfl⟩ := trodAll_nil hA
  obtain rfl : args = #[] := by cases args; simp_all
  obtain ⟨rfl, rfl⟩ := trodVars_none hV
  clear hA0 hval0
  refine (walk  W ).mono fun e W' ⟨he, bel⟩ => ?_
  subst he
  exact ⟨_, rfl, _, _, _, [], _, [], hW', trodAll_mk1 (shut_bool Try.underlying4 _), trodAll_mk0, rfl, bel.frame _, fun h => by cases h⟩

theorem proved : Rows.ModesStandardSaid :=
  OpenClaim.holds_of_wide 14 Try.f14 rfl rfl rfl rfl rfl rfl rfl ⟨rfl, rfl, rfl, rfl, rfl⟩ rfl rfl rfl rfl rfl (by kernel_rfl) Try.func14 (by kernel_rfl)
    (of_decide_eq_true (by kernel_rfl)) (by unfold Func.isWrapper; first | (rw [if_pos (by decide +kernel)]; kernel_rfl) | (rw [if_neg (by decide +kernel)]; exact ⟨rfl, rfl⟩))
    (fun os started H enc _ => lifted os started H enc)
end Go.Proofs.Ytddobbigpoplpaa.modesStandard
