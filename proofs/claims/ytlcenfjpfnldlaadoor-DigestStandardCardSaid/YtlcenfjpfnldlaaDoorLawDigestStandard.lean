/-
  What is proved here: the published digests of no bytes, of "abc" and of the text of 56 bytes (the statement DigestStandard), where the program's tables start as the program's text lays them; no other condition.
-/
import Derived.Test.YtlcenfjpfnldlaaDoorOp4
namespace Go.Proofs.YtlcenfjpfnldlaaDoor.digestStandard
open Go.ChangeShapes Go.WideShapes Go.ChangeAt Go.RowKit
open Go.ChangeMaps (open_string shut_string)
set_option linter.unusedVariables false

def dE : List UInt8 := [227, 176, 196, 66, 152, 252, 28, 20, 154, 251, 244, 200, 153, 111, 185, 36, 39, 174, 65, 228, 100, 155, 147, 76, 164, 149, 153, 27, 120, 82, 184, 85]
def dA : List UInt8 := [186, 120, 22, 191, 143, 1, 207, 234, 65, 65, 64, 222, 93, 174, 34, 35, 176, 3, 97, 163, 150, 23, 122, 156, 180, 16, 255, 97, 242, 0, 21, 173]
def dC : List UInt8 := [36, 141, 106, 97, 210, 6, 56, 184, 229, 192, 38, 147, 12, 62, 96, 57, 163, 60, 228, 89, 100, 255, 33, 103, 246, 236, 237, 212, 25, 219, 6, 193]
def tx : List UInt8 := [97, 98, 99, 100, 98, 99, 100, 101, 99, 100, 101, 102, 100, 101, 102, 103, 101, 102, 103, 104, 102, 103, 104, 105, 103, 104, 105, 106, 104, 105, 106, 107, 105, 106, 107, 108, 106, 107, 108, 109, 107, 108, 109, 110, 108, 109, 110, 111, 109, 110, 111, 112, 110, 111, 112, 113]
set_option maxRecDepth 100000 in
theorem sum_e : sumL [] = dE := by decide +kernel
set_option maxRecDepth 100000 in
theorem sum_c : sumL tx = dC := by decide +kernel
theorem sum_a : sumL [97, 98, 99] = dA := sum_abc
theorem hex_dE : ((S (hexL dE)).toList == [101, 51, 98, 48, 99, 52, 52, 50, 57, 56, 102, 99, 49, 99, 49, 52, 57, 97, 102, 98, 102, 52, 99, 56, 57, 57, 54, 102, 98, 57, 50, 52, 50, 55, 97, 101, 52, 49, 101, 52, 54, 52, 57, 98, 57, 51, 52, 99, 97, 52, 57, 53, 57, 57, 49, 98, 55, 56, 53, 50, 98, 56, 53, 53]) = true := by rw [S_toList]; decide +kernel
theorem hex_dA : ((S (hexL dA)).toList == [98, 97, 55, 56, 49, 54, 98, 102, 56, 102, 48, 49, 99, 102, 101, 97, 52, 49, 52, 49, 52, 48, 100, 101, 53, 100, 97, 101, 50, 50, 50, 51, 98, 48, 48, 51, 54, 49, 97, 51, 57, 54, 49, 55, 55, 97, 57, 99, 98, 52, 49, 48, 102, 102, 54, 49, 102, 50, 48, 48, 49, 53, 97, 100]) = true := by rw [S_toList]; decide +kernel
theorem hex_dC : ((S (hexL dC)).toList == [50, 52, 56, 100, 54, 97, 54, 49, 100, 50, 48, 54, 51, 56, 98, 56, 101, 53, 99, 48, 50, 54, 57, 51, 48, 99, 51, 101, 54, 48, 51, 57, 97, 51, 51, 99, 101, 52, 53, 57, 54, 52, 102, 102, 50, 49, 54, 55, 102, 54, 101, 99, 101, 100, 100, 52, 49, 57, 100, 98, 48, 54, 99, 49]) = true := by rw [S_toList]; decide +kernel
theorem sum_hex {x d : List UInt8} {w w' : World} {e : Ending} (h : Mk w (sumL x) e w') (hd : sumL x = d) (h32 : d.length = 32) : ∃ A c, e = .returned (.slice A 32 c) ∧ Hid (Sees w' w'.heap.size A (Us d)) ∧ Hid (Below w.heap.size w w') := by
  rw [hd] at h
  obtain ⟨A, c, he, hc, hn, hs, hb⟩ := mk_sees h
  rw [h32] at he
  exact ⟨A, c, he, Lib.hid (SeesP.iff_sees.1 hs), Lib.hid hb⟩
theorem hex_any {d : List UInt8} {A : Option Addr} {c : Nat} {w : World} (h : Hid (Sees w w.heap.size A (Us d))) (h32 : d.length = 32) : Calls Tryd.prog 18 #[.slice A 32 c] w fun e w' => e = .returned (.string (S (hexL d))) ∧ Below w.heap.size w w' := by
  have h0 := ref_hex_b A c d w h.out (by omega)
  rw [h32] at h0
  exact h0

set_option maxRecDepth 40000 in
set_option maxHeartbeats 1000000 in
theorem walk (w : World) (ht : TabA w) : Calls Tryd.prog 7 #[] w fun e w' => e = .returned (.bool true) ∧ Below w.heap.size w w' := by
  have H := Lib.hid ht
  clear ht
  have kc := fun (w : World) (C : Array Value) (n c : Nat) => Lib.run_convert_bytes_const (P := Tryd.prog) w 22 5 C n c Tryd.underlying22 Tryd.underlying5
  have e1 := hex_dE
  have e2 := hex_dA
  have e3 := hex_dC
  go_enter Tryd.func7, Tryd.ntmps7
  go_wp2_with fail
  refine (digest_sum [] none 0 w (by simp) (.inl rfl) H.out.1 H.out.2.1).mono ?_
  intro e w1 hm
  obtain ⟨A1, c1, rfl, s1, b1⟩ := sum_hex hm sum_e rfl
  clear hm
  go_wp2_with fail
  refine (hex_any s1 rfl).mono ?_
  rintro e w2 ⟨rfl, hb2⟩
  have B2 := Lib.hid (below_on b1.out hb2)
  clear s1 b1 hb2
  go_wp2_with fail
  refine (sum_small [97, 98, 99] w2 5 (3, 4) (H.out.below B2.out) (by decide)).mono ?_
  intro e w3 hm
  obtain ⟨A3, c3, rfl, s3, b3⟩ := sum_hex hm sum_a rfl
  have B3 := Lib.hid (below_on B2.out (below_on ((Below.refl w2.heap.size w2).alloc (Nat.le_refl _) (.cells (Us [97, 98, 99]).toArray 5 (3, 4))) b3.out))
  clear hm b3
  go_wp2_with fail
  refine (hex_any s3 rfl).mono ?_
  rintro e w4 ⟨rfl, hb4⟩
  have B4 := Lib.hid (below_on B3.out hb4)
  clear s3 hb4 B3 B2
  go_wp2_with fail
  refine (sum_small tx w4 5 (56, 57) (H.out.below B4.out) (by decide)).mono ?_
  intro e w5 hm
  obtain ⟨A5, c5, rfl, s5, b5⟩ := sum_hex hm sum_c rfl
  have B5 := Lib.hid (below_on B4.out (below_on ((Below.refl w4.heap.size w4).alloc (Nat.le_refl _) (.cells (Us tx).toArray 5 (56, 57))) b5.out))
  clear hm b5
  go_wp2_with fail
  refine (hex_any s5 rfl).mono ?_
  rintro e w6 ⟨rfl, hb6⟩
  have B6 := Lib.hid (below_on B5.out hb6)
  clear s5 hb6 B5 B4
  go_wp2_with fail
  go_ret
  exact ⟨rfl, B6.out⟩

/-! ### the given statement, out of the walk -/
set_option maxRecDepth 100000 in
theorem lifted (os : Os) (started : os.Started) (H : Type) (enc : TypeId × Value → H) :
    ReturnsInHanded {} Tryd.checked os 7 .any (fun w args => (Rows.digestStandardSpec.pre enc Tryd.prog Tryd.f7 Rows.digestStandardRow.domain false w args ∧ laidMetH Tryd.prog laidL w) ∧ sizedMet enc Tryd.prog Tryd.f7 (OpenSpec.ofChange Rows.digestStandardSpec) false w args)
      (Rows.digestStandardSpec.post enc Tryd.prog Tryd.f7 false true false false) := by
  refine returnsInHanded_of_change_and (C := Tryd.checked) (X := fun w _ => laidMetH Tryd.prog laidL w) (fun _ _ _ hh h => h.of_heap hh) own started (by kernel_rfl) Tryd.func7
    (ChangeSpec.witness_shaped (enc := enc) (C := Tryd.checked) (os := os) (X := fun w _ => laidMetH Tryd.prog laidL w) false (World.laidAll Tryd.prog os laidL) #[] 8 (World.laidAll_os _ _ _)
      (World.shaped_of_ZipB (by kernel_rfl) (by kernel_rfl)) (by kernel_rfl) (by kernel_rfl) (by kernel_rfl)
      (by rw [MakeChecks.laidMetH_plain _ _ _ (by kernel_rfl)]; exact laidMet_laidAll _ (by kernel_rfl) (by kernel_rfl))) ?_
  intro W base args ds gs before hval0 hW hcnd hsz0 hL _
  clear hsz0
  have hval : ∀ (j : Nat) t v, Tryd.f7.params[j]? = some t → args[j]? = some v → Value.okWide Tryd.prog W .any base t v := hval0
  have hW' := hW
  obtain ⟨p, q, hA0, hV, rfl, hfz, hnd⟩ := hW
  have hA : DataW.TrodAll enc Tryd.prog W 0 (fun _ => true) true Tryd.f7.params.toList args.toList ds p := hA0
  rw [Tryd.params7] at hA hval
  obtain ⟨hargs, rfl, rfl⟩ := trodAll_nil hA
  obtain rfl : args = #[] := by cases args; simp_all
  obtain ⟨rfl, rfl⟩ := trodVars_none hV
  clear hA0 hval0
  refine (walk  W (of_laid hL) ).mono fun e W' ⟨he, bel⟩ => ?_
  subst he
  exact ⟨_, rfl, _, _, _, [], _, [], hW', trodAll_mk1 (shut_bool Tryd.underlying4 _), trodAll_mk0, rfl, bel.frame _, fun h => by cases h⟩

theorem said : Rows.DigestStandardSaid :=
  OpenClaim.holds_of_wide 7 Tryd.f7 rfl rfl rfl rfl rfl rfl rfl ⟨rfl, rfl, rfl, rfl, rfl⟩ rfl rfl rfl rfl rfl (by kernel_rfl) Tryd.func7 (by kernel_rfl)
    (of_decide_eq_true (by kernel_rfl)) (by unfold Func.isWrapper; first | (rw [if_pos (by decide +kernel)]; kernel_rfl) | (rw [if_neg (by decide +kernel)]; exact ⟨rfl, rfl⟩))
    (fun os started H enc _ => lifted os started H enc)
theorem proved : Rows.DigestStandardCardSaid :=
  Claim7.holds_tied_plain_at .later [] laidKinds true Rows.digestStandardCard.stood.harness false
    said (fun _ h => by cases h) (by kernel_rfl) (fun _ h => by cases h) digestStandard_row_tie rfl ⟨rfl, rfl⟩ (by kernel_rfl) rfl
    (fun f fn hf hfn => by
      obtain rfl : f = 7 := Option.some.inj ((show Tryd.prog.funcNamed "traveldoc/traveldoclaw04.DigestStandard" = some 7 by kernel_rfl).symm.trans hf) |>.symm
      obtain rfl : fn = Tryd.f7 := (Option.some.inj (Tryd.func7.symm.trans hfn)).symm
      exact ⟨by kernel_rfl, fun j t ht => by
        rw [Tryd.params7] at ht
        simp at ht⟩)
    (by kernel_rfl)
end Go.Proofs.YtlcenfjpfnldlaaDoor.digestStandard
