/-
  What is proved here: the given statement GroupWritesSaid, for every number and every byte slice; no condition.
-/
import Derived.Test.YtjfkekjeeiokmaaGd
import Derived.Test.YtjfkekjeeiokmaaOp5
namespace Go.Proofs.Ytjfkekjeeiokmaa.groupWrites
open Go.ChangeShapes Go.WideShapes Go.ChangeAt Go.RowKit
open Go.ChangeMaps (open_string shut_string)
set_option linter.unusedVariables false

set_option maxRecDepth 40000 in
set_option maxHeartbeats 1000000 in
theorem walk (x : Int) (A0 : Option Addr) (c0 : Nat) (b : List UInt8) (w : World) (m0 : (Lit.int .i64 x).wf = true) (h0 : Sees w w.heap.size A0 (Us b)) (m1 : b.length ≤ 140737488351232) (n1 : A0 = none → c0 = 0) :
    Calls Try.prog 4 #[.int .i64 x, .slice A0 b.length c0] w fun e w' => e = .returned (.bool true) ∧ Below w.heap.size w w' := by
  clear m0
  have HB := Lib.hid (Below.refl w.heap.size w)
  have H0 := Lib.hid h0
  have HL := Lib.hid m1
  have pt := fun w => ref_point x w
  have elp : elB (pointZ x) = true := pt_el (near_bd x).1 (by have := (near_bd x).2; omega)
  have pb := elB_bd elp
  obtain ⟨n, hn⟩ : ∃ n, b.length = n := ⟨_, rfl⟩
  have HN := Lib.hid hn
  rw [hn]
  obtain ⟨p, hp⟩ : ∃ p, p = pointZ x := ⟨_, rfl⟩
  rw [← hp] at elp pb pt
  obtain ⟨l, hl⟩ : ∃ l, l = octL p.toNat 4 := ⟨_, rfl⟩
  have ep := fun w => grp_encode p w
  rw [(en_yes elp).1, (en_yes elp).2.1, (en_yes elp).2.2, ← hl] at ep
  have hl4 : l.length = 4 := by rw [hl, octL_length]
  have hnum : ((numL l : Nat) : Int) = p := by rw [hl, numL_oct4 (by omega)]; omega
  have dp : ∀ (A : Option Addr) (c : Nat) (w : World), Sees w w.heap.size A (Us l) → Calls Try.prog 20 #[.slice A 4 c] w fun e w' => e = .returned (.tuple #[.int .i64 p, .int .i64 0]) ∧ w = w' := fun A c w h => by
    have hd := grp_decode l A 4 c w h hl4 (by decide)
    have hy := de_yes hl4 (by rw [hnum]; exact elp)
    rwa [hy.1, hy.2, hnum] at hd
  obtain ⟨en, hen⟩ : ∃ en, enN x = en := ⟨_, rfl⟩
  obtain ⟨es, hes⟩ : ∃ es, enL x = es := ⟨_, rfl⟩
  have sm := fun (A1 A2 : Option Addr) (c1 c2 : Nat) (w : World) h1 h2 => ref_same_yes A1 A2 c1 c2 (enL x) w h1 h2 (by have := en_len x; have := enN_le x; unfold maxLen; omega)
  rw [en_len, hen, hes] at sm
  have g1 := fun w => grp_encode x w
  have g2 := fun w => ref_encode x w
  rw [hen, hes] at g1 g2
  have HQ := Lib.hid (show _ ∧ _ ∧ _ ∧ _ ∧ _ ∧ _ from ⟨pt, ep, dp, sm, g1, g2⟩)
  clear pt ep dp sm g1 g2 hen hes hnum hl4 hl hp hn pb elp h0 m1 n1
  go_enter Try.func4, Try.ntmps4
  go_wp2_with (first
    | (go_at_call 18; ((with_reducible refine (HQ.out.2.2.2.2.1 _).mono ?_); rintro e w1 ⟨A1, c1, rfl, hs, hb⟩); replace H0 := Lib.hid (H0.out.on hb); replace HB := Lib.hid (below_on HB.out hb); have H1 := Lib.hid hs; clear hs; clear hb)
    | (go_at_call 19; ((with_reducible refine (HQ.out.2.2.2.2.2 _).mono ?_); rintro e w1 ⟨A2, c2, rfl, hs, hb⟩); replace H0 := Lib.hid (H0.out.on hb); replace H1 := Lib.hid (H1.out.on hb); replace HB := Lib.hid (below_on HB.out hb); have H2 := Lib.hid hs; clear hs; clear hb)
    | (go_at_call 20; ((with_reducible refine (grp_decode b A0 n c0 _ H0.out HN.out (by have := HL.out; rw [HN.out] at this; omega)).mono ?_); rintro e w' ⟨rfl, rfl⟩))
    | (go_at_call 21; ((with_reducible refine (ref_decode b A0 n c0 _ H0.out HN.out (by have := HL.out; rw [HN.out] at this; omega)).mono ?_); rintro e w' ⟨rfl, rfl⟩))
    | (go_at_call 22; ((with_reducible refine (HQ.out.1 _).mono ?_); rintro e w' ⟨rfl, rfl⟩))
    | (go_at_call 18; ((with_reducible refine (HQ.out.2.1 _).mono ?_); rintro e w1 ⟨A3, c3, rfl, hs, hb⟩); replace H1 := Lib.hid (H1.out.on hb); replace H2 := Lib.hid (H2.out.on hb); replace HB := Lib.hid (below_on HB.out hb); have H3 := Lib.hid hs; clear hs; clear hb)
    | (go_at_call 20; ((with_reducible refine (HQ.out.2.2.1 A3 _ _ H3.out).mono ?_); rintro e w' ⟨rfl, rfl⟩))
    | (go_at_call 15; ((with_reducible refine (awake _).mono ?_); rintro e w1 ⟨rfl, hb⟩); replace H1 := Lib.hid (H1.out.on hb); replace H2 := Lib.hid (H2.out.on hb); replace HB := Lib.hid (below_on HB.out hb); clear hb)
    | (go_at_call 23; ((with_reducible refine (HQ.out.2.2.2.1 A1 A2 _ _ _ H1.out H2.out).mono ?_); rintro e w1 ⟨rfl, hb⟩); replace HB := Lib.hid (below_on HB.out hb); clear hb))
  go_ret
  exact ⟨rfl, HB.out⟩

/-! ### the given statement, out of the walk -/
set_option maxRecDepth 100000 in
theorem lifted (os : Os) (started : os.Started) (H : Type) (enc : TypeId × Value → H) :
    ReturnsInHanded {} Try.checked os 4 .any (Rows.groupWritesSpec.pre6 enc Try.prog Try.f4 Rows.groupWritesRow.domain false) (Rows.groupWritesSpec.post enc Try.prog Try.f4 false true false false) := by
  refine returnsInHanded_of_change_sized (C := Try.checked) own started (by kernel_rfl) Try.func4
    (ChangeSpec.witness6 (enc := enc) (C := Try.checked) false ⟨#[], #[.int .i64 0, .slice none 0 0], []⟩ 8 (by kernel_rfl) (by kernel_rfl) (by kernel_rfl) (by kernel_rfl)) ?_
  intro W base args ds gs before hval0 hW hcnd hsz0 _
  have hsz : (DataW.weightsEach Try.prog (Try.f4.params.toList ++ Rows.groupWritesSpec.plain.varTypes Try.prog) (ds ++ gs)).all (· ≤ reachBytes) = true := hsz0
  have hval : ∀ (j : Nat) t v, Try.f4.params[j]? = some t → args[j]? = some v → Value.okWide Try.prog W .any base t v := hval0
  have hW' := hW
  obtain ⟨p, q, hA0, hV, rfl, hfz, hnd⟩ := hW
  have hA : DataW.TrodAll enc Try.prog W 0 (fun _ => true) true Try.f4.params.toList args.toList ds p := hA0
  rw [Try.params4] at hA hval hsz
  obtain ⟨v0, vs0, d0, ds0, p0, q0, hargs, rfl, rfl, h0, r0⟩ := trodAll_cons hA
  obtain ⟨v1, vs1, d1, ds1, p1, q1, rfl, rfl, rfl, h1, r1⟩ := trodAll_cons r0
  obtain ⟨rfl, rfl, rfl⟩ := trodAll_nil r1
  obtain rfl : args = #[v0, v1] := by cases args; simp_all
  obtain ⟨rfl, rfl⟩ := trodVars_none hV
  obtain ⟨n0, rfl, rfl, rfl, w0⟩ := open_int Try.underlying3 (hval 0 3 v0 rfl rfl) h0
  obtain ⟨a1, len1, cap1, rfl⟩ := okWide_slice Try.underlying29 (hval 1 29 v1 rfl rfl)
  have lt1 : ∀ x ∈ p1, x.block < W.heap.size := by obtain ⟨m, hm⟩ := h1; exact DataW.trod_lt m _ _ _ hm
  obtain ⟨x1, rfl, see1, hl1, nn1, hc1⟩ := open_u8s h1 lt1
  have m1 := reach_u8s hsz (j := 1) rfl rfl hl1 hc1
  clear hA0 hval0
  refine (walk n0 a1 cap1 x1 W w0 see1 m1 nn1).mono fun e W' ⟨he, bel⟩ => ?_
  subst he
  exact ⟨_, rfl, _, _, _, [], _, [], hW', trodAll_mk1 (shut_bool Try.underlying4 _), (trodAll_cons_mk (shut_int Try.underlying3 w0) (trodAll_cons_mk (Below.trod laidOut (by kernel_rfl) (of_decide_eq_true (by kernel_rfl)) h1 bel lt1) trodAll_mk0)), rfl, bel.frame _, fun h => by cases h⟩

theorem proved : Rows.GroupWritesSaid :=
  OpenClaim.holds_of_wide 4 Try.f4 rfl rfl rfl rfl rfl rfl rfl ⟨rfl, rfl, rfl, rfl, rfl⟩ rfl rfl rfl rfl rfl (by kernel_rfl) Try.func4 (by kernel_rfl)
    (of_decide_eq_true (by kernel_rfl)) (by unfold Func.isWrapper; first | (rw [if_pos (by decide +kernel)]; kernel_rfl) | (rw [if_neg (by decide +kernel)]; exact ⟨rfl, rfl⟩))
    (fun os started H enc _ => lifted os started H enc)
end Go.Proofs.Ytjfkekjeeiokmaa.groupWrites
