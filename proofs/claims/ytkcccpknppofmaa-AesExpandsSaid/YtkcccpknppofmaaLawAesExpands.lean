/-
  What is proved here: for all bytes, the program's Expand returns what the reference's returns, for them and for 16 bytes that are made of them (the statement AesExpands); no condition.
-/
import Derived.Test.YtkcccpknppofmaaOp5
import Derived.Test.YtkcccpknppofmaaR4
namespace Go.Proofs.Ytkcccpknppofmaa.aesExpands
open Go.ChangeShapes Go.WideShapes Go.ChangeAt Go.RowKit
open Go.ChangeMaps (open_string shut_string)
set_option linter.unusedVariables false

def expB (x : List UInt8) : List (List UInt8) := if x.length = 16 then keysL x else []
def expE (x : List UInt8) : Int := if x.length = 16 then 0 else 2
theorem aes_exp_any (x : List UInt8) (A : Option Addr) (c : Nat) (w : World) (m : x.length ≤ 140737488351232) (h : Sees w w.heap.size A (Us x)) :
    Calls Try.prog 12 #[.slice A x.length c] w (GivesL w (expB x) (expE x)) := by
  unfold expB expE
  by_cases h16 : x.length = 16
  · rw [if_pos h16, if_pos h16, h16]
    exact aes_exp x A c w h16 h
  · rw [if_neg h16, if_neg h16]
    exact aes_exp_bad A x.length c w h16 m
theorem ref_exp_any (x : List UInt8) (A : Option Addr) (c : Nat) (w : World) (m : x.length ≤ 140737488351232) (h : Sees w w.heap.size A (Us x)) :
    Calls Try.prog 13 #[.slice A x.length c] w (GivesL w (expB x) (expE x)) := by
  unfold expB expE
  by_cases h16 : x.length = 16
  · rw [if_pos h16, if_pos h16, h16]
    exact ref_Exp x A c w h16 h
  · rw [if_neg h16, if_neg h16]
    exact ref_Exp_bad A x.length c w h16 m
theorem keys_each (k : List UInt8) (hk : k.length = 16) : ∀ l ∈ keysL k, l.length ≤ 1000 := by
  intro l hl
  simp only [keysL, List.mem_map] at hl
  obtain ⟨i, _, rfl⟩ := hl
  rw [rk_len16 k hk i]
  decide
theorem exp_each (x : List UInt8) : (expB x).length ≤ 1000 ∧ ∀ l ∈ expB x, l.length ≤ 1000 := by
  unfold expB
  by_cases h16 : x.length = 16
  · rw [if_pos h16]
    exact ⟨by rw [keysL_length]; decide, keys_each x h16⟩
  · rw [if_neg h16]
    exact ⟨by simp, fun l hl => by simp at hl⟩

set_option maxRecDepth 40000 in
set_option maxHeartbeats 1000000 in
theorem walk (A : Option Addr) (c : Nat) (x : List UInt8) (w : World) (h0 : Sees w w.heap.size A (Us x)) (m0 : x.length ≤ 140737488351232) (n0 : A = none → c = 0) :
    Calls Try.prog 4 #[.slice A x.length c] w fun e w' => e = .returned (.bool true) ∧ Below w.heap.size w w' := by
  obtain ⟨ls, hls⟩ : ∃ y, y = expB x := ⟨_, rfl⟩
  obtain ⟨er, her⟩ : ∃ y, y = expE x := ⟨_, rfl⟩
  obtain ⟨q, hq⟩ : ∃ y, y = sxL x := ⟨_, rfl⟩
  have hql : q.length = 16 := by rw [hq]; exact sxL_length _
  obtain ⟨kl, hkl⟩ : ∃ y, y = keysL q := ⟨_, rfl⟩
  have HP := Lib.hid (fun (w : World) (h : Sees w w.heap.size A (Us x)) => (show Calls Try.prog 12 #[.slice A x.length c] w (GivesL w ls er) by rw [hls, her]; exact aes_exp_any x A c w m0 h))
  have HR := Lib.hid (fun (w : World) (h : Sees w w.heap.size A (Us x)) => (show Calls Try.prog 13 #[.slice A x.length c] w (GivesL w ls er) by rw [hls, her]; exact ref_exp_any x A c w m0 h))
  have H16 := Lib.hid (fun (w : World) (h : Sees w w.heap.size A (Us x)) => (show Calls Try.prog 14 #[.slice A x.length c] w (Mk16 w q) by rw [hq]; exact law_sixteen x A c w m0 n0 h))
  have HP2 := Lib.hid (fun (w : World) (A : Option Addr) (c : Nat) (h : Sees w w.heap.size A (Us q)) => (show Calls Try.prog 12 #[.slice A 16 c] w (GivesL w kl 0) by rw [hkl]; exact aes_exp q A c w hql h))
  have HR2 := Lib.hid (fun (w : World) (A : Option Addr) (c : Nat) (h : Sees w w.heap.size A (Us q)) => (show Calls Try.prog 13 #[.slice A 16 c] w (GivesL w kl 0) by rw [hkl]; exact ref_Exp q A c w hql h))
  have HL1 := Lib.hid (show ls.length ≤ 1000 ∧ ∀ l ∈ ls, l.length ≤ 1000 by rw [hls]; exact exp_each x)
  have HL2 := Lib.hid (show kl.length ≤ 1000 ∧ ∀ l ∈ kl, l.length ≤ 1000 by rw [hkl]; exact ⟨by rw [keysL_length]; decide, keys_each q hql⟩)
  have H0 := Lib.hid h0
  clear hls her hq hql hkl h0 n0
  go_enter Try.func4, Try.ntmps4
  go_wp2_with fail
  refine (HP.out _ H0.out).mono ?_
  rintro e w1 ⟨A1, c1, rfl, hs, hb⟩
  have S1 := Lib.hid hs
  have HB := Lib.hid hb
  replace H0 := Lib.hid (H0.out.on hb)
  clear hs hb
  go_wp2_with fail
  refine (HR.out _ H0.out).mono ?_
  rintro e w2 ⟨A2, c2, rfl, hs, hb⟩
  have S2 := Lib.hid hs
  replace S1 := Lib.hid (S1.out.on hb)
  replace HB := Lib.hid (below_on HB.out hb)
  replace H0 := Lib.hid (H0.out.on hb)
  clear hs hb
  go_wp2_with fail
  refine (H16.out _ H0.out).mono ?_
  rintro e w3 ⟨A3, c3, rfl, hs, hb⟩
  have S3 := Lib.hid hs
  replace S1 := Lib.hid (S1.out.on hb)
  replace S2 := Lib.hid (S2.out.on hb)
  replace HB := Lib.hid (below_on HB.out hb)
  replace H0 := Lib.hid (H0.out.on hb)
  clear hs hb
  go_wp2_with fail
  refine (HP2.out _ A3 _ S3.out).mono ?_
  rintro e w4 ⟨A4, c4, rfl, hs, hb⟩
  have S4 := Lib.hid hs
  replace S1 := Lib.hid (S1.out.on hb)
  replace S2 := Lib.hid (S2.out.on hb)
  replace HB := Lib.hid (below_on HB.out hb)
  replace H0 := Lib.hid (H0.out.on hb)
  clear hs hb S3
  go_wp2_with fail
  refine (H16.out _ H0.out).mono ?_
  rintro e w5 ⟨A5, c5, rfl, hs, hb⟩
  have S5 := Lib.hid hs
  replace S1 := Lib.hid (S1.out.on hb)
  replace S2 := Lib.hid (S2.out.on hb)
  replace S4 := Lib.hid (S4.out.on hb)
  replace HB := Lib.hid (below_on HB.out hb)
  clear hs hb H0
  go_wp2_with fail
  refine (HR2.out _ A5 _ S5.out).mono ?_
  rintro e w6 ⟨A6, c6, rfl, hs, hb⟩
  have S6 := Lib.hid hs
  replace S1 := Lib.hid (S1.out.on hb)
  replace S2 := Lib.hid (S2.out.on hb)
  replace S4 := Lib.hid (S4.out.on hb)
  replace HB := Lib.hid (below_on HB.out hb)
  clear hs hb S5
  go_wp2_with fail
  refine (awake _).mono ?_
  rintro e w7 ⟨rfl, hb⟩
  replace S1 := Lib.hid (S1.out.on hb)
  replace S2 := Lib.hid (S2.out.on hb)
  replace S4 := Lib.hid (S4.out.on hb)
  replace S6 := Lib.hid (S6.out.on hb)
  replace HB := Lib.hid (below_on HB.out hb)
  clear hb
  go_wp2_with fail
  refine (lists_same A1 A2 c1 c2 ls _ HL1.out.1 HL1.out.2 S1.out S2.out).mono ?_
  rintro e w8 ⟨rfl, n8, hn8⟩
  have hb : Below w7.heap.size w7 w8 := by rw [hn8]; exact below_drewN _ _ _
  replace S4 := Lib.hid (S4.out.on hb)
  replace S6 := Lib.hid (S6.out.on hb)
  replace HB := Lib.hid (below_on HB.out hb)
  clear hb hn8
  go_wp2_with fail
  refine (lists_same A4 A6 c4 c6 kl _ HL2.out.1 HL2.out.2 S4.out S6.out).mono ?_
  rintro e w9 ⟨rfl, n9, hn9⟩
  have hb : Below w8.heap.size w8 w9 := by rw [hn9]; exact below_drewN _ _ _
  replace HB := Lib.hid (below_on HB.out hb)
  clear hb hn9
  go_wp2_with fail
  go_ret
  exact ⟨rfl, HB.out⟩

/-! ### the given statement, out of the walk -/
set_option maxRecDepth 100000 in
theorem lifted (os : Os) (started : os.Started) (H : Type) (enc : TypeId × Value → H) :
    ReturnsInHanded {} Try.checked os 4 .any (Rows.aesExpandsSpec.pre6 enc Try.prog Try.f4 Rows.aesExpandsRow.domain false) (Rows.aesExpandsSpec.post enc Try.prog Try.f4 false true false false) := by
  refine returnsInHanded_of_change_sized (C := Try.checked) own started (by kernel_rfl) Try.func4
    (ChangeSpec.witness6 (enc := enc) (C := Try.checked) false ⟨#[], #[.slice none 0 0], []⟩ 8 (by kernel_rfl) (by kernel_rfl) (by kernel_rfl) (by kernel_rfl)) ?_
  intro W base args ds gs before hval0 hW hcnd hsz0 _
  have hsz : (DataW.weightsEach Try.prog (Try.f4.params.toList ++ Rows.aesExpandsSpec.plain.varTypes Try.prog) (ds ++ gs)).all (· ≤ reachBytes) = true := hsz0
  have hval : ∀ (j : Nat) t v, Try.f4.params[j]? = some t → args[j]? = some v → Value.okWide Try.prog W .any base t v := hval0
  have hW' := hW
  obtain ⟨p, q, hA0, hV, rfl, hfz, hnd⟩ := hW
  have hA : DataW.TrodAll enc Try.prog W 0 (fun _ => true) true Try.f4.params.toList args.toList ds p := hA0
  rw [Try.params4] at hA hval hsz
  obtain ⟨v0, vs0, d0, ds0, p0, q0, hargs, rfl, rfl, h0, r0⟩ := trodAll_cons hA
  obtain ⟨rfl, rfl, rfl⟩ := trodAll_nil r0
  obtain rfl : args = #[v0] := by cases args; simp_all
  obtain ⟨rfl, rfl⟩ := trodVars_none hV
  obtain ⟨a0, len0, cap0, rfl⟩ := okWide_slice Try.underlying26 (hval 0 26 v0 rfl rfl)
  have lt0 : ∀ x ∈ p0, x.block < W.heap.size := by obtain ⟨m, hm⟩ := h0; exact DataW.trod_lt m _ _ _ hm
  obtain ⟨x0, rfl, see0, hl0, nn0, hc0⟩ := open_u8s h0 lt0
  have m0 := reach_u8s hsz (j := 0) rfl rfl hl0 hc0
  clear hA0 hval0
  refine (walk a0 cap0 x0 W see0 m0 nn0).mono fun e W' ⟨he, bel⟩ => ?_
  subst he
  exact ⟨_, rfl, _, _, _, [], _, [], hW', trodAll_mk1 (shut_bool Try.underlying4 _), (trodAll_cons_mk (Below.trod laidOut (by kernel_rfl) (of_decide_eq_true (by kernel_rfl)) h0 bel lt0) trodAll_mk0), rfl, bel.frame _, fun h => by cases h⟩

theorem proved : Rows.AesExpandsSaid :=
  OpenClaim.holds_of_wide 4 Try.f4 rfl rfl rfl rfl rfl rfl rfl ⟨rfl, rfl, rfl, rfl, rfl⟩ rfl rfl rfl rfl rfl (by kernel_rfl) Try.func4 (by kernel_rfl)
    (of_decide_eq_true (by kernel_rfl)) (by unfold Func.isWrapper; first | (rw [if_pos (by decide +kernel)]; kernel_rfl) | (rw [if_neg (by decide +kernel)]; exact ⟨rfl, rfl⟩))
    (fun os started H enc _ => lifted os started H enc)
end Go.Proofs.Ytkcccpknppofmaa.aesExpands
