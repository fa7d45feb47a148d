/-
  What is proved here: the given statement OctetsReturnSaid, for every two byte slices; no condition.
-/
import Derived.Test.YtelbphjdcekajaaOpen
import Derived.Test.YtelbphjdcekajaaBack
import Derived.Test.YtelbphjdcekajaaAwake
namespace Go.Proofs.Ytelbphjdcekajaa.octetsReturn
open Go.ChangeShapes Go.WideShapes Go.ChangeAt Go.RowKit
open Go.ChangeMaps (open_string shut_string)
set_option linter.unusedVariables false

/-- the program's Unhex of its Hex -/
theorem unhex_back (x : List UInt8) (w : World) (m : x.length ≤ 140737488351232) :
    Calls Try.prog 8 #[.string (S (hexL x))] w (Gives w x 0) := by
  have h := oct_unhex (S (hexL x)) (hexL x) w rfl (by rw [S_size, hexL_length]; omega)
  rw [(back_hex x).1, (back_hex x).2] at h
  exact h
theorem octets_back (x : List UInt8) (w : World) (m : x.length ≤ 7) :
    Calls Try.prog 16 #[.int .i64 (numL x : Nat), .int .i64 (x.length : Nat)] w (Gives w x 0) := by
  have hl := numL_lt x x.length (Nat.le_refl _)
  rw [List.take_of_length_le (Nat.le_refl _)] at hl
  have hp : 256 ^ x.length ≤ 256 ^ 7 := Nat.pow_le_pow_right (by decide) m
  have h := oct_oct (numL x : Nat) (x.length : Nat) (WalkArith.wf_i64 (by omega)) (WalkArith.wf_i64 (by omega)) w
  rw [(back_oct x m).1, (back_oct x m).2] at h
  exact h
theorem number_back (A : Option Addr) (c : Nat) (x : List UInt8) (w : World) (h : Sees w w.heap.size A (Us x)) (m : x.length ≤ 7) :
    Calls Try.prog 14 #[.slice A x.length c] w fun e w' => e = .returned (.tuple #[.int .i64 (numL x : Nat), .int .i64 0]) ∧ w' = w := by
  refine (oct_num A c _ x w _ h rfl (by unfold maxLen; omega)).mono fun e w' ⟨he, hw⟩ => ⟨?_, hw⟩
  unfold NumEnd numV numE at he
  rw [if_pos m, if_pos m] at he
  exact he
theorem xor_first (A1 A2 : Option Addr) (c1 c2 : Nat) (x y : List UInt8) (w : World) (h1 : Sees w w.heap.size A1 (Us x)) (h2 : Sees w w.heap.size A2 (Us y)) (m : x.length ≤ 281474976710656) (hl : x.length = y.length) :
    Calls Try.prog 18 #[.slice A1 x.length c1, .slice A2 y.length c2] w (Gives w (xorL x y) 0) := by
  have h := oct_xor_any A1 A2 c1 c2 x y w h1 h2 m
  unfold xorB xorE at h
  rw [if_pos hl, if_pos hl] at h
  exact h
theorem xor_back (A1 A2 : Option Addr) (c1 c2 : Nat) (x y : List UInt8) (w : World) (h1 : Sees w w.heap.size A1 (Us (xorL x y))) (h2 : Sees w w.heap.size A2 (Us y)) (m : x.length ≤ 281474976710656) (hl : x.length = y.length) :
    Calls Try.prog 18 #[.slice A1 (xorL x y).length c1, .slice A2 y.length c2] w (Gives w x 0) := by
  have h := xor_first A1 A2 c1 c2 (xorL x y) y w h1 h2 (by rw [xorL_length]; exact m) (by rw [xorL_length]; exact hl)
  rw [back_xor x y hl] at h
  exact h

theorem walk (A0 : Option Addr) (c0 : Nat) (x0 : List UInt8) (A1 : Option Addr) (c1 : Nat) (x1 : List UInt8) (w : World) (h0 : Sees w w.heap.size A0 (Us x0)) (m0 : x0.length ≤ 140737488351232) (h1 : Sees w w.heap.size A1 (Us x1)) (m1 : x1.length ≤ 140737488351232) :
    Calls Try.prog 7 #[.slice A0 x0.length c0, .slice A1 x1.length c1] w fun e w' => e = .returned (.bool true) ∧ Below w.heap.size w w' := by
  have ml : x0.length ≤ maxLen := by unfold maxLen; omega
  go_enter Try.func7, Try.ntmps7
  go_wp2_with fail
  refine (oct_hex _ _ _ x0 _ h0 rfl m0).mono ?_
  rintro e w1 ⟨rfl, b1⟩
  have h0 := h0.on b1
  have h1 := h1.on b1
  go_wp2_with fail
  refine (unhex_back x0 _ m0).mono ?_
  rintro e w2 ⟨A2, c2, rfl, s2, b2⟩
  have h0 := h0.on b2
  have h1 := h1.on b2
  have b1 := below_on b1 b2
  clear b2
  go_wp2_with fail
  refine (awake _).mono ?_
  rintro e w3 ⟨rfl, b2⟩
  have h0 := h0.on b2
  have h1 := h1.on b2
  have s2 := s2.on b2
  have b1 := below_on b1 b2
  clear b2
  go_wp2_with fail
  refine (ref_same_yes _ _ _ _ x0 _ s2 h0 ml).mono ?_
  rintro e w4 ⟨rfl, b2⟩
  have h0 := h0.on b2
  have h1 := h1.on b2
  have b1 := below_on b1 b2
  clear b2 s2
  by_cases h7 : x0.length ≤ 7
  · have d7 : decide ((x0.length : Int) ≤ 7) = true := by simp; omega
    go_wp2_with fail
    refine (number_back _ _ x0 _ h0 h7).mono ?_
    rintro e w5 ⟨rfl, rfl⟩
    go_wp2_with fail
    refine (octets_back x0 _ h7).mono ?_
    rintro e w6 ⟨A3, c3, rfl, s3, b2⟩
    have h0 := h0.on b2
    have h1 := h1.on b2
    have b1 := below_on b1 b2
    clear b2
    go_wp2_with fail
    refine (ref_same_yes _ _ _ _ x0 _ s3 h0 ml).mono ?_
    rintro e w7 ⟨rfl, b2⟩
    have h0 := h0.on b2
    have h1 := h1.on b2
    have b1 := below_on b1 b2
    clear b2 s3
    by_cases hl : x0.length = x1.length
    · have e1 : ((x0.length : Int) != (x1.length : Int)) = false := by rw [bne_eq_false_iff_eq]; omega
      have HL := Lib.hid hl
      clear hl
      go_wp2_with fail
      refine (xor_first _ _ _ _ x0 x1 _ h0 h1 (by omega) HL.out).mono ?_
      rintro e w8 ⟨A4, c4, rfl, s4, b2⟩
      have h0 := h0.on b2
      have h1 := h1.on b2
      have b1 := below_on b1 b2
      clear b2
      go_wp2_with fail
      refine (xor_back _ _ _ _ x0 x1 _ s4 h1 (by omega) HL.out).mono ?_
      rintro e w9 ⟨A5, c5, rfl, s5, b2⟩
      have h0 := h0.on b2
      have b1 := below_on b1 b2
      clear b2 s4
      go_wp2_with fail
      refine (ref_same_yes _ _ _ _ x0 _ s5 h0 ml).mono ?_
      rintro e w10 ⟨rfl, b2⟩
      have b1 := below_on b1 b2
      clear b2 s5
      go_wp2
      go_ret
      exact ⟨rfl, b1⟩
    · have e1 : ((x0.length : Int) != (x1.length : Int)) = true := by rw [bne_iff_ne]; omega
      have HL := Lib.hid hl
      clear hl
      go_wp2_with fail
      refine (oct_xor_no _ _ _ _ _ _ _ HL.out).mono ?_
      rintro e w8 ⟨rfl, rfl⟩
      go_wp2
      go_ret
      exact ⟨rfl, b1⟩
  · have d7 : decide ((x0.length : Int) ≤ 7) = false := by simp; omega
    clear h7
    by_cases hl : x0.length = x1.length
    · have e1 : ((x0.length : Int) != (x1.length : Int)) = false := by rw [bne_eq_false_iff_eq]; omega
      have HL := Lib.hid hl
      clear hl
      go_wp2_with fail
      refine (xor_first _ _ _ _ x0 x1 _ h0 h1 (by omega) HL.out).mono ?_
      rintro e w8 ⟨A4, c4, rfl, s4, b2⟩
      have h0 := h0.on b2
      have h1 := h1.on b2
      have b1 := below_on b1 b2
      clear b2
      go_wp2_with fail
      refine (xor_back _ _ _ _ x0 x1 _ s4 h1 (by omega) HL.out).mono ?_
      rintro e w9 ⟨A5, c5, rfl, s5, b2⟩
      have h0 := h0.on b2
      have b1 := below_on b1 b2
      clear b2 s4
      go_wp2_with fail
      refine (ref_same_yes _ _ _ _ x0 _ s5 h0 ml).mono ?_
      rintro e w10 ⟨rfl, b2⟩
      have b1 := below_on b1 b2
      clear b2 s5
      go_wp2
      go_ret
      exact ⟨rfl, b1⟩
    · have e1 : ((x0.length : Int) != (x1.length : Int)) = true := by rw [bne_iff_ne]; omega
      have HL := Lib.hid hl
      clear hl
      go_wp2_with fail
      refine (oct_xor_no _ _ _ _ _ _ _ HL.out).mono ?_
      rintro e w8 ⟨rfl, rfl⟩
      go_wp2
      go_ret
      exact ⟨rfl, b1⟩

/-! ### the given statement, out of the walk -/
set_option maxRecDepth 100000 in
theorem lifted (os : Os) (started : os.Started) (H : Type) (enc : TypeId × Value → H) :
    ReturnsInHanded {} Try.checked os 7 .any (Rows.octetsReturnSpec.pre6 enc Try.prog Try.f7 Rows.octetsReturnRow.domain false) (Rows.octetsReturnSpec.post enc Try.prog Try.f7 false true false false) := by
  refine returnsInHanded_of_change_sized (C := Try.checked) own started (by kernel_rfl) Try.func7
    (ChangeSpec.witness6 (enc := enc) (C := Try.checked) false ⟨#[], #[.slice none 0 0, .slice none 0 0], []⟩ 8 (by kernel_rfl) (by kernel_rfl) (by kernel_rfl) (by kernel_rfl)) ?_
  intro W base args ds gs before hval0 hW hcnd hsz0 _
  have hsz : (DataW.weightsEach Try.prog (Try.f7.params.toList ++ Rows.octetsReturnSpec.plain.varTypes Try.prog) (ds ++ gs)).all (· ≤ reachBytes) = true := hsz0
  have hval : ∀ (j : Nat) t v, Try.f7.params[j]? = some t → args[j]? = some v → Value.okWide Try.prog W .any base t v := hval0
  have hW' := hW
  obtain ⟨p, q, hA0, hV, rfl, hfz, hnd⟩ := hW
  have hA : DataW.TrodAll enc Try.prog W 0 (fun _ => true) true Try.f7.params.toList args.toList ds p := hA0
  rw [Try.params7] at hA hval hsz
  obtain ⟨v0, vs0, d0, ds0, p0, q0, hargs, rfl, rfl, h0, r0⟩ := trodAll_cons hA
  obtain ⟨v1, vs1, d1, ds1, p1, q1, rfl, rfl, rfl, h1, r1⟩ := trodAll_cons r0
  obtain ⟨rfl, rfl, rfl⟩ := trodAll_nil r1
  obtain rfl : args = #[v0, v1] := by cases args; simp_all
  obtain ⟨rfl, rfl⟩ := trodVars_none hV
  obtain ⟨a0, len0, cap0, rfl⟩ := okWide_slice Try.underlying22 (hval 0 22 v0 rfl rfl)
  have lt0 : ∀ x ∈ p0, x.block < W.heap.size := by obtain ⟨m, hm⟩ := h0; exact DataW.trod_lt m _ _ _ hm
  obtain ⟨x0, rfl, see0, hl0, hc0⟩ := open_u8s h0 lt0
  have m0 := reach_u8s hsz (j := 0) rfl rfl hl0 hc0
  obtain ⟨a1, len1, cap1, rfl⟩ := okWide_slice Try.underlying22 (hval 1 22 v1 rfl rfl)
  have lt1 : ∀ x ∈ p1, x.block < W.heap.size := by obtain ⟨m, hm⟩ := h1; exact DataW.trod_lt m _ _ _ hm
  obtain ⟨x1, rfl, see1, hl1, hc1⟩ := open_u8s h1 lt1
  have m1 := reach_u8s hsz (j := 1) rfl rfl hl1 hc1
  clear hA0 hval0
  refine (walk a0 cap0 x0 a1 cap1 x1 W see0 m0 see1 m1).mono fun e W' ⟨he, bel⟩ => ?_
  subst he
  exact ⟨_, rfl, _, _, _, [], _, [], hW', trodAll_mk1 (shut_bool Try.underlying4 _), (trodAll_cons_mk (Below.trod laidOut (by kernel_rfl) (of_decide_eq_true (by kernel_rfl)) h0 bel lt0) (trodAll_cons_mk (Below.trod laidOut (by kernel_rfl) (of_decide_eq_true (by kernel_rfl)) h1 bel lt1) trodAll_mk0)), rfl, bel.frame _, fun h => by cases h⟩

theorem proved : Rows.OctetsReturnSaid :=
  OpenClaim.holds_of_wide 7 Try.f7 rfl rfl rfl rfl rfl rfl rfl ⟨rfl, rfl, rfl, rfl, rfl⟩ rfl rfl rfl rfl rfl (by kernel_rfl) Try.func7 (by kernel_rfl)
    (of_decide_eq_true (by kernel_rfl)) (by unfold Func.isWrapper; first | (rw [if_pos (by decide +kernel)]; kernel_rfl) | (rw [if_neg (by decide +kernel)]; exact ⟨rfl, rfl⟩))
    (fun os started H enc _ => lifted os started H enc)
end Go.Proofs.Ytelbphjdcekajaa.octetsReturn
