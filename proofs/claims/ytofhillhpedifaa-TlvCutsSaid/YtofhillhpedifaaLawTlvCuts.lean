/-
  What is proved here: the given statement TlvCutsSaid, for every list of numbers and every number; no condition.
-/
import Derived.Test.YtofhillhpedifaaOpenI
import Derived.Test.YtofhillhpedifaaRoll
import Derived.Test.YtofhillhpedifaaDicN
import Derived.Test.YtofhillhpedifaaCut
import Derived.Test.YtofhillhpedifaaAwt
namespace Go.Proofs.Ytofhillhpedifaa.tlvCuts
open Go.ChangeShapes Go.WideShapes Go.ChangeAt Go.RowKit
open Go.ChangeMaps (open_string shut_string)
set_option linter.unusedVariables false

theorem one_node {W : World} {p : Nat → Prop} {N : Nat} {t : Int} {kf : F} {Ak : Option Addr} {ck : Nat} (hb : W.heap[N]? = some (.cells #[.int .i64 t, .slice none 0 0, .slice Ak kf.len ck] 32 (0, 0))) (hN : p N) (hk : SeesF W p Ak kf) :
    SeesF W p (some ⟨N, 0, none⟩) (.cons t [] kf .nil) := by
  obtain ⟨ks, k1, k2⟩ := hk
  refine ⟨[.int .i64 t, .slice none 0 0, .slice Ak kf.len ck], .inr ⟨N, 0, rfl, hN, fun i hi => ?_⟩, none, 0, Ak, ck, ks, [], rfl, fun _ => rfl, .inl rfl, k1, k2, rfl⟩
  rw [Nat.zero_add, cell_of_row W _ i _ _ (0, 0) hb]
  simp
/-- the encoding of one object that has no Value and whose content has at most 127 bytes -/
theorem enc_one {t : Nat} {kf : F} (h : lb (encN kf) + encN kf ≤ 127) : enc (.cons (t : Int) [] kf .nil) = tagL t ++ UInt8.ofNat (encN kf) :: enc kf ∧ encN kf ≤ 127 := by
  have hc : encN kf ≤ 127 := by
    by_cases h2 : encN kf ≤ 127
    · exact h2
    · omega
  refine ⟨?_, hc⟩
  have hl : lenL (encN kf) = [UInt8.ofNat (encN kf)] := by unfold lenL; rw [if_pos hc]
  simp only [enc, List.length_nil, Nat.zero_add, Int.toNat_natCast, hl, List.append_nil, List.nil_append, List.append_assoc, List.cons_append]
theorem cut_all {t : Nat} {kf : F} (hv : validB (t : Int) = true) (h : lb (encN kf) + encN kf ≤ 127) {k : Nat} (h1 : 1 ≤ k) (h2 : k < tagN (t : Int) + 1 + encN kf) :
    parse true ((enc (.cons (t : Int) [] kf .nil)).take k) = .error 6 ∧ (k < tagN (t : Int) + 1 → szE ((enc (.cons (t : Int) [] kf .nil)).take k) = 6) ∧
    (¬ k < tagN (t : Int) + 1 → szE ((enc (.cons (t : Int) [] kf .nil)).take k) = 0 ∧ szN ((enc (.cons (t : Int) [] kf .nil)).take k) = tagN (t : Int) + 1 + encN kf) := by
  obtain ⟨e, hc⟩ := enc_one (t := t) h
  rw [e]
  by_cases hk : k < tagN (t : Int) + 1
  · refine ⟨cut_head hv _ h1 hk, fun _ => ?_, fun h => absurd hk h⟩
    have hE := hdr_head hv (UInt8.ofNat (encN kf) :: enc kf) h1 hk
    unfold szE
    rw [if_pos (by rw [hE]; decide), hE]
  · have e2 : (tagL t ++ UInt8.ofNat (encN kf) :: enc kf).take k = tagL t ++ UInt8.ofNat (encN kf) :: (enc kf).take (k - (tagN (t : Int) + 1)) := by
      have hl : (tagL t).length = tagN (t : Int) := tagL_length t
      rw [List.take_append, List.take_of_length_le (by omega), hl]
      congr 1
      obtain ⟨j, hj⟩ : ∃ j, k - tagN (t : Int) = j + 1 := ⟨k - tagN (t : Int) - 1, by omega⟩
      rw [hj, List.take_succ_cons, show k - (tagN (t : Int) + 1) = j by omega]
    rw [e2]
    have hlen : ((enc kf).take (k - (tagN (t : Int) + 1))).length < encN kf := by rw [List.length_take, enc_length]; omega
    obtain ⟨e1, ef, en, es, _⟩ := hdr_short hv hc ((enc kf).take (k - (tagN (t : Int) + 1)))
    refine ⟨cut_body hv hc _ hlen (by omega), fun h => absurd h hk, fun _ => ?_⟩
    have hz : szE (tagL t ++ UInt8.ofNat (encN kf) :: (enc kf).take (k - (tagN (t : Int) + 1))) = 0 := by
      unfold szE; rw [if_neg (by omega), if_neg (by omega)]
    refine ⟨hz, ?_⟩
    unfold szN
    rw [if_pos hz, es, en]

set_option maxRecDepth 20000 in
set_option maxHeartbeats 1000000 in
theorem walk (A0 : Option Addr) (c0 : Nat) (x0 : List Int) (n1 : Int) (w : World) (h0 : SeesP w (· < w.heap.size) A0 (x0.map (Value.int .i64))) (m0 : x0.length ≤ 140737488351232) (r0 : ∀ y ∈ x0, -9223372036854775808 ≤ y ∧ y ≤ 9223372036854775807) (w1 : (Lit.int .i64 n1).wf = true) :
    Calls Try.prog 9 #[.slice A0 x0.length c0, .int .i64 n1] w fun e w' => e = .returned (.bool true) ∧ Below w.heap.size w w' := by
  have b1 : -9223372036854775808 ≤ n1 ∧ n1 ≤ 9223372036854775807 := by simpa [Lit.wf, IntKind.min, IntKind.max, IntKind.signed, IntKind.bits] using w1
  obtain ⟨lo, hi⟩ := b1
  have HLt := Lib.hid (made_light A0 x0.length c0 w m0)
  have HRo := Lib.hid (made_roll A0 c0 x0 w m0 r0 h0)
  clear h0 r0 w1
  go_enter Try.func9, Try.ntmps9
  go_wp2_with fail
  refine HLt.out.mono ?_
  rintro e w' ⟨rfl, hw⟩
  subst hw
  by_cases hL : x0.length ≤ 400
  · rw [decide_eq_true hL]
    clear hL HLt
    go_wp2_with fail
    refine HRo.out.mono ?_
    rintro e w1 ⟨rfl, hd1, hb1⟩
    have HT := Lib.hid (dice_tag w'.heap.size true w1 hd1)
    have HB := Lib.hid hb1
    clear HRo hd1 hb1
    go_wp2_with fail
    refine HT.out.mono ?_
    rintro e w2 ⟨t, rfl, ht1, ht2, hg2, hd2⟩
    have HN := Lib.hid (dice_nodes 3 (by decide) w'.heap.size 3 w2 (by decide) (by decide) hd2)
    have HB2 := Lib.hid (below_row HB.out hg2)
    have HV := Lib.hid (show validB (t : Int) = true ∧ consB (t : Int) = true from ⟨ht1, ht2⟩)
    clear HT HB hg2 hd2 ht1 ht2
    go_wp2_with fail
    refine HN.out.mono ?_
    rintro e w3 ⟨kf, Ak, ck, rfl, hkg, hkl, hks, hg3, hd3⟩
    have HB3 := Lib.hid (below_row HB2.out hg3)
    have HKF := Lib.hid (show kf.gd 3 ∧ kf.len ≤ 3 ∧ SeesF w3 (· < w3.heap.size) Ak kf from ⟨hkg, hkl, hks.imp fun b hb => hb.2⟩)
    clear HN HB2 hkg hkl hks hg3 hd3
    go_wp2_with fail
    obtain ⟨W, hW⟩ : ∃ W, W = (w3.alloc (.cells #[.int .i64 (t : Int), .slice none 0 0, .slice Ak kf.len ck] 32)).alloc (.cells #[.int .i64 (t : Int), .slice none 0 0, .slice Ak kf.len ck] 32) := ⟨_, rfl⟩
    obtain ⟨FF, hFF⟩ : ∃ FF, FF = F.cons (t : Int) [] kf .nil := ⟨_, rfl⟩
    have hb3 : Below w3.heap.size w3 W := by rw [hW]; exact ((Below.refl _ _).alloc (Nat.le_refl _) _).alloc (by simp) _
    have hs : SeesF W (· < W.heap.size) (some ⟨w3.heap.size + 1, 0, none⟩) FF := by
      rw [hFF]
      refine one_node (by rw [hW]; exact block_next w3 _ _) (by rw [hW]; simp) (HKF.out.2.2.on hb3)
    have hX : W.cell? ⟨w3.heap.size, 0, none⟩ = some (.int .i64 (t : Int)) := by
      rw [hW, cell_of_row _ w3.heap.size 0 _ _ _ (block_alloc (heap_alloc_new w3 _) _)]
      rfl
    have hgd : FF.gd 4 := by
      rw [hFF]
      exact ⟨by decide, HV.out.1, fun _ => rfl, (fun h => by rw [HV.out.2] at h; cases h), by simp, HKF.out.2.1, HKF.out.1, trivial⟩
    have hlen : FF.len = 1 := by rw [hFF]; rfl
    have hsz := FF.gd_size hgd
    rw [hlen] at hsz
    have hEc := tlv_encode_c FF (some ⟨w3.heap.size + 1, 0, none⟩) 1 W (by omega) (F.gd_ok hgd) hs
    rw [hlen] at hEc
    have hEE : encE FF = if 4096 < encN FF then 2 else 0 := by
      have h1 := F.gd_chk (d := 1) hgd (by decide)
      unfold encE
      rw [if_neg (by omega), if_neg (by omega)]
    obtain ⟨EE, hEE2⟩ : ∃ EE, EE = encE FF := ⟨_, rfl⟩
    obtain ⟨BB, hBB⟩ : ∃ BB, BB = encB FF := ⟨_, rfl⟩
    rw [← hEE2, ← hBB] at hEc
    rw [← hEE2] at hEE
    have HBB := Lib.hid (show BB = encB FF ∧ EE = encE FF ∧ FF = F.cons (t : Int) [] kf .nil from ⟨hBB, hEE2, hFF⟩)
    have HEc := Lib.hid hEc
    have HW := Lib.hid (show Below w'.heap.size w' W ∧ W.cell? ⟨w3.heap.size, 0, none⟩ = some (.int .i64 (t : Int)) ∧ w3.heap.size < W.heap.size from ⟨below_on HB3.out hb3, hX, by rw [hW]; simp; omega⟩)
    rw [← hW]
    clear hW hFF hb3 hs hX hgd hlen hsz hEc hEE2 hBB HB3 HKF
    refine HEc.out.mono ?_
    rintro e w4 ⟨A4, c4, rfl, s4, hb4, hc4⟩
    have HB4 := Lib.hid (show Below w'.heap.size w' w4 ∧ Sees w4 w4.heap.size A4 (Us BB) from ⟨below_on HW.out.1 hb4, s4⟩)
    have gx := (hb4.cell (p := ⟨w3.heap.size, 0, none⟩) HW.out.2.2).trans HW.out.2.1
    clear HW hb4 s4 HEc
    by_cases hbig : 4096 < encN FF
    · rw [if_pos hbig] at hEE
      subst hEE
      clear hbig
      go_wp2_with fail
      refine (awake _).mono ?_
      rintro e w5 ⟨rfl, hb5⟩
      have HB5 := Lib.hid (below_on HB4.out.1 hb5)
      clear hb5
      go_wp2_with fail
      go_ret
      exact ⟨rfl, HB5.out⟩
    · rw [if_neg hbig] at hEE
      have hBe : BB = enc (F.cons (t : Int) [] kf .nil) := by
        rw [HBB.out.1]
        unfold encB
        rw [if_pos (by rw [← HBB.out.2.1]; exact hEE), HBB.out.2.2]
      have hBl : BB.length = tagN (t : Int) + 1 + (lb (encN kf) + encN kf) := by
        rw [hBe, enc_length]
        simp only [encN, List.length_nil, Nat.zero_add, Nat.add_zero]
        omega
      have hBm : BB.length ≤ 4096 := by
        rw [hBe, enc_length, ← HBB.out.2.2]; omega
      have hT1 : 1 ≤ tagN (t : Int) := by unfold tagN; split <;> omega
      have HBe := Lib.hid hBe
      subst hEE
      clear hbig hBe HBB
      have d2 : decide ((BB.length : Int) < 2) = false := by simp; omega
      by_cases h255 : 255 < t
      · have hT : tagN (t : Int) = 2 := by unfold tagN; rw [if_pos (by omega)]
        have d255 : decide ((255 : Int) < (t : Int)) = true := by simp; omega
        rw [hT] at hBl
        have HBL := Lib.hid hBl
        have hBr : 3 ≤ BB.length := by omega
        clear h255 hBl
        have d3 : decide ((BB.length : Int) < 3) = false := by simp; omega
        by_cases hcut : 127 < lb (encN kf) + encN kf
        · have d4 : decide ((127 : Int) < (BB.length : Int) - 3) = true := by have := HBL.out; simp; omega
          clear hcut
          go_wp2_with fail
          refine (awake _).mono ?_
          rintro e w5 ⟨rfl, hb5⟩
          have HB5 := Lib.hid (below_on HB4.out.1 hb5)
          clear hb5
          go_wp2_with fail
          go_ret
          exact ⟨rfl, HB5.out⟩
        · have hBl := HBL.out
          have d4 : decide ((127 : Int) < (BB.length : Int) - 3) = false := by simp; omega
          have hc := (enc_one (t := t) (kf := kf) (by omega)).2
          have hlb : lb (encN kf) = 0 := lb_0 hc
          rw [hlb, Nat.zero_add] at hBl
          have HBL := Lib.hid hBl
          obtain ⟨r, hr, hr2⟩ : ∃ r : Nat, n1 % ((BB.length : Int) - 1) = (r : Int) ∧ r < BB.length - 1 := by
            have h1 := Int.emod_nonneg n1 (show (BB.length : Int) - 1 ≠ 0 by omega)
            have h2 := Int.emod_lt_of_pos n1 (show (0 : Int) < (BB.length : Int) - 1 by omega)
            exact ⟨(n1 % ((BB.length : Int) - 1)).toNat, by omega, by omega⟩
          have hMo := made_mod n1 ((BB.length : Int) - 1) lo hi (by omega) (by omega) w4
          rw [hr] at hMo
          have HMo := Lib.hid hMo
          have hca := cut_all (t := t) (kf := kf) (k := 1 + r) HV.out.1 (by omega) (by omega) (by rw [hT]; omega)
          rw [← HBe.out, hT] at hca
          have hkl : (BB.take (1 + r)).length = 1 + r := by rw [List.length_take]; omega
          have hP := fun (u : World) (hu : Below w4.heap.size w4 u) => tlv_parse true (BB.take (1 + r)) A4 c4 u (by omega) (by omega) (sees_take (HB4.out.2.on hu))
          rw [hkl, hca.1] at hP
          have hS := fun (u : World) (hu : Below w4.heap.size w4 u) => tlv_sizeof A4 c4 (BB.take (1 + r)) u (sees_take (HB4.out.2.on hu)) (by omega)
          rw [hkl] at hS
          have HP := Lib.hid hP
          have HS := Lib.hid hS
          have HCA := Lib.hid hca.2
          clear hr hMo hca hkl hP hS hcut hlb hBl
          go_wp2_with fail
          refine HMo.out.mono ?_
          rintro e w5 ⟨rfl, hw5⟩
          subst hw5
          clear HMo
          go_wp2_with fail
          refine (HP.out _ (Below.refl _ _)).mono ?_
          rintro e w6 ⟨hb6, rfl, _⟩
          have HB6 := Lib.hid hb6
          clear hb6 HP
          go_wp2_with fail
          refine (HS.out _ HB6.out).mono ?_
          rintro e w7 ⟨rfl, hb7⟩
          have HB4 := Lib.hid (show Below w'.heap.size w' w7 ∧ True from ⟨below_on HB4.out.1 (below_on HB6.out hb7), trivial⟩)
          clear hb7 HB6 HS
          by_cases hkh : 1 + r < 3
          · have z1 := HCA.out.1 hkh
            rw [z1]
            have d5 : decide ((1 : Int) + (r : Int) < 3) = true := by simp; omega
            clear z1 HCA
            go_wp2_with fail
            refine (awake _).mono ?_
            rintro e w5 ⟨rfl, hb5⟩
            have HB5 := Lib.hid (below_on HB4.out.1 hb5)
            clear hb5
            go_wp2_with fail
            go_ret
            exact ⟨rfl, HB5.out⟩
          · obtain ⟨z1, z2⟩ := HCA.out.2 hkh
            rw [z1, z2]
            have d5 : decide ((1 : Int) + (r : Int) < 3) = false := by simp; omega
            have d7 : ((2 + 1 + encN kf : Nat) : Int) = (BB.length : Int) := by rw [HBL.out]
            rw [d7]
            clear z1 z2 HCA d7
            go_wp2_with fail
            refine (awake _).mono ?_
            rintro e w5 ⟨rfl, hb5⟩
            have HB5 := Lib.hid (below_on HB4.out.1 hb5)
            clear hb5
            go_wp2_with fail
            go_ret
            exact ⟨rfl, HB5.out⟩
      · have hT : tagN (t : Int) = 1 := by unfold tagN; rw [if_neg (by omega)]
        have d255 : decide ((255 : Int) < (t : Int)) = false := by simp; omega
        rw [hT] at hBl
        have HBL := Lib.hid hBl
        have hBr : 2 ≤ BB.length := by omega
        clear h255 hBl
        have d3 : decide ((BB.length : Int) < 2) = false := by simp; omega
        by_cases hcut : 127 < lb (encN kf) + encN kf
        · have d4 : decide ((127 : Int) < (BB.length : Int) - 2) = true := by have := HBL.out; simp; omega
          clear hcut
          go_wp2_with fail
          refine (awake _).mono ?_
          rintro e w5 ⟨rfl, hb5⟩
          have HB5 := Lib.hid (below_on HB4.out.1 hb5)
          clear hb5
          go_wp2_with fail
          go_ret
          exact ⟨rfl, HB5.out⟩
        · have hBl := HBL.out
          have d4 : decide ((127 : Int) < (BB.length : Int) - 2) = false := by simp; omega
          have hc := (enc_one (t := t) (kf := kf) (by omega)).2
          have hlb : lb (encN kf) = 0 := lb_0 hc
          rw [hlb, Nat.zero_add] at hBl
          have HBL := Lib.hid hBl
          obtain ⟨r, hr, hr2⟩ : ∃ r : Nat, n1 % ((BB.length : Int) - 1) = (r : Int) ∧ r < BB.length - 1 := by
            have h1 := Int.emod_nonneg n1 (show (BB.length : Int) - 1 ≠ 0 by omega)
            have h2 := Int.emod_lt_of_pos n1 (show (0 : Int) < (BB.length : Int) - 1 by omega)
            exact ⟨(n1 % ((BB.length : Int) - 1)).toNat, by omega, by omega⟩
          have hMo := made_mod n1 ((BB.length : Int) - 1) lo hi (by omega) (by omega) w4
          rw [hr] at hMo
          have HMo := Lib.hid hMo
          have hca := cut_all (t := t) (kf := kf) (k := 1 + r) HV.out.1 (by omega) (by omega) (by rw [hT]; omega)
          rw [← HBe.out, hT] at hca
          have hkl : (BB.take (1 + r)).length = 1 + r := by rw [List.length_take]; omega
          have hP := fun (u : World) (hu : Below w4.heap.size w4 u) => tlv_parse true (BB.take (1 + r)) A4 c4 u (by omega) (by omega) (sees_take (HB4.out.2.on hu))
          rw [hkl, hca.1] at hP
          have hS := fun (u : World) (hu : Below w4.heap.size w4 u) => tlv_sizeof A4 c4 (BB.take (1 + r)) u (sees_take (HB4.out.2.on hu)) (by omega)
          rw [hkl] at hS
          have HP := Lib.hid hP
          have HS := Lib.hid hS
          have HCA := Lib.hid hca.2
          clear hr hMo hca hkl hP hS hcut hlb hBl
          go_wp2_with fail
          refine HMo.out.mono ?_
          rintro e w5 ⟨rfl, hw5⟩
          subst hw5
          clear HMo
          go_wp2_with fail
          refine (HP.out _ (Below.refl _ _)).mono ?_
          rintro e w6 ⟨hb6, rfl, _⟩
          have HB6 := Lib.hid hb6
          clear hb6 HP
          go_wp2_with fail
          refine (HS.out _ HB6.out).mono ?_
          rintro e w7 ⟨rfl, hb7⟩
          have HB4 := Lib.hid (show Below w'.heap.size w' w7 ∧ True from ⟨below_on HB4.out.1 (below_on HB6.out hb7), trivial⟩)
          clear hb7 HB6 HS
          by_cases hkh : 1 + r < 2
          · have z1 := HCA.out.1 hkh
            rw [z1]
            have d5 : decide ((1 : Int) + (r : Int) < 2) = true := by simp; omega
            clear z1 HCA
            go_wp2_with fail
            refine (awake _).mono ?_
            rintro e w5 ⟨rfl, hb5⟩
            have HB5 := Lib.hid (below_on HB4.out.1 hb5)
            clear hb5
            go_wp2_with fail
            go_ret
            exact ⟨rfl, HB5.out⟩
          · obtain ⟨z1, z2⟩ := HCA.out.2 hkh
            rw [z1, z2]
            have d5 : decide ((1 : Int) + (r : Int) < 2) = false := by simp; omega
            have d7 : ((1 + 1 + encN kf : Nat) : Int) = (BB.length : Int) := by rw [HBL.out]
            rw [d7]
            clear z1 z2 HCA d7
            go_wp2_with fail
            refine (awake _).mono ?_
            rintro e w5 ⟨rfl, hb5⟩
            have HB5 := Lib.hid (below_on HB4.out.1 hb5)
            clear hb5
            go_wp2_with fail
            go_ret
            exact ⟨rfl, HB5.out⟩
  · rw [decide_eq_false hL]
    clear hL HLt HRo
    go_wp2_with fail
    refine (awake _).mono ?_
    rintro e w2 ⟨rfl, hb⟩
    have HB := Lib.hid hb
    clear hb
    go_wp2_with fail
    go_ret
    exact ⟨rfl, HB.out⟩

/-! ### the given statement, out of the walk -/
set_option maxRecDepth 100000 in
theorem lifted (os : Os) (started : os.Started) (H : Type) (enc : TypeId × Value → H) :
    ReturnsInHanded {} Try.checked os 9 .any (Rows.tlvCutsSpec.pre6 enc Try.prog Try.f9 Rows.tlvCutsRow.domain false) (Rows.tlvCutsSpec.post enc Try.prog Try.f9 false true false false) := by
  refine returnsInHanded_of_change_sized (C := Try.checked) own started (by kernel_rfl) Try.func9
    (ChangeSpec.witness6 (enc := enc) (C := Try.checked) false ⟨#[], #[.slice none 0 0, .int .i64 0], []⟩ 8 (by kernel_rfl) (by kernel_rfl) (by kernel_rfl) (by kernel_rfl)) ?_
  intro W base args ds gs before hval0 hW hcnd hsz0 _
  have hsz : (DataW.weightsEach Try.prog (Try.f9.params.toList ++ Rows.tlvCutsSpec.plain.varTypes Try.prog) (ds ++ gs)).all (· ≤ reachBytes) = true := hsz0
  have hval : ∀ (j : Nat) t v, Try.f9.params[j]? = some t → args[j]? = some v → Value.okWide Try.prog W .any base t v := hval0
  have hW' := hW
  obtain ⟨p, q, hA0, hV, rfl, hfz, hnd⟩ := hW
  have hA : DataW.TrodAll enc Try.prog W 0 (fun _ => true) true Try.f9.params.toList args.toList ds p := hA0
  rw [Try.params9] at hA hval hsz
  obtain ⟨v0, vs0, d0, ds0, p0, q0, hargs, rfl, rfl, h0, r0⟩ := trodAll_cons hA
  obtain ⟨v1, vs1, d1, ds1, p1, q1, rfl, rfl, rfl, h1, r1⟩ := trodAll_cons r0
  obtain ⟨rfl, rfl, rfl⟩ := trodAll_nil r1
  obtain rfl : args = #[v0, v1] := by cases args; simp_all
  obtain ⟨rfl, rfl⟩ := trodVars_none hV
  obtain ⟨a0, len0, cap0, rfl⟩ := okWide_slice Try.underlying25 (hval 0 25 v0 rfl rfl)
  have lt0 : ∀ x ∈ p0, x.block < W.heap.size := by obtain ⟨m, hm⟩ := h0; exact DataW.trod_lt m _ _ _ hm
  obtain ⟨x0, rfl, see0, rng0, hl0, hc0⟩ := open_i64s h0 lt0
  have m0 := reach_i64s hsz (j := 0) rfl rfl hl0 hc0
  obtain ⟨n1, rfl, rfl, rfl, w1⟩ := open_int Try.underlying3 (hval 1 3 v1 rfl rfl) h1
  clear hA0 hval0
  refine (walk a0 cap0 x0 n1 W see0 m0 rng0 w1).mono fun e W' ⟨he, bel⟩ => ?_
  subst he
  exact ⟨_, rfl, _, _, _, [], _, [], hW', trodAll_mk1 (shut_bool Try.underlying4 _), (trodAll_cons_mk (Below.trod laidOut (by kernel_rfl) (of_decide_eq_true (by kernel_rfl)) h0 bel lt0) (trodAll_cons_mk (shut_int Try.underlying3 w1) trodAll_mk0)), rfl, bel.frame _, fun h => by cases h⟩

theorem proved : Rows.TlvCutsSaid :=
  OpenClaim.holds_of_wide 9 Try.f9 rfl rfl rfl rfl rfl rfl rfl ⟨rfl, rfl, rfl, rfl, rfl⟩ rfl rfl rfl rfl rfl (by kernel_rfl) Try.func9 (by kernel_rfl)
    (of_decide_eq_true (by kernel_rfl)) (by unfold Func.isWrapper; first | (rw [if_pos (by decide +kernel)]; kernel_rfl) | (rw [if_neg (by decide +kernel)]; exact ⟨rfl, rfl⟩))
    (fun os started H enc _ => lifted os started H enc)
end Go.Proofs.Ytofhillhpedifaa.tlvCuts
