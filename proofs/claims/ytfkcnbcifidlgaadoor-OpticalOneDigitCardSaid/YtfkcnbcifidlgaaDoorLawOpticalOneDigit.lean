/-
  What is proved here: for any made text, one digit that is replaced by another one changes the check digit, and an exchange of neighbours leaves it exactly if their values differ by a multiple of 5 (the statement OpticalOneDigit), where the tables start as the program's text lays them; no other condition.
-/
import Derived.Test.YtfkcnbcifidlgaaDoorLy
import Derived.Test.YtfkcnbcifidlgaaDoorSy
import Derived.Test.YtfkcnbcifidlgaaDoorRz
namespace Go.Proofs.YtfkcnbcifidlgaaDoor.opticalOneDigit
open Go.ChangeShapes Go.WideShapes Go.ChangeAt Go.RowKit
open Go.ChangeMaps (open_string shut_string)
set_option linter.unusedVariables false

theorem sgn_valid {l : List UInt8} (h : ∀ c ∈ l, sgnB c = true) : validL l = true := by
  unfold validL
  rw [List.all_eq_true]
  intro b hb
  have h1 := of_decide_eq_true (h b hb)
  unfold vI
  split
  · simp; omega
  · split
    · simp; omega
    · omega
theorem val_eq (a mm : Nat) (h0 : 48 ≤ a) (h1 : a ≤ 57) (h2 : mm < 9) :
    IntKind.u8.wrap (IntKind.i64.wrap (48 + (IntKind.i64.wrap (IntKind.i64.wrap (IntKind.i64.wrap (IntKind.u8.wrap ((a : Int) - 48)) + 1) + (mm : Int))).tmod 10)) = ((UInt8.ofNat (48 + (a - 48 + 1 + mm) % 10)).toNat : Int) := by
  have e : IntKind.i64.wrap (IntKind.i64.wrap (IntKind.i64.wrap (IntKind.u8.wrap ((a : Int) - 48)) + 1) + (mm : Int)) = (a : Int) - 48 + 1 + mm := by
    rw [IntKind.wrap_u8, IntKind.wrap_i64, IntKind.wrap_i64, IntKind.wrap_i64]
    omega
  rw [e, Int.tmod_eq_emod_of_nonneg (by omega), IntKind.wrap_u8, IntKind.wrap_i64, UInt8.toNat_ofNat']
  omega
theorem tmod5 (z : Int) : z.tmod 5 = 0 ↔ z % 5 = 0 :=
  ⟨fun h => Int.emod_eq_zero_of_dvd (Int.dvd_of_tmod_eq_zero h), fun h => Int.tmod_eq_zero_of_dvd (Int.dvd_of_emod_eq_zero h)⟩
theorem own_nil (w : World) (base : Nat) : w.ownsRow base 5 1 (.slice none 0 0) 0 [] := ⟨rfl, .inl ⟨rfl, rfl⟩⟩

set_option maxRecDepth 40000 in
set_option maxHeartbeats 4000000 in
theorem walk (A : Option Addr) (c : Nat) (x : List Int) (p q : Int) (w : World) (ht : TabW w) (see : SeesP w (· < w.heap.size) A (x.map (Value.int .i64))) (m : x.length ≤ 140737488351232) (rng : ∀ y ∈ x, -9223372036854775808 ≤ y ∧ y ≤ 9223372036854775807) (wp : (Lit.int .i64 p).wf = true) (wq : (Lit.int .i64 q).wf = true) :
    Calls Tryd.prog 8 #[.slice A x.length c, .int .i64 p, .int .i64 q] w fun e w' => e = .returned (.bool true) ∧ Below w.heap.size w w' := by
  obtain ⟨p0, p1⟩ : IntKind.i64.min ≤ p ∧ p ≤ IntKind.i64.max := by simpa [Lit.wf] using wp
  obtain ⟨q0, q1⟩ : IntKind.i64.min ≤ q ∧ q ≤ IntKind.i64.max := by simpa [Lit.wf] using wq
  rw [show IntKind.i64.min = -9223372036854775808 from rfl] at p0 q0
  rw [show IntKind.i64.max = 9223372036854775807 from rfl] at p1 q1
  have HT := Lib.hid ht
  have HL := Lib.hid (made_light A x.length c w m)
  by_cases hx : x.length ≤ 400
  · have d : decide (x.length ≤ 400) = true := decide_eq_true hx
    have HR := Lib.hid (made_roll A c x w m rng see)
    obtain ⟨i0, hi, hz0, hz1, hz2⟩ := info_parts info_u8b
    rw [d] at HL
    clear ht see m rng wp wq d hx
    go_enter Tryd.func8, Tryd.ntmps8
    go_wp2_with (first
      | (go_at_call 24; refine HL.out.mono ?_; rintro e w' ⟨rfl, hw⟩; rw [hw]; clear hw)
      | (go_at_call 25; refine HR.out.mono ?_; rintro e w1 ⟨rfl, hd1, hb1⟩))
    refine (dice_signs w.heap.size 30 w1 (by decide) (by decide) hd1).mono ?_
    rintro e w2 ⟨l, rfl, l1, l2, hls, hg2, hd2⟩
    have HB2 := Lib.hid (below_row hb1 hg2)
    obtain ⟨W, cap, z, hcv, hE, hW, hcap⟩ := ex_conv (S l) l rfl w2
    rw [S_size] at hcv hcap
    have hv := sgn_valid hls
    have HB3 := Lib.hid (below_on HB2.out hW)
    obtain ⟨g, hg⟩ : ∃ g, g = w2.heap.size := ⟨_, rfl⟩
    rw [← hg] at hcv hE
    have hR := Row8.of_ex hE
    have hc := run_conv W _ _ _ hR.see l.length cap rfl
    have HV := Lib.hid hv
    have HR8 := Lib.hid hR
    obtain ⟨k, hk⟩ : ∃ k : Nat, p % (l.length : Int) = k := ⟨(p % (l.length : Int)).toNat, by have := Int.emod_nonneg p (show (l.length : Int) ≠ 0 by omega); omega⟩
    have hkl : k < l.length := by have := Int.emod_lt_of_pos p (show (0 : Int) < (l.length : Int) by omega); omega
    have hsk := of_decide_eq_true (hls l[k] (List.getElem_mem hkl))
    have HK := Lib.hid hk
    clear hb1 hd1 hg2 hd2 hls hE hW hg hR hv HR HL hk
    go_wp2_with (first
      | (go_at_call 9; refine (p_digit _ l rfl _ (by rw [S_size]; omega) (HT.out.below HB3.out)).mono ?_; rintro e w4 ⟨rfl, hw4⟩; rw [(dgL_yes HV.out).2])
      | (go_at_call 27; refine (made_mod p l.length p0 p1 (by omega) (by omega) _).mono ?_; rintro e w' ⟨rfl, hw⟩; rw [hw, HK.out]; clear hw)
      | (go_at_call 11; fail))
    refine (awake _ (HT.out.below (below_on HB3.out (below_dr hw4)))).mono ?_
    rintro e w5 ⟨rfl, hb5⟩
    have HB5 := Lib.hid (below_on (below_on HB3.out (below_dr hw4)) hb5)
    have HR5 := Lib.hid ((HR8.out.on (below_dr hw4)).on hb5)
    clear hb5 hw4 hcv hc HR8
    obtain ⟨a, ha⟩ : ∃ a, l[k].toNat = a := ⟨_, rfl⟩
    have HA := Lib.hid ha
    have c0 := HR5.out.cell hkl
    rw [ha] at c0 hsk
    clear ha
    by_cases hk1 : k + 1 < l.length
    · have j1 : (k : Int) + 1 < (l.length : Int) := by omega
      obtain ⟨xx, hxx⟩ : ∃ c, l[k] = c := ⟨_, rfl⟩
      obtain ⟨yy, hyy⟩ : ∃ c, l[k + 1] = c := ⟨_, rfl⟩
      have sw := swap_digit HV.out hk1 xx yy hxx hyy
      have HXX := Lib.hid (And.intro hxx hyy)
      have HSW := Lib.hid sw
      clear sw hxx hyy
      by_cases hd : a ≤ 57
      · have a0 : 48 ≤ a := by omega
        clear hsk
        obtain ⟨mm, hm⟩ : ∃ mm : Nat, q % 9 = mm := ⟨(q % 9).toNat, by omega⟩
        have HM := Lib.hid hm
        have hm9 : mm < 9 := by omega
        clear hm
        go_wp2_with (at_builtin; refine app_bytes rfl (.const (.slice none 0 0)) (.tmp 57) 40 rfl w5.heap.size 5 i0 (.int .u8 0) Tryd.underlying40 hi hz0 hz1 hz2 rfl (.slice none 0 0) 0 [] rfl (own_nil _ _) (some ⟨g, 0, none⟩) cap l (fun _ => True) rfl (fun e => by cases e) (HR5.out.sees _ trivial) (by unfold maxLen; omega) (by omega) (Nat.le_refl _) ?_; intro v6 w6 ho6 hg6; rw [Nat.zero_add, List.nil_append] at ho6; have hb6 := below_own (Below.refl _ _) (own_nil w5 w5.heap.size) hg6; obtain ⟨g6, cap6, rfl, hn6, hgg6, hR6⟩ := Row8.of_own ho6 l1)
        have c6 := hR6.cell hkl
        have f6 := hR6.free hkl
        have c0' := (HR5.out.on hb6).cell hkl
        rw [HA.out] at c6 c0'
        have hM : ∀ u, Calls Tryd.prog 27 #[.int .i64 q, .int .i64 9] u fun e w' => e = .returned (.int .i64 (mm : Int)) ∧ w' = u := fun u => by
          have := made_mod q 9 q0 q1 (by omega) (by omega) u
          rw [HM.out] at this
          exact this
        have HMM := Lib.hid hM
        have HR6 := Lib.hid hR6
        clear hM hR6 ho6 hg6 c0
        go_wp2_with fail
        have E7 := Lib.hid (val_eq a mm a0 hd hm9)
        have od := one_digit HV.out hkl (c := UInt8.ofNat (48 + (a - 48 + 1 + mm) % 10)) (by rw [HA.out]; exact a0) (by rw [HA.out]; exact hd) (by rw [UInt8.toNat_ofNat']; omega) (by rw [UInt8.toNat_ofNat']; omega) (by rw [UInt8.toNat_ofNat', HA.out]; omega)
        have HOD := Lib.hid od
        clear od
        go_region_with (go_at_call 27; refine (HMM.out _).mono ?_; rintro e w' ⟨rfl, hw⟩; rw [hw]; clear hw)
        all_goals
          rw [E7.out]
          generalize UInt8.ofNat (48 + (a - 48 + 1 + mm) % 10) = c8 at *
          obtain ⟨w7, hw7⟩ : ∃ w7, w7 = (w6.setCell ⟨g6, k, none⟩ (.int .u8 (c8.toNat : Int))).drew := ⟨_, rfl⟩
          have HR7 : Hid (Row8 w7 g6 (l.set k c8)) := Lib.hid (by rw [hw7]; exact HR6.out.set hkl _)
          have HG7 : Hid (Row8 w7 g l) := Lib.hid (by rw [hw7]; exact (HR5.out.on hb6).far (p := ⟨g6, k, none⟩) (by have := HR5.out.lt; show g ≠ g6; omega))
          have HB7 : Hid (Below w.heap.size w w7) := Lib.hid (by rw [hw7]; exact (below_dn ((below_on HB5.out hb6).setCell (p := ⟨g6, k, none⟩) (by have := HB5.out.size; show w.heap.size ≤ g6; omega) _) 1))
          rw [← hw7]
          have hl' : (l.set k c8).length = l.length := by simp
          have hc7 := run_conv w7 _ _ _ HR7.out.see l.length cap6 hl'.symm
          clear hw7 E7 c6 f6 c0' HMM HR6 hb6 HR5 HB5
          generalize l.set k c8 = l' at *
          obtain ⟨SE, hSE⟩ : ∃ SE, S (dgL l') = SE := ⟨_, rfl⟩
          have hde : ((S (dgL l)).toList == SE.toList) = false := by rw [← hSE, S_toList, S_toList]; simpa using HOD.out.2
          have HSE := Lib.hid hSE
          clear hSE
          go_wp2_with (first
            | (go_at_call 9; refine (p_digit _ l' rfl _ (by rw [S_size]; omega) (HT.out.below HB7.out)).mono ?_; rintro e w8 ⟨rfl, hw8⟩; rw [(dgL_yes HOD.out.1).2, HSE.out]; have HG8 := Lib.hid (HG7.out.on (below_dr hw8)); have HB8 := Lib.hid (below_on HB7.out (below_dr hw8)))
            | (at_builtin; refine app_bytes rfl (.const (.slice none 0 0)) (.tmp 93) 40 rfl w8.heap.size 5 i0 (.int .u8 0) Tryd.underlying40 hi hz0 hz1 hz2 rfl (.slice none 0 0) 0 [] rfl (own_nil _ _) (some ⟨g, 0, none⟩) cap l (fun _ => True) rfl (fun e => by cases e) (HG8.out.sees _ trivial) (by unfold maxLen; omega) (by omega) (Nat.le_refl _) ?_; intro v9 w9 ho9 hg9; rw [Nat.zero_add, List.nil_append] at ho9; have hb9 := below_own (Below.refl _ _) (own_nil w8 w8.heap.size) hg9; obtain ⟨g9, cap9, rfl, hn9, hgg9, hR9⟩ := Row8.of_own ho9 l1; have c9 := hR9.cell hkl; have f9 := hR9.free hkl; have d9 := hR9.cell hk1; have e9 := hR9.free hk1; rw [HXX.out.1] at c9; rw [HXX.out.2] at d9; have HR9 := Lib.hid hR9; clear hR9 ho9 hg9))
          go_region
          all_goals
            obtain ⟨w10, hw10⟩ : ∃ w10, w10 = ((w9.setCell ⟨g9, k, none⟩ (.int .u8 (yy.toNat : Int))).setCell ⟨g9, k + 1, none⟩ (.int .u8 (xx.toNat : Int))).drew := ⟨_, rfl⟩
            have HRA : Hid (Row8 w10 g9 ((l.set k yy).set (k + 1) xx)) := Lib.hid (by rw [hw10]; exact (HR9.out.set hkl _).set (by rw [List.length_set]; exact hk1) _)
            have hgn : g ≠ g9 := by have := HG8.out.lt; omega
            have HGA : Hid (Row8 w10 g l) := Lib.hid (by rw [hw10]; exact ((HG8.out.on hb9).far (p := ⟨g9, k, none⟩) hgn).far (p := ⟨g9, k + 1, none⟩) hgn)
            have HBA : Hid (Below w.heap.size w w10) := Lib.hid (by
              rw [hw10]
              have h0 : w.heap.size ≤ g9 := by have := HB8.out.size; omega
              exact below_dn (((below_on HB8.out hb9).setCell (p := ⟨g9, k, none⟩) h0 _).setCell (p := ⟨g9, k + 1, none⟩) h0 _) 1)
            rw [← hw10]
            have hl9 : ((l.set k yy).set (k + 1) xx).length = l.length := by simp
            have hcA := run_conv w10 _ _ _ HRA.out.see l.length cap9 hl9.symm
            clear hw10 c9 f9 d9 e9 HR9 hb9 HG8 HB8 hgn
            generalize (l.set k yy).set (k + 1) xx = l3 at *
            obtain ⟨vx, hvx⟩ : ∃ v, vI (xx.toNat : Int) = v := ⟨_, rfl⟩
            obtain ⟨vy, hvy⟩ : ∃ v, vI (yy.toNat : Int) = v := ⟨_, rfl⟩
            have b0 := vI_le (xx.toNat : Int)
            have b1 := vI_le (yy.toNat : Int)
            rw [hvx] at b0
            rw [hvy] at b1
            have hsw := HSW.out.2
            rw [hvx, hvy] at hsw
            have HVX := Lib.hid hvx
            have HVY := Lib.hid hvy
            clear hvx hvy
            have HRX := Lib.hid (fun u => r_value _ vx HVX.out (by omega) (by have := UInt8.toNat_lt xx; omega) u)
            have HRY := Lib.hid (fun u => r_value _ vy HVY.out (by omega) (by have := UInt8.toNat_lt yy; omega) u)
            obtain ⟨SF, hSF⟩ : ∃ SF, S (dgL l3) = SF := ⟨_, rfl⟩
            have HSF := Lib.hid hSF
            have hm5 := tmod5 (vx - vy)
            have hq : Hid (∃ b : Bool, ((S (dgL l)).toList == SF.toList) = b ∧ ((vx - vy).tmod 5 == 0) = b) := Lib.hid (by
              rw [← hSF, S_toList, S_toList]
              by_cases h : (vx - vy) % 5 = 0
              · exact ⟨true, by simpa using hsw.2 h, by simpa using hm5.2 h⟩
              · exact ⟨false, by simpa using fun e => h (hsw.1 e), by simpa using fun e => h (hm5.1 e)⟩)
            obtain ⟨b, hb1, hb2⟩ := hq.out
            clear hsw hm5 hSF hq
            go_wp2_with (go_at_call 9; refine (p_digit _ l3 rfl _ (by rw [S_size]; omega) (HT.out.below HBA.out)).mono ?_; rintro e w11 ⟨rfl, hw11⟩; rw [(dgL_yes HSW.out.1).2, HSF.out]; have HGB := Lib.hid (HGA.out.on (below_dr hw11)); have cA := HGB.out.cell hkl; have cB := HGB.out.cell hk1; rw [HXX.out.1] at cA; rw [HXX.out.2] at cB)
            go_quiet ((go_at_call 13; first | with_reducible exact Calls.quiet_of_same (HRX.out _) | with_reducible exact Calls.quiet_of_same (HRY.out _)))
            rcases b with _ | _
            all_goals
              go_wp2
              go_ret
              exact ⟨rfl, below_dn (below_on HBA.out (below_dr hw11)) _⟩
      · have a0 : 65 ≤ a := by omega
        clear hsk hd
        go_wp2_with (at_builtin; refine app_bytes rfl (.const (.slice none 0 0)) (.tmp 93) 40 rfl w5.heap.size 5 i0 (.int .u8 0) Tryd.underlying40 hi hz0 hz1 hz2 rfl (.slice none 0 0) 0 [] rfl (own_nil _ _) (some ⟨g, 0, none⟩) cap l (fun _ => True) rfl (fun e => by cases e) (HR5.out.sees _ trivial) (by unfold maxLen; omega) (by omega) (Nat.le_refl _) ?_; intro v9 w9 ho9 hg9; rw [Nat.zero_add, List.nil_append] at ho9; have hb9 := below_own (Below.refl _ _) (own_nil w5 w5.heap.size) hg9; obtain ⟨g9, cap9, rfl, hn9, hgg9, hR9⟩ := Row8.of_own ho9 l1; have c9 := hR9.cell hkl; have f9 := hR9.free hkl; have d9 := hR9.cell hk1; have e9 := hR9.free hk1; rw [HXX.out.1] at c9; rw [HXX.out.2] at d9; have HR9 := Lib.hid hR9; clear hR9 ho9 hg9)
        go_region
        all_goals
          obtain ⟨w10, hw10⟩ : ∃ w10, w10 = ((w9.setCell ⟨g9, k, none⟩ (.int .u8 (yy.toNat : Int))).setCell ⟨g9, k + 1, none⟩ (.int .u8 (xx.toNat : Int))).drew := ⟨_, rfl⟩
          have HRA : Hid (Row8 w10 g9 ((l.set k yy).set (k + 1) xx)) := Lib.hid (by rw [hw10]; exact (HR9.out.set hkl _).set (by rw [List.length_set]; exact hk1) _)
          have hgn : g ≠ g9 := by have := HR5.out.lt; omega
          have HGA : Hid (Row8 w10 g l) := Lib.hid (by rw [hw10]; exact ((HR5.out.on hb9).far (p := ⟨g9, k, none⟩) hgn).far (p := ⟨g9, k + 1, none⟩) hgn)
          have HBA : Hid (Below w.heap.size w w10) := Lib.hid (by
            rw [hw10]
            have h0 : w.heap.size ≤ g9 := by have := HB5.out.size; omega
            exact below_dn (((below_on HB5.out hb9).setCell (p := ⟨g9, k, none⟩) h0 _).setCell (p := ⟨g9, k + 1, none⟩) h0 _) 1)
          rw [← hw10]
          have hl9 : ((l.set k yy).set (k + 1) xx).length = l.length := by simp
          have hcA := run_conv w10 _ _ _ HRA.out.see l.length cap9 hl9.symm
          clear hw10 c9 f9 d9 e9 HR9 hb9 HR5 HB5 hgn
          generalize (l.set k yy).set (k + 1) xx = l3 at *
          obtain ⟨vx, hvx⟩ : ∃ v, vI (xx.toNat : Int) = v := ⟨_, rfl⟩
          obtain ⟨vy, hvy⟩ : ∃ v, vI (yy.toNat : Int) = v := ⟨_, rfl⟩
          have b0 := vI_le (xx.toNat : Int)
          have b1 := vI_le (yy.toNat : Int)
          rw [hvx] at b0
          rw [hvy] at b1
          have hsw := HSW.out.2
          rw [hvx, hvy] at hsw
          have HVX := Lib.hid hvx
          have HVY := Lib.hid hvy
          clear hvx hvy
          have HRX := Lib.hid (fun u => r_value _ vx HVX.out (by omega) (by have := UInt8.toNat_lt xx; omega) u)
          have HRY := Lib.hid (fun u => r_value _ vy HVY.out (by omega) (by have := UInt8.toNat_lt yy; omega) u)
          obtain ⟨SF, hSF⟩ : ∃ SF, S (dgL l3) = SF := ⟨_, rfl⟩
          have HSF := Lib.hid hSF
          have hm5 := tmod5 (vx - vy)
          have hq : Hid (∃ b : Bool, ((S (dgL l)).toList == SF.toList) = b ∧ ((vx - vy).tmod 5 == 0) = b) := Lib.hid (by
            rw [← hSF, S_toList, S_toList]
            by_cases h : (vx - vy) % 5 = 0
            · exact ⟨true, by simpa using hsw.2 h, by simpa using hm5.2 h⟩
            · exact ⟨false, by simpa using fun e => h (hsw.1 e), by simpa using fun e => h (hm5.1 e)⟩)
          obtain ⟨b, hb1, hb2⟩ := hq.out
          clear hsw hm5 hSF hq
          go_wp2_with (go_at_call 9; refine (p_digit _ l3 rfl _ (by rw [S_size]; omega) (HT.out.below HBA.out)).mono ?_; rintro e w11 ⟨rfl, hw11⟩; rw [(dgL_yes HSW.out.1).2, HSF.out]; have HGB := Lib.hid (HGA.out.on (below_dr hw11)); have cA := HGB.out.cell hkl; have cB := HGB.out.cell hk1; rw [HXX.out.1] at cA; rw [HXX.out.2] at cB)
          go_quiet ((go_at_call 13; first | with_reducible exact Calls.quiet_of_same (HRX.out _) | with_reducible exact Calls.quiet_of_same (HRY.out _)))
          rcases b with _ | _
          all_goals
            go_wp2
            go_ret
            exact ⟨rfl, below_dn (below_on HBA.out (below_dr hw11)) _⟩
    · have d15 : decide ((k : Int) + 1 < (l.length : Int)) = false := by simp; omega
      by_cases hd : a ≤ 57
      · have a0 : 48 ≤ a := by omega
        clear hsk
        obtain ⟨mm, hm⟩ : ∃ mm : Nat, q % 9 = mm := ⟨(q % 9).toNat, by omega⟩
        have HM := Lib.hid hm
        have hm9 : mm < 9 := by omega
        clear hm
        go_wp2_with (at_builtin; refine app_bytes rfl (.const (.slice none 0 0)) (.tmp 57) 40 rfl w5.heap.size 5 i0 (.int .u8 0) Tryd.underlying40 hi hz0 hz1 hz2 rfl (.slice none 0 0) 0 [] rfl (own_nil _ _) (some ⟨g, 0, none⟩) cap l (fun _ => True) rfl (fun e => by cases e) (HR5.out.sees _ trivial) (by unfold maxLen; omega) (by omega) (Nat.le_refl _) ?_; intro v6 w6 ho6 hg6; rw [Nat.zero_add, List.nil_append] at ho6; have hb6 := below_own (Below.refl _ _) (own_nil w5 w5.heap.size) hg6; obtain ⟨g6, cap6, rfl, hn6, hgg6, hR6⟩ := Row8.of_own ho6 l1)
        have c6 := hR6.cell hkl
        have f6 := hR6.free hkl
        have c0' := (HR5.out.on hb6).cell hkl
        rw [HA.out] at c6 c0'
        have hM : ∀ u, Calls Tryd.prog 27 #[.int .i64 q, .int .i64 9] u fun e w' => e = .returned (.int .i64 (mm : Int)) ∧ w' = u := fun u => by
          have := made_mod q 9 q0 q1 (by omega) (by omega) u
          rw [HM.out] at this
          exact this
        have HMM := Lib.hid hM
        have HR6 := Lib.hid hR6
        clear hM hR6 ho6 hg6 c0
        go_wp2_with fail
        have E7 := Lib.hid (val_eq a mm a0 hd hm9)
        have od := one_digit HV.out hkl (c := UInt8.ofNat (48 + (a - 48 + 1 + mm) % 10)) (by rw [HA.out]; exact a0) (by rw [HA.out]; exact hd) (by rw [UInt8.toNat_ofNat']; omega) (by rw [UInt8.toNat_ofNat']; omega) (by rw [UInt8.toNat_ofNat', HA.out]; omega)
        have HOD := Lib.hid od
        clear od
        go_region_with (go_at_call 27; refine (HMM.out _).mono ?_; rintro e w' ⟨rfl, hw⟩; rw [hw]; clear hw)
        all_goals
          rw [E7.out]
          generalize UInt8.ofNat (48 + (a - 48 + 1 + mm) % 10) = c8 at *
          obtain ⟨w7, hw7⟩ : ∃ w7, w7 = (w6.setCell ⟨g6, k, none⟩ (.int .u8 (c8.toNat : Int))).drew := ⟨_, rfl⟩
          have HR7 : Hid (Row8 w7 g6 (l.set k c8)) := Lib.hid (by rw [hw7]; exact HR6.out.set hkl _)
          have HG7 : Hid (Row8 w7 g l) := Lib.hid (by rw [hw7]; exact (HR5.out.on hb6).far (p := ⟨g6, k, none⟩) (by have := HR5.out.lt; show g ≠ g6; omega))
          have HB7 : Hid (Below w.heap.size w w7) := Lib.hid (by rw [hw7]; exact (below_dn ((below_on HB5.out hb6).setCell (p := ⟨g6, k, none⟩) (by have := HB5.out.size; show w.heap.size ≤ g6; omega) _) 1))
          rw [← hw7]
          have hl' : (l.set k c8).length = l.length := by simp
          have hc7 := run_conv w7 _ _ _ HR7.out.see l.length cap6 hl'.symm
          clear hw7 E7 c6 f6 c0' HMM HR6 hb6 HR5 HB5
          generalize l.set k c8 = l' at *
          obtain ⟨SE, hSE⟩ : ∃ SE, S (dgL l') = SE := ⟨_, rfl⟩
          have hde : ((S (dgL l)).toList == SE.toList) = false := by rw [← hSE, S_toList, S_toList]; simpa using HOD.out.2
          have HSE := Lib.hid hSE
          clear hSE
          go_wp2_with (first
            | (go_at_call 9; refine (p_digit _ l' rfl _ (by rw [S_size]; omega) (HT.out.below HB7.out)).mono ?_; rintro e w8 ⟨rfl, hw8⟩; rw [(dgL_yes HOD.out.1).2, HSE.out]; have HG8 := Lib.hid (HG7.out.on (below_dr hw8)); have HB8 := Lib.hid (below_on HB7.out (below_dr hw8))))
          go_ret
          exact ⟨rfl, HB8.out⟩
      · have a0 : 65 ≤ a := by omega
        clear hsk hd
        go_wp2
        go_ret
        exact ⟨rfl, HB5.out⟩
  · have d : decide (x.length ≤ 400) = false := decide_eq_false hx
    rw [d] at HL
    clear ht see m rng wp wq d hx
    go_enter Tryd.func8, Tryd.ntmps8
    go_wp2_with (first
      | (go_at_call 24; refine HL.out.mono ?_; rintro e w' ⟨rfl, hw⟩; rw [hw]; clear hw)
      | (go_at_call 11; refine (awake _ HT.out).mono ?_; rintro e w2 ⟨rfl, hb⟩))
    go_ret
    exact ⟨rfl, hb⟩

/-! ### the given statement, out of the walk -/
set_option maxRecDepth 100000 in
theorem lifted (os : Os) (started : os.Started) (H : Type) (enc : TypeId × Value → H) :
    ReturnsInHanded {} Tryd.checked os 8 .any (fun w args => (Rows.opticalOneDigitSpec.pre enc Tryd.prog Tryd.f8 Rows.opticalOneDigitRow.domain false w args ∧ laidMetH Tryd.prog laidL w) ∧ sizedMet enc Tryd.prog Tryd.f8 (OpenSpec.ofChange Rows.opticalOneDigitSpec) false w args)
      (Rows.opticalOneDigitSpec.post enc Tryd.prog Tryd.f8 false true false false) := by
  refine returnsInHanded_of_change_and (C := Tryd.checked) (X := fun w _ => laidMetH Tryd.prog laidL w) (fun _ _ _ hh h => h.of_heap hh) own started (by kernel_rfl) Tryd.func8
    (ChangeSpec.witness_shaped (enc := enc) (C := Tryd.checked) (os := os) (X := fun w _ => laidMetH Tryd.prog laidL w) false (World.laidAll Tryd.prog os laidL) #[.slice none 0 0, .int .i64 0, .int .i64 0] 8 (World.laidAll_os _ _ _)
      (World.shaped_of_ZipB (by kernel_rfl) (by kernel_rfl)) (by kernel_rfl) (by kernel_rfl) (by kernel_rfl)
      (by rw [MakeChecks.laidMetH_plain _ _ _ (by kernel_rfl)]; exact laidMet_laidAll _ (by kernel_rfl) (by kernel_rfl))) ?_
  intro W base args ds gs before hval0 hW hcnd hsz0 hL _
  have hsz : (DataW.weightsEach Tryd.prog (Tryd.f8.params.toList ++ Rows.opticalOneDigitSpec.plain.varTypes Tryd.prog) (ds ++ gs)).all (· ≤ reachBytes) = true := hsz0
  have hval : ∀ (j : Nat) t v, Tryd.f8.params[j]? = some t → args[j]? = some v → Value.okWide Tryd.prog W .any base t v := hval0
  have hW' := hW
  obtain ⟨p, q, hA0, hV, rfl, hfz, hnd⟩ := hW
  have hA : DataW.TrodAll enc Tryd.prog W 0 (fun _ => true) true Tryd.f8.params.toList args.toList ds p := hA0
  rw [Tryd.params8] at hA hval hsz
  obtain ⟨v0, vs0, d0, ds0, p0, q0, hargs, rfl, rfl, h0, r0⟩ := trodAll_cons hA
  obtain ⟨v1, vs1, d1, ds1, p1, q1, rfl, rfl, rfl, h1, r1⟩ := trodAll_cons r0
  obtain ⟨v2, vs2, d2, ds2, p2, q2, rfl, rfl, rfl, h2, r2⟩ := trodAll_cons r1
  obtain ⟨rfl, rfl, rfl⟩ := trodAll_nil r2
  obtain rfl : args = #[v0, v1, v2] := by cases args; simp_all
  obtain ⟨rfl, rfl⟩ := trodVars_none hV
  obtain ⟨a0, len0, cap0, rfl⟩ := okWide_slice Tryd.underlying33 (hval 0 33 v0 rfl rfl)
  have lt0 : ∀ x ∈ p0, x.block < W.heap.size := by obtain ⟨m, hm⟩ := h0; exact DataW.trod_lt m _ _ _ hm
  obtain ⟨x0, rfl, see0, rng0, hl0, hc0⟩ := open_i64s h0 lt0
  have m0 := reach_i64s hsz (j := 0) rfl rfl hl0 hc0
  obtain ⟨n1, rfl, rfl, rfl, w1⟩ := open_int Tryd.underlying3 (hval 1 3 v1 rfl rfl) h1
  obtain ⟨n2, rfl, rfl, rfl, w2⟩ := open_int Tryd.underlying3 (hval 2 3 v2 rfl rfl) h2
  clear hA0 hval0
  refine (walk a0 cap0 x0 n1 n2 W (of_laid hL) see0 m0 rng0 w1 w2).mono fun e W' ⟨he, bel⟩ => ?_
  subst he
  exact ⟨_, rfl, _, _, _, [], _, [], hW', trodAll_mk1 (shut_bool Tryd.underlying4 _), (trodAll_cons_mk (Below.trod laidOut (by kernel_rfl) (of_decide_eq_true (by kernel_rfl)) h0 bel lt0) (trodAll_cons_mk (shut_int Tryd.underlying3 w1) (trodAll_cons_mk (shut_int Tryd.underlying3 w2) trodAll_mk0))), rfl, bel.frame _, fun h => by cases h⟩

theorem said : Rows.OpticalOneDigitSaid :=
  OpenClaim.holds_of_wide 8 Tryd.f8 rfl rfl rfl rfl rfl rfl rfl ⟨rfl, rfl, rfl, rfl, rfl⟩ rfl rfl rfl rfl rfl (by kernel_rfl) Tryd.func8 (by kernel_rfl)
    (of_decide_eq_true (by kernel_rfl)) (by unfold Func.isWrapper; first | (rw [if_pos (by decide +kernel)]; kernel_rfl) | (rw [if_neg (by decide +kernel)]; exact ⟨rfl, rfl⟩))
    (fun os started H enc _ => lifted os started H enc)
theorem proved : Rows.OpticalOneDigitCardSaid :=
  Claim7.holds_tied_plain_at .later [] laidKinds true Rows.opticalOneDigitCard.stood.harness false
    said (fun _ h => by cases h) (by kernel_rfl) (fun _ h => by cases h) opticalOneDigit_row_tie rfl ⟨rfl, rfl⟩ (by kernel_rfl) rfl
    (fun f fn hf hfn => by
      obtain rfl : f = 8 := Option.some.inj ((show Tryd.prog.funcNamed "traveldoc/traveldoclaw10.OpticalOneDigit" = some 8 by kernel_rfl).symm.trans hf) |>.symm
      obtain rfl : fn = Tryd.f8 := (Option.some.inj (Tryd.func8.symm.trans hfn)).symm
      exact ⟨by kernel_rfl, fun j t ht => by
        rw [Tryd.params8] at ht
        have hm : t ∈ [33, 3, 3] := by simpa using Array.mem_of_getElem? ht
        have hall : ([33, 3, 3].all fun u => !Tryd.prog.wantsStandIn u) = true := by kernel_rfl
        exact (show Tryd.prog.wantsStandIn t = false by simpa using List.all_eq_true.1 hall t hm)⟩)
    (by kernel_rfl)
end Go.Proofs.YtfkcnbcifidlgaaDoor.opticalOneDigit
