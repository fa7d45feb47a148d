/-
  What is proved here: the law ZoneSpoiled as a function: true for any numbers.
-/
import Derived.Test.YtdlcoilpkelbaaaGreatDoorZnw
import Derived.Test.YtdlcoilpkelbaaaGreatDoorZln
import Derived.Test.YtdlcoilpkelbaaaGreatDoorY17
namespace Go.Proofs.YtdlcoilpkelbaaaGreatDoor
open Go.RowKit Go.Maps Go.Deep
set_option linter.unusedVariables false

/-- a number out of a slice of integers that came in -/
theorem ints_at {w : World} {A : Option Addr} {x : List Int} (h : SeesP w (· < w.heap.size) A (x.map (Value.int .i64))) {j : Nat} (hj : j < x.length) : ∃ b o, A = some ⟨b, o, none⟩ ∧ b < w.heap.size ∧ w.cell? ⟨b, o + j, none⟩ = some (.int .i64 (x[j]'hj)) := by
  rcases h with h | ⟨b, o, e, hb, hc⟩
  · simp at h; subst h; simp at hj
  · exact ⟨b, o, e, hb, by rw [hc j (by simpa using hj)]; simp [hj]⟩
theorem ch_any {P : World → Prop} (W : World) (g m : Nat) (c : UInt8) (h : ∀ ch : UInt8, P (W.setCell ⟨g, m, none⟩ (.int .u8 (ch.toNat : Int)))) : P (W.setCell ⟨g, m, none⟩ (.int .u8 (c.toNat : Int))) := h c
def signL : List UInt8 := [60, 48, 49, 50, 51, 52, 53, 54, 55, 56, 57, 65, 66, 67, 68, 69, 70, 71, 72, 73, 74, 75, 76, 77, 78, 79, 80, 81, 82, 83, 84, 85, 86, 87, 88, 89, 90, 97, 32]
theorem sign_len : signL.length = 39 := rfl
/-- lines of which each has some characters -/
def LnOk (n : Nat) (ls : List (List UInt8)) : Prop := ls.length = n ∧ ∀ i, i < n → 30 ≤ (ls.getD i []).length ∧ (ls.getD i []).length ≤ 44
theorem LnOk.set {n : Nat} {ls : List (List UInt8)} (h : LnOk n ls) {k m : Nat} (hk : k < n) (c : UInt8) : LnOk n (ls.set k ((ls.getD k []).set m c)) := by
  refine ⟨by rw [List.length_set]; exact h.1, fun i hi => ?_⟩
  rw [getD_set ls [] _ (by rw [h.1]; exact hk)]
  split
  · rw [List.length_set]; exact h.2 k hk
  · exact h.2 i hi
theorem lines_ok {z : Zn} (hz : vE z = 0) : LnOk (buildL z).length (buildL z) := by
  refine ⟨rfl, fun i hi => ?_⟩
  have hL := bk_lines hz
  have w : 30 ≤ widN z.fm ∧ widN z.fm ≤ 44 := by unfold widN; repeat (first | omega | split)
  rw [build_T hz] at hi ⊢
  rw [hL.2 i (by rw [← hL.1]; exact hi)]
  exact w

set_option maxHeartbeats 12800000 in
set_option maxRecDepth 40000 in
theorem zs_walk (A0 : Option Addr) (c : Nat) (x : List Int) (A1 : Option Addr) (c1 : Nat) (y : List Int) (A2 : Option Addr) (c2 : Nat) (v : List Int) (w : World) (hM : Mm w)
    (see : SeesP w (· < w.heap.size) A0 (x.map (Value.int .i64))) (m : x.length ≤ 140737488351232) (rng : ∀ y ∈ x, -9223372036854775808 ≤ y ∧ y ≤ 9223372036854775807)
    (see1 : SeesP w (· < w.heap.size) A1 (y.map (Value.int .i64))) (m1 : y.length ≤ 140737488351232) (rng1 : ∀ z ∈ y, -9223372036854775808 ≤ z ∧ z ≤ 9223372036854775807)
    (see2 : SeesP w (· < w.heap.size) A2 (v.map (Value.int .i64))) (m2 : v.length ≤ 140737488351232) (rng2 : ∀ z ∈ v, -9223372036854775808 ≤ z ∧ z ≤ 9223372036854775807) :
    Calls Tryz.prog 7 #[.slice A0 x.length c, .slice A1 y.length c1, .slice A2 v.length c2] w fun e w' => e = .returned (.bool true) ∧ Below w.heap.size w w' := by
  have HM := Lib.hid hM
  have HLt : Hid (∀ b, decide (x.length ≤ 400) = b → Calls Tryz.prog 20 #[.slice A0 x.length c] w fun e w' => e = .returned (.bool b) ∧ w' = w) := Lib.hid (fun b hb => by rw [← hb]; exact made_light A0 x.length c w m)
  have HLa : Hid (∀ b, decide (y.length ≤ 400) = b → Calls Tryz.prog 20 #[.slice A1 y.length c1] w fun e w' => e = .returned (.bool b) ∧ w' = w) := Lib.hid (fun b hb => by rw [← hb]; exact made_light A1 y.length c1 w m1)
  have HR := Lib.hid (made_roll A0 c x w m rng see)
  have HSE := Lib.hid (show _ ∧ _ ∧ _ ∧ _ from ⟨see1, rng1, see2, rng2⟩)
  obtain ⟨n1, hn1⟩ : ∃ k, y.length = k := ⟨_, rfl⟩
  obtain ⟨n2, hn2⟩ : ∃ k, v.length = k := ⟨_, rfl⟩
  have HN12 := Lib.hid (And.intro hn1 hn2)
  obtain ⟨b0, hb0⟩ : ∃ b, decide (x.length ≤ 400) = b := ⟨_, rfl⟩
  obtain ⟨b1, hb1⟩ : ∃ b, decide (y.length ≤ 400) = b := ⟨_, rfl⟩
  have HA := Lib.hid (HLt.out b0 hb0)
  have HB := Lib.hid (HLa.out b1 hb1)
  rw [hn1] at HB m1 ⊢
  rw [hn2] at m2 ⊢
  clear hM see m rng see1 rng1 see2 rng2 HLt HLa hb0 hb1 hn1 hn2
  rcases b0 with _ | _
  · go_enter Tryz.func7, Tryz.ntmps7
    go_wp2_with (first
      | (go_at_call 20; (with_reducible refine HA.out.mono ?_); rintro e w' ⟨rfl, hw⟩; rw [hw]; clear hw)
      | (go_at_call 14; ((with_reducible refine (zone_awake _ HM.out).mono ?_); rintro e w1 ⟨rfl, hb⟩); have HBL := Lib.hid hb; clear hb))
    go_ret
    exact ⟨rfl, HBL.out⟩
  rcases b1 with _ | _
  · go_enter Tryz.func7, Tryz.ntmps7
    go_wp2_with (first
      | (go_at_call 20; (with_reducible refine HB.out.mono ?_); rintro e w' ⟨rfl, hw⟩; rw [hw]; clear hw)
      | (go_at_call 20; (with_reducible refine HA.out.mono ?_); rintro e w' ⟨rfl, hw⟩; rw [hw]; clear hw)
      | (go_at_call 14; ((with_reducible refine (zone_awake _ HM.out).mono ?_); rintro e w1 ⟨rfl, hb⟩); have HBL := Lib.hid hb; clear hb))
    go_ret
    exact ⟨rfl, HBL.out⟩
  go_enter Tryz.func7, Tryz.ntmps7
  go_wp2_with (first
    | (go_at_call 20; (with_reducible refine HB.out.mono ?_); rintro e w' ⟨rfl, hw⟩; rw [hw]; clear hw)
    | (go_at_call 20; (with_reducible refine HA.out.mono ?_); rintro e w' ⟨rfl, hw⟩; rw [hw]; clear hw)
    | (go_at_call 21; (with_reducible refine HR.out.mono ?_); rintro e w1 ⟨rfl, hd1, hb1⟩))
  refine (dice_lines w.heap.size w1 hd1).mono ?_
  rintro e w2 ⟨z, A, hz, rfl, hs, hg⟩
  have hne : buildL z ≠ [] := fun e => by have := (build_30 hz).1; rw [e] at this; simp at this
  obtain ⟨gl, rfl, hgl, hrl⟩ := hs.2.resolve_left hne
  have HO := Lib.hid ((Own.start w).add (below_row hb1 hg) hrl (Nat.le_trans hb1.size hgl))
  have hlo := lines_ok hz
  have hn30 := build_30 hz
  obtain ⟨n, hn⟩ : ∃ n, (buildL z).length = n := ⟨_, rfl⟩
  obtain ⟨l0, hl0⟩ : ∃ l, buildL z = l := ⟨_, rfl⟩
  rw [hn, hl0] at hlo
  rw [hl0] at HO
  rw [hn] at hn30 ⊢
  have hn3 : 2 ≤ n ∧ n ≤ 3 := ⟨hn30.1, hn30.2.1⟩
  have HLO := Lib.hid hlo
  clear hd1 hb1 hz hs hg hne hgl hrl hlo hn30 hn hl0 HA HB HR
  go_wp2_with fail
  go_loopw [8] (fun i wr => ∃ (j : Nat) (ls : List (List UInt8)), j ≤ 6 ∧ i = .int .i64 (j : Int) ∧ Hid (LnOk n ls) ∧ Hid (Own w wr [(gl, strV ls)])) (fun i _ => 6 - (intOf i).toNat)
  case atStart => exact ⟨0, l0, by omega, rfl, HLO, HO⟩
  case round =>
    clear HO HLO
    obtain ⟨j, ls, hj6, rfl, HLO, HO⟩ := hrel
    have HZP : Hid (∀ w, Mm w → Strs w (some ⟨gl, 0, none⟩) ls → Calls Tryz.prog 4 #[.slice (some ⟨gl, 0, none⟩) n n] w fun e w' => e = .returned (.bool true) ∧ Below w.heap.size w w') := Lib.hid (fun w hM hs => zp_walk ls _ n n HLO.out.1 (by omega) w hM hs)
    by_cases h1 : ¬ j < n1
    · have e1 : decide ((j : Int) < (n1 : Int)) = false := by simp; omega
      go_wp2_with (go_at_call 4; ((with_reducible refine (HZP.out _ (HM.out.on HO.out.bl) (strs_of (HO.out.row (i := 0) rfl))).mono ?_); rintro e w8 ⟨rfl, hb⟩); replace HO := Lib.hid (HO.out.on hb); clear hb)
      go_ret
      exact ⟨rfl, HO.out.bl⟩
    have h1 : j < n1 := Classical.not_not.1 h1
    have e1 : decide ((j : Int) < (n1 : Int)) = true := by simp; omega
    by_cases h6 : ¬ j < 6
    · have e6 : decide ((j : Int) < 6) = false := by simp; omega
      go_wp2_with (go_at_call 4; ((with_reducible refine (HZP.out _ (HM.out.on HO.out.bl) (strs_of (HO.out.row (i := 0) rfl))).mono ?_); rintro e w8 ⟨rfl, hb⟩); replace HO := Lib.hid (HO.out.on hb); clear hb)
      go_ret
      exact ⟨rfl, HO.out.bl⟩
    have h6 : j < 6 := Classical.not_not.1 h6
    have e6 : decide ((j : Int) < 6) = true := by simp; omega
    have hjy : j < y.length := by rw [HN12.out.1]; exact h1
    obtain ⟨ba, oa, hA1, hba, hca⟩ := ints_at HSE.out.1 hjy
    have hra := HSE.out.2.1 _ (List.getElem_mem hjy)
    obtain ⟨av, hav⟩ : ∃ a, y[j]'hjy = a := ⟨_, rfl⟩
    rw [hav] at hca hra
    subst hA1
    have ca := (HO.out.bl.cell (p := ⟨ba, oa + j, none⟩) hba).trans hca
    obtain ⟨k, hk⟩ : ∃ k : Nat, av % (n : Int) = k := ⟨(av % (n : Int)).toNat, by have := Int.emod_nonneg av (show (n : Int) ≠ 0 by omega); omega⟩
    have hkn : k < n := by have := Int.emod_lt_of_pos av (show (0 : Int) < (n : Int) by omega); omega
    have HMK : Hid (∀ w, Calls Tryz.prog 26 #[.int .i64 av, .int .i64 (n : Int)] w fun e w' => e = .returned (.int .i64 (k : Int)) ∧ w' = w) := Lib.hid (fun w => by
      have := made_mod av n hra.1 hra.2 (by omega) (by omega) w
      rw [hk] at this; exact this)
    obtain ⟨q, hq⟩ : ∃ q, ls.getD k [] = q := ⟨_, rfl⟩
    have hql := HLO.out.2 k hkn
    rw [hq] at hql
    have HQ := Lib.hid hq
    have ck : World.cell? wr ⟨gl, k, none⟩ = some (.string (S q)) := by rw [← hq]; exact ((HO.out.row (i := 0) rfl).cell k).trans (strV_at (by rw [HLO.out.1]; exact hkn))
    obtain ⟨X, hX⟩ : ∃ X, S q = X := ⟨_, rfl⟩
    rw [hX] at ck
    have hXl : X.size = q.length := by rw [← hX, S_size]
    obtain ⟨W, cap, zz, hcv, hE, hWb, hcap⟩ := ex_conv X q hX.symm wr
    obtain ⟨g, hg⟩ : ∃ g, g = wr.heap.size := ⟨_, rfl⟩
    rw [← hg] at hcv hE
    have HR8 := Lib.hid (Row8.of_ex hE)
    have HO2 := Lib.hid (HO.out.on hWb)
    have HGG : Hid (gl < g ∧ w.heap.size ≤ g) := Lib.hid ⟨by rw [hg]; exact (HO.out.row (i := 0) rfl).lt, by rw [hg]; exact HO.out.bl.size⟩
    have HCA := Lib.hid (And.intro hba hca)
    have hX30 : 30 ≤ X.size ∧ X.size ≤ 44 := by omega
    have HXL := Lib.hid hXl
    have jkn : (k : Int) < (n : Int) := by omega
    clear hX hg hE hWb hq hk hav hql hXl hba hca
    have HCW := Lib.hid (HO2.out.bl.cell (p := ⟨ba, oa + j, none⟩) HCA.out.1)
    by_cases hv : j < n2
    · have hjv : j < v.length := by rw [HN12.out.2]; exact hv
      obtain ⟨bb, ob, hA2, hbb, hcb⟩ := ints_at HSE.out.2.2.1 hjv
      have hrb := HSE.out.2.2.2 _ (List.getElem_mem hjv)
      obtain ⟨cc, hbv⟩ : ∃ a, v[j]'hjv = a := ⟨_, rfl⟩
      rw [hbv] at hcb hrb
      subst hA2
      have cb := (HO2.out.bl.cell (p := ⟨bb, ob + j, none⟩) hbb).trans hcb
      have eV : decide ((j : Int) < (n2 : Int)) = true := by simp; omega
      have HCC := Lib.hid hrb
      clear hbv hcb hbb hrb
      have ca2 := (HO2.out.bl.cell (p := ⟨ba, oa + j, none⟩) HCA.out.1).trans HCA.out.2
      obtain ⟨r, hr⟩ : ∃ r : Nat, cc % 39 = r := ⟨(cc % 39).toNat, by omega⟩
      have hr39 : r < 39 := by omega
      have HMR : Hid (∀ w, Calls Tryz.prog 26 #[.int .i64 cc, .int .i64 39] w fun e w' => e = .returned (.int .i64 (r : Int)) ∧ w' = w) := Lib.hid (fun w => by
        have := made_mod cc 39 HCC.out.1 HCC.out.2 (by omega) (by omega) w
        rw [hr] at this; exact this)
      have hshr : -9223372036854775808 ≤ av / 16 ∧ av / 16 ≤ 9223372036854775807 := by omega
      obtain ⟨m', hm'⟩ : ∃ k : Nat, (av / 16) % (X.size : Int) = k := ⟨((av / 16) % (X.size : Int)).toNat, by have := Int.emod_nonneg (av / 16) (show (X.size : Int) ≠ 0 by omega); omega⟩
      have hmX : m' < X.size := by have := Int.emod_lt_of_pos (av / 16) (show (0 : Int) < (X.size : Int) by omega); omega
      have HMS : Hid (∀ w, Calls Tryz.prog 26 #[.int .i64 (av / 16), .int .i64 (X.size : Int)] w fun e w' => e = .returned (.int .i64 (m' : Int)) ∧ w' = w) := Lib.hid (fun w => by
        have := made_mod (av / 16) X.size hshr.1 hshr.2 (by omega) (by omega) w
        rw [hm'] at this; exact this)
      clear hm'
      have hmq : m' < q.length := by rw [← HXL.out]; exact hmX
      have fm := HR8.out.free hmq
      obtain ⟨bq, hbq⟩ : ∃ b : Nat, (q[m']'hmq).toNat = b := ⟨_, rfl⟩
      have cm := HR8.out.cell hmq
      rw [hbq] at cm
      clear hbq
      have jmX : (m' : Int) < (X.size : Int) := by omega
      clear hr
      go_upto_region 13 with (first
        | (go_at_call 26; (with_reducible refine (HMK.out _).mono ?_); rintro e w' ⟨rfl, hw⟩; rw [hw]; clear hw)
        | (go_at_call 26; (with_reducible refine (HMS.out _).mono ?_); rintro e w' ⟨rfl, hw⟩; rw [hw]; clear hw)
        | (go_at_call 26; (with_reducible refine (HMR.out _).mono ?_); rintro e w' ⟨rfl, hw⟩; rw [hw]; clear hw))
      refine ch_any (P := fun u => Code.wp _ _ _ _ u) W g m' _ ?_
      intro ch
      have HRQ : Hid (Row8 (W.setCell ⟨g, m', none⟩ (.int .u8 (ch.toNat : Int))) g (q.set m' ch)) := Lib.hid (HR8.out.set hmq ch)
      have HOQ : Hid (Own w (W.setCell ⟨g, m', none⟩ (.int .u8 (ch.toNat : Int))) [(gl, strV ls)]) := Lib.hid (by
        refine Own.far HO2.out (grown_wr (Wr.cell W ⟨g, m', none⟩ _)) (fun r e => by have e : g = r := Option.some.inj e; have := HGG.out; omega) ?_
        intro j g' vs e1 e2
        have e2 : g = g' := Option.some.inj e2
        have hgg := HGG.out
        match j with
        | 0 => (have h3 : gl = g' := by simp at e1; exact e1.1); omega
        | j + 1 => simp at e1)
      obtain ⟨q', hq'⟩ : ∃ q', q.set m' ch = q' := ⟨_, rfl⟩
      obtain ⟨l2, hl2⟩ : ∃ l2, ls.set k q' = l2 := ⟨_, rfl⟩
      rw [hq'] at HRQ
      have HLO2 : Hid (LnOk n l2) := Lib.hid (by rw [← hl2, ← hq', ← HQ.out]; exact HLO.out.set hkn ch)
      have HSL : Hid ((strV ls).set k (.string (S q')) = strV l2) := Lib.hid (by rw [strV_put, hl2])
      have hc9 := run_conv (W.setCell ⟨g, m', none⟩ (.int .u8 (ch.toNat : Int))) _ _ _ HRQ.out.see X.size cap (by rw [← hq', List.length_set]; exact HXL.out)
      have hkL : k < (strV ls).length := by rw [strV_len, HLO.out.1]; exact hkn
      clear hl2 hq'
      go_wp2_with (first
        | (go_at_call 26; (with_reducible refine (HMK.out _).mono ?_); rintro e w' ⟨rfl, hw⟩; rw [hw]; clear hw)
        | (go_at_call 26; (with_reducible refine (HMS.out _).mono ?_); rintro e w' ⟨rfl, hw⟩; rw [hw]; clear hw)
        | (go_at_call 26; (with_reducible refine (HMR.out _).mono ?_); rintro e w' ⟨rfl, hw⟩; rw [hw]; clear hw)
        | ((with_reducible refine at_store_ (i := 71) ?_); refine wpList_store_at rfl 9 (.tmp 71) (.tmp 70) rfl gl k (strV ls) (.string (S q')) rfl rfl (HOQ.out.row (i := 0) rfl) hkL rfl rfl size_st ?_; intro w9 hw hr; rw [HSL.out] at hr; have HO9 : Hid (Own w w9 [(gl, strV l2)]) := Lib.hid (HOQ.out.set (i := 0) rfl hw hr); clear hw hr))
      go_roundw
      case rel => exact ⟨j + 1, l2, by omega, by go_num, HLO2, HO9⟩
      case measure => simp [intOf]; omega
    · have eV : decide ((j : Int) < (n2 : Int)) = false := by simp; omega
      obtain ⟨cc, hcc⟩ : ∃ a : Int, 0 = a := ⟨_, rfl⟩
      have HCC : Hid (-9223372036854775808 ≤ cc ∧ cc ≤ 9223372036854775807) := Lib.hid (by rw [← hcc]; decide)
      have HC0 := Lib.hid hcc
      clear hcc
      have ca2 := (HO2.out.bl.cell (p := ⟨ba, oa + j, none⟩) HCA.out.1).trans HCA.out.2
      obtain ⟨r, hr⟩ : ∃ r : Nat, cc % 39 = r := ⟨(cc % 39).toNat, by omega⟩
      have hr39 : r < 39 := by omega
      have HMR : Hid (∀ w, Calls Tryz.prog 26 #[.int .i64 0, .int .i64 39] w fun e w' => e = .returned (.int .i64 (r : Int)) ∧ w' = w) := Lib.hid (fun w => by
        rw [show (0 : Int) = cc from HC0.out]
        have := made_mod cc 39 HCC.out.1 HCC.out.2 (by omega) (by omega) w
        rw [hr] at this; exact this)
      have hshr : -9223372036854775808 ≤ av / 16 ∧ av / 16 ≤ 9223372036854775807 := by omega
      obtain ⟨m', hm'⟩ : ∃ k : Nat, (av / 16) % (X.size : Int) = k := ⟨((av / 16) % (X.size : Int)).toNat, by have := Int.emod_nonneg (av / 16) (show (X.size : Int) ≠ 0 by omega); omega⟩
      have hmX : m' < X.size := by have := Int.emod_lt_of_pos (av / 16) (show (0 : Int) < (X.size : Int) by omega); omega
      have HMS : Hid (∀ w, Calls Tryz.prog 26 #[.int .i64 (av / 16), .int .i64 (X.size : Int)] w fun e w' => e = .returned (.int .i64 (m' : Int)) ∧ w' = w) := Lib.hid (fun w => by
        have := made_mod (av / 16) X.size hshr.1 hshr.2 (by omega) (by omega) w
        rw [hm'] at this; exact this)
      clear hm'
      have hmq : m' < q.length := by rw [← HXL.out]; exact hmX
      have fm := HR8.out.free hmq
      obtain ⟨bq, hbq⟩ : ∃ b : Nat, (q[m']'hmq).toNat = b := ⟨_, rfl⟩
      have cm := HR8.out.cell hmq
      rw [hbq] at cm
      clear hbq
      have jmX : (m' : Int) < (X.size : Int) := by omega
      clear hr
      go_upto_region 13 with (first
        | (go_at_call 26; (with_reducible refine (HMK.out _).mono ?_); rintro e w' ⟨rfl, hw⟩; rw [hw]; clear hw)
        | (go_at_call 26; (with_reducible refine (HMS.out _).mono ?_); rintro e w' ⟨rfl, hw⟩; rw [hw]; clear hw)
        | (go_at_call 26; (with_reducible refine (HMR.out _).mono ?_); rintro e w' ⟨rfl, hw⟩; rw [hw]; clear hw))
      refine ch_any (P := fun u => Code.wp _ _ _ _ u) W g m' _ ?_
      intro ch
      have HRQ : Hid (Row8 (W.setCell ⟨g, m', none⟩ (.int .u8 (ch.toNat : Int))) g (q.set m' ch)) := Lib.hid (HR8.out.set hmq ch)
      have HOQ : Hid (Own w (W.setCell ⟨g, m', none⟩ (.int .u8 (ch.toNat : Int))) [(gl, strV ls)]) := Lib.hid (by
        refine Own.far HO2.out (grown_wr (Wr.cell W ⟨g, m', none⟩ _)) (fun r e => by have e : g = r := Option.some.inj e; have := HGG.out; omega) ?_
        intro j g' vs e1 e2
        have e2 : g = g' := Option.some.inj e2
        have hgg := HGG.out
        match j with
        | 0 => (have h3 : gl = g' := by simp at e1; exact e1.1); omega
        | j + 1 => simp at e1)
      obtain ⟨q', hq'⟩ : ∃ q', q.set m' ch = q' := ⟨_, rfl⟩
      obtain ⟨l2, hl2⟩ : ∃ l2, ls.set k q' = l2 := ⟨_, rfl⟩
      rw [hq'] at HRQ
      have HLO2 : Hid (LnOk n l2) := Lib.hid (by rw [← hl2, ← hq', ← HQ.out]; exact HLO.out.set hkn ch)
      have HSL : Hid ((strV ls).set k (.string (S q')) = strV l2) := Lib.hid (by rw [strV_put, hl2])
      have hc9 := run_conv (W.setCell ⟨g, m', none⟩ (.int .u8 (ch.toNat : Int))) _ _ _ HRQ.out.see X.size cap (by rw [← hq', List.length_set]; exact HXL.out)
      have hkL : k < (strV ls).length := by rw [strV_len, HLO.out.1]; exact hkn
      clear hl2 hq'
      go_wp2_with (first
        | (go_at_call 26; (with_reducible refine (HMK.out _).mono ?_); rintro e w' ⟨rfl, hw⟩; rw [hw]; clear hw)
        | (go_at_call 26; (with_reducible refine (HMS.out _).mono ?_); rintro e w' ⟨rfl, hw⟩; rw [hw]; clear hw)
        | (go_at_call 26; (with_reducible refine (HMR.out _).mono ?_); rintro e w' ⟨rfl, hw⟩; rw [hw]; clear hw)
        | ((with_reducible refine at_store_ (i := 71) ?_); refine wpList_store_at rfl 9 (.tmp 71) (.tmp 70) rfl gl k (strV ls) (.string (S q')) rfl rfl (HOQ.out.row (i := 0) rfl) hkL rfl rfl size_st ?_; intro w9 hw hr; rw [HSL.out] at hr; have HO9 : Hid (Own w w9 [(gl, strV l2)]) := Lib.hid (HOQ.out.set (i := 0) rfl hw hr); clear hw hr))
      go_roundw
      case rel => exact ⟨j + 1, l2, by omega, by go_num, HLO2, HO9⟩
      case measure => simp [intOf]; omega
end Go.Proofs.YtdlcoilpkelbaaaGreatDoor
