/-
  What is proved here: what the reference's plain functions of the group return: residue, Secret, Pow, Near, Point; for all numbers in their ranges.
-/
import Derived.Test.YtaikoeoabgkglaaDoorGw
namespace Go.Proofs.YtaikoeoabgkglaaDoor
open Go.RowKit

theorem ref_residue (x : Int) (w : World) : Calls Tryd.prog 48 #[.int .i64 x] w fun e w' => e = .returned (.bool (resB x)) ∧ w = w' := by
  by_cases h : 1 ≤ x
  · have d : decide (1 ≤ x) = true := by simpa using h
    have hv : resB x = decide (x < 2147483579) := by unfold resB; rw [d, Bool.true_and]
    rw [hv]; clear h hv
    go_enter Tryd.func48, Tryd.ntmps48
    go_wp2
    go_ret
    exact ⟨rfl, rfl⟩
  · have d : decide (1 ≤ x) = false := by simpa using h
    have hv : resB x = false := by unfold resB; rw [d, Bool.false_and]
    rw [hv]; clear h hv
    go_enter Tryd.func48, Tryd.ntmps48
    go_wp2
    go_ret
    exact ⟨rfl, rfl⟩

/-- what the loop of the reference's power keeps -/
def QwR (x0 k0 q r y : Nat) : Prop := r < 2147483579 ∧ y < 2147483579 ∧ r * y ^ q % gP = x0 ^ k0 % gP
theorem QwR.start {x k : Nat} (h : x < 2147483579) : QwR x k k 1 x := ⟨by decide, h, by simp⟩
theorem QwR.step {x0 k0 q r y : Nat} (h : QwR x0 k0 q r y) (s : Nat) (hs : s = if q % 2 = 1 then muN r y else r) : QwR x0 k0 (q / 2) s (muN y y) := by
  obtain ⟨h1, h2, h3⟩ := h
  refine ⟨?_, muN_lt _ _, ?_⟩
  · rw [hs]; split
    · exact muN_lt _ _
    · exact h1
  · rw [hs, ← h3]
    exact pm_step gP r y q
theorem QwR.done {x0 k0 r y : Nat} (h : QwR x0 k0 0 r y) : r = pwN x0 k0 := by
  obtain ⟨h1, _, h3⟩ := h
  rw [Nat.pow_zero, Nat.mul_one, Nat.mod_eq_of_lt (b := gP) h1] at h3
  exact h3
theorem int_mu {a b : Nat} (ha : a < 2147483579) (hb : b < 2147483579) : Value.int .i64 ((wrap64 ((a : Int) * (b : Int))).tmod 2147483579) = .int .i64 ((muN a b : Nat) : Int) := by rw [mu_val a b ha hb]

set_option maxHeartbeats 1000000 in
theorem ref_pow_n (x k : Nat) (w : World) (hx : x < 2147483579) (hk : k < 4611686018427387904) :
    Calls Tryd.prog 30 #[.int .i64 (x : Int), .int .i64 (k : Int)] w fun e w' => e = .returned (.int .i64 ((pwN x k : Nat) : Int)) ∧ w = w' := by
  go_enter Tryd.func30, Tryd.ntmps30
  go_wp2
  go_loop [0, 1, 5] (fun s t r => ∃ q r0 y0 : Nat, q ≤ k ∧ t = .int .i64 (q : Int) ∧ r = .int .i64 (r0 : Int) ∧ s = .int .i64 (y0 : Int) ∧ Hid (QwR x k q r0 y0)) (fun _ t _ => (intOf t).toNat)
  case atStart => exact ⟨k, 1, x, Nat.le_refl _, rfl, rfl, rfl, Lib.hid (QwR.start hx)⟩
  case round =>
    obtain ⟨q, r0, y0, hq, rfl, rfl, rfl, HR⟩ := hrel
    have hr := HR.out.1
    have hy := HR.out.2.1
    by_cases hlt : 0 < q
    · by_cases hbit : q % 2 = 1
      · have HS := Lib.hid (HR.out.step (muN r0 y0) (by rw [if_pos hbit]))
        have hd : ((q : Int) % 2 == 1) = true := by simp; omega
        clear hbit HR
        go_wp2
        go_round
        case rel => exact ⟨q / 2, _, _, by omega, by go_num, int_mu hr hy, int_mu hy hy, HS⟩
        case measure => simp [intOf]; omega
      · have HS := Lib.hid (HR.out.step r0 (by rw [if_neg hbit]))
        have hd : ((q : Int) % 2 == 1) = false := by simp; omega
        clear hbit HR
        go_wp2
        go_round
        case rel => exact ⟨q / 2, _, _, by omega, by go_num, rfl, int_mu hy hy, HS⟩
        case measure => simp [intOf]; omega
    · go_wp2
      go_ret
      obtain rfl : q = 0 := by omega
      exact ⟨ret_i64 (by rw [HR.out.done]), rfl⟩
theorem ref_pow (x k : Int) (w : World) (h0 : 0 ≤ x) (hx : x < 2147483579) (hk0 : 0 ≤ k) (hk : k < 4611686018427387904) :
    Calls Tryd.prog 30 #[.int .i64 x, .int .i64 k] w fun e w' => e = .returned (.int .i64 (pwZ x k)) ∧ w = w' := by
  have h := ref_pow_n x.toNat k.toNat w (by omega) (by omega)
  rw [Int.toNat_of_nonneg h0, Int.toNat_of_nonneg hk0] at h
  exact h

/-- a secret that is made of any number, and an element -/
def nearZ (n : Int) : Int := 1 + n % 1073741788
theorem near_bd (n : Int) : 1 ≤ nearZ n ∧ nearZ n ≤ 1073741788 := by unfold nearZ; omega
theorem near_tmod (n : Int) : (n.tmod 1073741788 < 0 → n.tmod 1073741788 + 1073741788 = nearZ n - 1) ∧ (¬ n.tmod 1073741788 < 0 → n.tmod 1073741788 = nearZ n - 1) := by
  have h := Int.tmod_eq_emod (a := n) (b := 1073741788)
  unfold nearZ
  split at h <;> omega
theorem near_i64 (n : Int) : -1073741788 < n.tmod 1073741788 ∧ n.tmod 1073741788 < 1073741788 := by
  have h := near_tmod n
  have g := near_bd n
  have k := Int.tmod_eq_emod (a := n) (b := 1073741788)
  split at k <;> omega
theorem ref_near (n : Int) (w : World) : Calls Tryd.prog 10 #[.int .i64 n] w fun e w' => e = .returned (.int .i64 (nearZ n)) ∧ w = w' := by
  have H1 := Lib.hid (near_tmod n)
  have h2 := near_i64 n
  obtain ⟨h2a, h2b⟩ := h2
  by_cases hc : n.tmod 1073741788 < 0
  · have H3 := Lib.hid (H1.out.1 hc)
    go_enter Tryd.func10, Tryd.ntmps10
    go_wp2
    go_ret
    exact ⟨ret_i64 (by have := H3.out; omega), rfl⟩
  · have H3 := Lib.hid (H1.out.2 hc)
    go_enter Tryd.func10, Tryd.ntmps10
    go_wp2
    go_ret
    exact ⟨ret_i64 (by have := H3.out; omega), rfl⟩
def pointZ (n : Int) : Int := pwZ 4 (nearZ n)
theorem ref_point (n : Int) (w : World) : Calls Tryd.prog 15 #[.int .i64 n] w fun e w' => e = .returned (.int .i64 (pointZ n)) ∧ w = w' := by
  have hb := near_bd n
  obtain ⟨hb1, hb2⟩ := hb
  go_enter Tryd.func15, Tryd.ntmps15
  go_wp2_with fail
  with_reducible refine (ref_near n _).mono ?_
  rintro e w' ⟨rfl, rfl⟩
  go_wp2_with fail
  with_reducible refine (ref_pow 4 (nearZ n) _ (by decide) (by decide) (by omega) (by omega)).mono ?_
  rintro e w' ⟨rfl, rfl⟩
  go_wp2
  go_ret
  exact ⟨rfl, rfl⟩
end Go.Proofs.YtaikoeoabgkglaaDoor
