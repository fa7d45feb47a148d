/-
  What is proved here: what the reference's times answers for two bytes, and what its Substitute answers.
-/
import Derived.Test.YtddobbigpoplpaaRows
import Derived.Test.YtddobbigpoplpaaNc
namespace Go.Proofs.Ytddobbigpoplpaa
open Go.RowKit
set_option linter.unusedVariables false

set_option maxHeartbeats 1000000 in
theorem ref_times (a b : UInt8) (w : World) : Calls Try.prog 45 #[.int .i64 (a.toNat : Int), .int .i64 (b.toNat : Int)] w fun e w' => e = .returned (.int .i64 ((gm a b).toNat : Int)) ∧ w' = w := by
  have hbl := b.toNat_lt
  go_enter Try.func45, Try.ntmps45
  go_wp2
  go_loop [0, 5, 6] (fun x p i => ∃ k : Nat, k ≤ 8 ∧ i = .int .i64 (k : Int) ∧ x = .int .i64 ((aN a k).toNat : Int) ∧ p = .int .i64 ((gmP a b k).toNat : Int)) (fun _ _ i => 8 - (intOf i).toNat)
  case atStart => exact ⟨0, by decide, rfl, rfl, rfl⟩
  case round =>
    obtain ⟨k, hk, rfl, rfl, rfl⟩ := hrel
    by_cases h8 : k < 8
    · have hv := bit_val b k h8
      obtain ⟨c, hc⟩ : ∃ c, c = aN a k := ⟨_, rfl⟩
      obtain ⟨p, hp⟩ : ∃ p, p = gmP a b k := ⟨_, rfl⟩
      rw [← hc, ← hp]
      have hcl := c.toNat_lt
      have HC := Lib.hid (show c = aN a k ∧ p = gmP a b k from ⟨hc, hp⟩)
      clear hc hp
      have hg : Hid (gmP a b (k + 1) = if b.toNat / 2 ^ k % 2 = 1 then p ^^^ c else p) := Lib.hid (by rw [HC.out.1, HC.out.2]; rfl)
      have ha : Hid (aN a (k + 1) = dbl c) := Lib.hid (by rw [HC.out.1]; rfl)
      by_cases h1 : b.toNat / 2 ^ k % 2 = 1
      · have G := Lib.hid (show gmP a b (k + 1) = p ^^^ c by rw [hg.out, if_pos h1])
        rw [h1] at hv
        clear h1 hg HC
        by_cases h128 : c.toNat < 128
        · have hd := Lib.hid (dbl_lo' c h128)
          have d1 : decide ((255 : Int) < (c.toNat : Int) * 2) = false := by simp; omega
          go_wp2
          go_round
          case rel => exact ⟨k + 1, by omega, by go_num, by rw [ha.out, hd.out], by rw [G.out, i_xor]⟩
          case measure => simp [intOf]; omega
        · have hd := Lib.hid (dbl_hi' c h128)
          have d1 : decide ((255 : Int) < (c.toNat : Int) * 2) = true := by simp; omega
          go_wp2
          go_round
          case rel => exact ⟨k + 1, by omega, by go_num, by rw [ha.out, hd.out], by rw [G.out, i_xor]⟩
          case measure => simp [intOf]; omega
      · have G := Lib.hid (show gmP a b (k + 1) = p by rw [hg.out, if_neg h1])
        have h0 : b.toNat / 2 ^ k % 2 = 0 := by omega
        rw [h0] at hv
        clear h1 h0 hg HC
        by_cases h128 : c.toNat < 128
        · have hd := Lib.hid (dbl_lo' c h128)
          have d1 : decide ((255 : Int) < (c.toNat : Int) * 2) = false := by simp; omega
          go_wp2
          go_round
          case rel => exact ⟨k + 1, by omega, by go_num, by rw [ha.out, hd.out], by rw [G.out]⟩
          case measure => simp [intOf]; omega
        · have hd := Lib.hid (dbl_hi' c h128)
          have d1 : decide ((255 : Int) < (c.toNat : Int) * 2) = true := by simp; omega
          go_wp2
          go_round
          case rel => exact ⟨k + 1, by omega, by go_num, by rw [ha.out, hd.out], by rw [G.out]⟩
          case measure => simp [intOf]; omega
    · obtain rfl : k = 8 := by omega
      go_wp2
      go_ret
      exact ⟨rfl, rfl⟩

set_option maxRecDepth 40000 in
set_option maxHeartbeats 1000000 in
theorem ref_subst (x : UInt8) (w : World) : Calls Try.prog 16 #[.int .i64 (x.toNat : Int)] w fun e w' => e = .returned (.int .i64 ((sb.getD x.toNat 0).toNat : Int)) ∧ w' = w := by
  have hx := x.toNat_lt
  have d1 : decide ((x.toNat : Int) < 0) = false := by simp
  have d2 : decide ((255 : Int) < (x.toNat : Int)) = false := by simp; omega
  go_enter Try.func16, Try.ntmps16
  go_wp2
  go_loop [3, 4] (fun p i => ∃ k : Nat, k ≤ 254 ∧ i = .int .i64 (k : Int) ∧ p = .int .i64 ((pwN x k).toNat : Int)) (fun _ i => 254 - (intOf i).toNat)
  case atStart => exact ⟨0, by decide, rfl, rfl⟩
  case round =>
    obtain ⟨k, hk, rfl, rfl⟩ := hrel
    by_cases h254 : k < 254
    · go_wp2_with (go_at_call 45; (with_reducible refine (ref_times _ _ _).mono ?_); rintro e w' ⟨rfl, rfl⟩)
      go_round
      case rel => exact ⟨k + 1, by omega, by go_num, rfl⟩
      case measure => simp [intOf]; omega
    · obtain rfl : k = 254 := by omega
      obtain ⟨q, hq⟩ : ∃ q, q = pwN x 254 := ⟨_, rfl⟩
      rw [← hq]
      have hql := q.toNat_lt
      have HQ := Lib.hid (show afI q.toNat 8 = ((sb.getD x.toNat 0).toNat : Int) by rw [hq]; exact subst_val x)
      clear h254 hk hq
      go_wp2
      go_loop [5, 6, 7] (fun o i _ => ∃ k : Nat, k ≤ 8 ∧ i = .int .i64 (k : Int) ∧ o = .int .i64 (afI q.toNat k)) (fun _ i _ => 8 - (intOf i).toNat)
      case atStart => exact ⟨0, by decide, rfl, rfl⟩
      case round =>
        obtain ⟨k, hk, rfl, ho⟩ := hrel
        obtain ⟨z, hz⟩ : ∃ z, z = afI q.toNat k := ⟨_, rfl⟩
        rw [← hz] at ho
        subst ho
        have HZ := Lib.hid hz
        clear hz
        by_cases h8 : k < 8
        · go_wp2
          go_round
          case rel => exact ⟨k + 1, by omega, by go_num, by rw [afI, ← HZ.out]; rfl⟩
          case measure => simp [intOf]; omega
        · obtain rfl : k = 8 := by omega
          go_wp2
          go_ret
          exact ⟨by show Ending.returned (.int .i64 z) = .returned (.int .i64 ((sb.getD x.toNat 0).toNat : Int)); rw [HZ.out, HQ.out], rfl⟩
theorem ref_subst_bad (n : Int) (w : World) (hn : n < 0 ∨ 256 ≤ n) : Calls Try.prog 16 #[.int .i64 n] w fun e w' => e = .returned (.int .i64 0) ∧ w' = w := by
  rcases hn with h | h
  · have hd1 : decide (n < 0) = true := by simpa using h
    go_enter Try.func16, Try.ntmps16
    go_wp2
    go_ret
    exact ⟨rfl, rfl⟩
  · have hd1 : decide (n < 0) = false := by simp; omega
    have hd2 : decide (255 < n) = true := by simp; omega
    go_enter Try.func16, Try.ntmps16
    go_wp2
    go_ret
    exact ⟨rfl, rfl⟩

end Go.Proofs.Ytddobbigpoplpaa
