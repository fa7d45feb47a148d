/-
  What is proved here: what the reference's Valid, Of and Parts of the third layer return, for every number: the same as the program's.
-/
import Derived.Test.YtdlcoilpkelbaaaGreatDoorDpa
namespace Go.Proofs.YtdlcoilpkelbaaaGreatDoor
open Go.RowKit

theorem rd_valid (n : Int) (w : World) : Calls Tryz.prog 123 #[.int .i64 n] w fun e w' => e = .returned (.bool (dayB n)) ∧ w' = w := by
  by_cases h : 0 ≤ n
  · have d : decide (0 ≤ n) = true := by simpa using h
    have hv : dayB n = decide (n ≤ 73048) := by unfold dayB; rw [d, Bool.true_and]
    rw [hv]; clear h hv
    go_enter Tryz.func123, Tryz.ntmps123
    go_wp2
    go_ret
    exact ⟨rfl, rfl⟩
  · have d : decide (0 ≤ n) = false := by simpa using h
    have hv : dayB n = false := by unfold dayB; rw [d, Bool.false_and]
    rw [hv]; clear h hv
    go_enter Tryz.func123, Tryz.ntmps123
    go_wp2
    go_ret
    exact ⟨rfl, rfl⟩

theorem lpB_ref (y : Int) : lpB y = ((y % 4 == 0) && (y != 1900)) := by
  unfold lpB Cal.lp
  rw [Bool.eq_iff_iff]
  split
  · simp; omega
  · simp; omega
theorem r_leap (y : Int) (w : World) (a : 1900 ≤ y) (b : y ≤ 2099) :
    Calls Tryz.prog 118 #[.int .i64 y] w fun e w' => e = .returned (.bool (lpB y)) ∧ w' = w := by
  have hv := lpB_ref y
  by_cases h4 : y % 4 = 0
  · have d4 : (y % 4 == 0) = true := by simpa using h4
    rw [hv, d4, Bool.true_and]
    clear hv h4
    go_enter Tryz.func118, Tryz.ntmps118
    go_wp2
    go_ret
    exact ⟨rfl, rfl⟩
  · have d4 : (y % 4 == 0) = false := by simpa using h4
    rw [hv, d4, Bool.false_and]
    clear hv h4
    go_enter Tryz.func118, Tryz.ntmps118
    go_wp2
    go_ret
    exact ⟨rfl, rfl⟩

def IsInt (v : Int) (e : Ending) : Prop := e = .returned (.int .i64 v)
theorem dim_30 {y m : Int} (h : m = 4 ∨ m = 6 ∨ m = 9 ∨ m = 11) : IsInt (Cal.dim y m) (.returned (.int .i64 30)) := by
  unfold IsInt Cal.dim; rw [if_neg (by omega), if_pos h]
theorem dim_31 {y m : Int} (h : m ≠ 2) (h2 : ¬ (m = 4 ∨ m = 6 ∨ m = 9 ∨ m = 11)) : IsInt (Cal.dim y m) (.returned (.int .i64 31)) := by
  unfold IsInt Cal.dim; rw [if_neg h, if_neg h2]
theorem dim_29 {y m : Int} (h : m = 2) (h2 : lpB y = true) : IsInt (Cal.dim y m) (.returned (.int .i64 29)) := by
  unfold IsInt Cal.dim; rw [if_pos h]; simp [lpB] at h2; rw [h2]; rfl
theorem dim_28 {y m : Int} (h : m = 2) (h2 : lpB y = false) : IsInt (Cal.dim y m) (.returned (.int .i64 28)) := by
  have := Cal.lp_01 y
  unfold IsInt Cal.dim; rw [if_pos h]; simp [lpB] at h2; rw [show Cal.lp y = 0 by omega]; rfl

set_option maxHeartbeats 1000000 in
theorem r_long_ (y m : Int) (w : World) (a : 1900 ≤ y) (b : y ≤ 2099) (m1 : 1 ≤ m) (m2 : m ≤ 12) :
    Calls Tryz.prog 117 #[.int .i64 y, .int .i64 m] w fun e w' => IsInt (Cal.dim y m) e ∧ w' = w := by
  by_cases h3 : m = 4 ∨ m = 6 ∨ m = 9 ∨ m = 11
  · have H := @dim_30 y m h3
    rcases h3 with rfl | rfl | rfl | rfl <;>
    · go_enter Tryz.func117, Tryz.ntmps117
      go_wp2
      go_ret
      exact ⟨H, rfl⟩
  · have d4 : (m == 4) = false := by simp; omega
    have d6 : (m == 6) = false := by simp; omega
    have d9 : (m == 9) = false := by simp; omega
    have d11 : (m == 11) = false := by simp; omega
    by_cases h2 : m = 2
    · have d2 : (m == 2) = true := by simp; omega
      by_cases hl : lpB y = true
      · have H := @dim_29 y m h2 hl
        clear h3 h2
        go_enter Tryz.func117, Tryz.ntmps117
        go_wp2_with (go_at_call 118; refine (r_leap _ _ a b).mono ?_; rintro e w' ⟨rfl, rfl⟩)
        go_ret
        exact ⟨H, rfl⟩
      · have hl : lpB y = false := by simpa using hl
        have H := @dim_28 y m h2 hl
        clear h3 h2
        go_enter Tryz.func117, Tryz.ntmps117
        go_wp2_with (go_at_call 118; refine (r_leap _ _ a b).mono ?_; rintro e w' ⟨rfl, rfl⟩)
        go_ret
        exact ⟨H, rfl⟩
    · have d2 : (m == 2) = false := by simpa using h2
      have H := @dim_31 y m h2 h3
      clear h3 h2
      go_enter Tryz.func117, Tryz.ntmps117
      go_wp2
      go_ret
      exact ⟨H, rfl⟩
theorem r_long (y m : Int) (w : World) (a : 1900 ≤ y) (b : y ≤ 2099) (m1 : 1 ≤ m) (m2 : m ≤ 12) :
    Calls Tryz.prog 117 #[.int .i64 y, .int .i64 m] w fun e w' => e = .returned (.int .i64 (Cal.dim y m)) ∧ w' = w := r_long_ y m w a b m1 m2

set_option maxHeartbeats 1000000 in
theorem r_of (y m d : Int) (w : World) : Calls Tryz.prog 93 #[.int .i64 y, .int .i64 m, .int .i64 d] w fun e w' => e = .returned (.tuple #[.int .i64 (ofV y m d), .int .i64 (ofE y m d)]) ∧ w' = w := by
  by_cases hB : dateB y m d = true
  · obtain ⟨v1, v2⟩ := of_yes hB
    rw [v1, v2]; clear v1 v2
    obtain ⟨h1, h2, h3, h4, h5, h6⟩ := dateB_yes hB
    have db := Cal.dim_bd y m
    have c1 := Lib.hid (Cal.cum_one y)
    have f1 := Lib.hid Cal.ys_first
    go_enter Tryz.func93, Tryz.ntmps93
    go_wp2_with (go_at_call 117; refine (r_long _ _ _ h1 h2 h3 h4).mono ?_; rintro e w' ⟨rfl, rfl⟩)
    go_loop [8, 9] (fun t i => ∃ z : Int, 1900 ≤ z ∧ z ≤ y ∧ i = .int .i64 z ∧ t = .int .i64 (Cal.ys z + d - 1)) (fun _ i => (y - intOf i).toNat)
    case atStart => exact ⟨1900, by omega, by omega, rfl, by rw [f1.out]; go_num⟩
    case round =>
      obtain ⟨z, z1, z2, rfl, rfl⟩ := hrel
      have zb := Cal.ys_bd z z1 (by omega)
      by_cases hlt : z < y
      · have zs := Lib.hid (Cal.ys_succ z z1 (by omega))
        have zl := Cal.lp_01 z
        by_cases hl : lpB z = true
        · have hl1 : Cal.lp z = 1 := by simpa [lpB] using hl
          have HL := Lib.hid hl1
          clear hl1
          go_wp2_with (go_at_call 118; refine (r_leap _ _ z1 (by omega)).mono ?_; rintro e w' ⟨rfl, rfl⟩)
          go_round
          case rel => exact ⟨z + 1, by omega, by omega, rfl, by rw [zs.out, HL.out]; go_num⟩
          case measure => simp [intOf]; omega
        · have hl : lpB z = false := by simpa using hl
          have hl1 : Cal.lp z = 0 := by simp [lpB] at hl; omega
          have HL := Lib.hid hl1
          clear hl1
          go_wp2_with (go_at_call 118; refine (r_leap _ _ z1 (by omega)).mono ?_; rintro e w' ⟨rfl, rfl⟩)
          go_round
          case rel => exact ⟨z + 1, by omega, by omega, rfl, by rw [zs.out, HL.out]; go_num⟩
          case measure => simp [intOf]; omega
      · obtain rfl : z = y := by omega
        go_wp2
        go_loop [8, 10] (fun t i => ∃ k : Int, 1 ≤ k ∧ k ≤ m ∧ i = .int .i64 k ∧ t = .int .i64 (Cal.ys z + d - 1 + Cal.cum z k)) (fun _ i => (m - intOf i).toNat)
        case atStart => exact ⟨1, by omega, by omega, rfl, by rw [c1.out]; go_num⟩
        case round =>
          obtain ⟨k, k1, k2, rfl, rfl⟩ := hrel
          have cb := Cal.cum_bd z k k1 (by omega)
          have dk := Cal.dim_bd z k
          have cs := Lib.hid (Cal.cum_succ z k k1 (by omega))
          by_cases hlt : k < m
          · go_wp2_with (go_at_call 117; refine (r_long _ _ _ h1 h2 k1 (by omega)).mono ?_; rintro e w' ⟨rfl, rfl⟩)
            go_round
            case rel => exact ⟨k + 1, by omega, by omega, rfl, by rw [cs.out]; go_num⟩
            case measure => simp [intOf]; omega
          · obtain rfl : k = m := by omega
            go_wp2
            go_ret2
            exact ⟨ret2_int (by unfold Cal.num; omega) rfl, rfl⟩
  · have hB : dateB y m d = false := by simpa using hB
    obtain ⟨v1, v2⟩ := of_no hB
    rw [v1, v2]; clear v1 v2
    have hn : ¬ (1900 ≤ y ∧ y ≤ 2099 ∧ 1 ≤ m ∧ m ≤ 12 ∧ 1 ≤ d ∧ d ≤ Cal.dim y m) := by simpa [dateB] using hB
    by_cases h1 : y < 1900
    · have d1 : decide (y < 1900) = true := by simpa using h1
      clear hn h1
      go_enter Tryz.func93, Tryz.ntmps93
      go_wp2
      go_ret2
      exact ⟨rfl, rfl⟩
    · have d1 : decide (y < 1900) = false := by simpa using h1
      by_cases h2 : 2099 < y
      · have d2 : decide (2099 < y) = true := by simpa using h2
        clear hn h1 h2
        go_enter Tryz.func93, Tryz.ntmps93
        go_wp2
        go_ret2
        exact ⟨rfl, rfl⟩
      · have d2 : decide (2099 < y) = false := by simpa using h2
        by_cases h3 : m < 1
        · have d3 : decide (m < 1) = true := by simpa using h3
          clear hn h1 h2
          go_enter Tryz.func93, Tryz.ntmps93
          go_wp2
          go_ret2
          exact ⟨rfl, rfl⟩
        · have d3 : decide (m < 1) = false := by simpa using h3
          by_cases h4 : 12 < m
          · have d4 : decide (12 < m) = true := by simpa using h4
            clear hn h1 h2 h3
            go_enter Tryz.func93, Tryz.ntmps93
            go_wp2
            go_ret2
            exact ⟨rfl, rfl⟩
          · have d4 : decide (12 < m) = false := by simpa using h4
            by_cases h5 : d < 1
            · have d5 : decide (d < 1) = true := by simpa using h5
              clear hn h1 h2 h3 h4
              go_enter Tryz.func93, Tryz.ntmps93
              go_wp2
              go_ret2
              exact ⟨rfl, rfl⟩
            · have d5 : decide (d < 1) = false := by simpa using h5
              have h6 : Cal.dim y m < d := by omega
              have q1 : 1900 ≤ y := by omega
              have q2 : y ≤ 2099 := by omega
              have q3 : 1 ≤ m := by omega
              have q4 : m ≤ 12 := by omega
              clear hn h1 h2 h3 h4 h5
              go_enter Tryz.func93, Tryz.ntmps93
              go_wp2_with (go_at_call 117; refine (r_long _ _ _ q1 q2 q3 q4).mono ?_; rintro e w' ⟨rfl, rfl⟩)
              go_ret2
              exact ⟨rfl, rfl⟩

set_option maxHeartbeats 2000000 in
theorem r_parts (n : Int) (w : World) : Calls Tryz.prog 102 #[.int .i64 n] w fun e w' => PEnd n e ∧ w' = w := by
  by_cases hB : dayB n = true
  · obtain ⟨n1, n2⟩ := dayB_yes hB
    have c1 := Lib.hid (Cal.cum_one 1900)
    have f1 := Lib.hid Cal.ys_first
    go_enter Tryz.func102, Tryz.ntmps102
    go_wp2_with (go_at_call 123; refine (rd_valid n w).mono ?_; rintro e w' ⟨rfl, rfl⟩)
    go_loop [0, 6, 7] (fun r y m => ∃ z k : Int, 1900 ≤ z ∧ z ≤ 2099 ∧ 1 ≤ k ∧ k ≤ 12 ∧ y = .int .i64 z ∧ m = .int .i64 k ∧ 0 ≤ n - Cal.ys z - Cal.cum z k ∧ r = .int .i64 (n - Cal.ys z - Cal.cum z k)) (fun r _ _ => (intOf r).toNat)
    case atStart => exact ⟨1900, 1, by omega, by omega, by omega, by omega, rfl, rfl, by rw [c1.out, f1.out]; omega, by rw [c1.out, f1.out]; go_num⟩
    case round =>
      obtain ⟨z, k, z1, z2, k1, k2, rfl, rfl, r0, rfl⟩ := hrel
      have zb := Cal.ys_bd z z1 (by omega)
      have cb := Cal.cum_bd z k k1 k2
      have db := Cal.dim_bd z k
      have cs := Lib.hid (Cal.cum_succ z k k1 k2)
      have ce := Lib.hid (Cal.cum_end z)
      have zs := Lib.hid (Cal.ys_succ z z1 z2)
      by_cases hlt : n - Cal.ys z - Cal.cum z k < Cal.dim z k
      · go_wp2_with (go_at_call 117; refine (r_long _ _ _ z1 z2 k1 k2).mono ?_; rintro e w' ⟨rfl, rfl⟩)
        exact bodyPost_ret (v := .tuple #[.int .i64 z, .int .i64 k, .int .i64 (n - Cal.ys z - Cal.cum z k + 1), .int .i64 0]) (by simp [results, Tryz.results102, go_sem]) rfl ⟨p_end hB z1 z2 k1 k2 rfl r0 hlt, rfl⟩
      · by_cases hk : k < 12
        · go_wp2_with (go_at_call 117; refine (r_long _ _ _ z1 z2 k1 k2).mono ?_; rintro e w' ⟨rfl, rfl⟩)
          go_round
          case rel => exact ⟨z, k + 1, z1, z2, by omega, by omega, rfl, rfl, by rw [cs.out]; omega, by rw [cs.out]; go_num⟩
          case measure => simp [intOf]; omega
        · obtain rfl : k = 12 := by omega
          have t1 : Cal.ys (z + 1) = Cal.ys z + Cal.cum z 12 + Cal.dim z 12 := by
            have a := cs.out
            have b := ce.out
            have c := zs.out
            rw [show (12 : Int) + 1 = 13 from rfl] at a
            omega
          have z3 : z < 2099 := by
            have h := Cal.ys_end
            by_cases e : z = 2099
            · subst e; rw [show (2099 : Int) + 1 = 2100 from rfl] at t1; omega
            · omega
          have T1 := Lib.hid t1
          have T2 := Lib.hid (Cal.cum_one (z + 1))
          clear t1
          go_wp2_with (go_at_call 117; refine (r_long _ _ _ z1 z2 k1 k2).mono ?_; rintro e w' ⟨rfl, rfl⟩)
          go_round
          case rel => exact ⟨z + 1, 1, by omega, by omega, by omega, by omega, rfl, rfl, by rw [T1.out, T2.out]; omega, by rw [T1.out, T2.out]; go_num⟩
          case measure => simp [intOf]; omega
  · have hB : dayB n = false := by simpa using hB
    go_enter Tryz.func102, Tryz.ntmps102
    go_wp2_with (go_at_call 123; refine (rd_valid n w).mono ?_; rintro e w' ⟨rfl, rfl⟩)
    exact bodyPost_ret (v := .tuple #[.int .i64 0, .int .i64 0, .int .i64 0, .int .i64 8]) (by simp [results, Tryz.results102, go_sem]) rfl ⟨p_bad hB, rfl⟩
end Go.Proofs.YtdlcoilpkelbaaaGreatDoor
