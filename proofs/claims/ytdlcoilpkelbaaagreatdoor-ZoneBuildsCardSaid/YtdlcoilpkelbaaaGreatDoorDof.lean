/-
  What is proved here: what the program's Valid, isDate, Of and Parts return, for every number, where the table of the months lies in memory as the program lays it.
-/
import Derived.Test.YtdlcoilpkelbaaaGreatDoorDml
namespace Go.Proofs.YtdlcoilpkelbaaaGreatDoor
open Go.RowKit

def dayB (n : Int) : Bool := decide (0 ≤ n) && decide (n ≤ 73048)
theorem dayB_yes {n : Int} (h : dayB n = true) : 0 ≤ n ∧ n ≤ 73048 := by simpa [dayB] using h
theorem dayB_no {n : Int} (h : dayB n = false) : n < 0 ∨ 73048 < n := by
  by_cases h0 : 0 ≤ n
  · right; simpa [dayB, h0] using h
  · left; omega
theorem dayB_mk {n : Int} (a : 0 ≤ n) (b : n ≤ 73048) : dayB n = true := by simp [dayB, a, b]
def dateB (y m d : Int) : Bool := decide (1900 ≤ y ∧ y ≤ 2099 ∧ 1 ≤ m ∧ m ≤ 12 ∧ 1 ≤ d ∧ d ≤ Cal.dim y m)
theorem dateB_yes {y m d : Int} (h : dateB y m d = true) : 1900 ≤ y ∧ y ≤ 2099 ∧ 1 ≤ m ∧ m ≤ 12 ∧ 1 ≤ d ∧ d ≤ Cal.dim y m := by simpa [dateB] using h
theorem dateB_mk {y m d : Int} (h : 1900 ≤ y ∧ y ≤ 2099 ∧ 1 ≤ m ∧ m ≤ 12 ∧ 1 ≤ d ∧ d ≤ Cal.dim y m) : dateB y m d = true := by simpa [dateB] using h
theorem dateB_not {y m d : Int} (h : ¬ (1900 ≤ y ∧ y ≤ 2099 ∧ 1 ≤ m ∧ m ≤ 12 ∧ 1 ≤ d ∧ d ≤ Cal.dim y m)) : dateB y m d = false := by simpa [dateB] using h

set_option maxHeartbeats 1000000 in
theorem is_date (y m d : Int) (w : World) (ht : Tab w) : Calls Tryz.prog 127 #[.int .i64 y, .int .i64 m, .int .i64 d] w fun e w' => e = .returned (.bool (dateB y m d)) ∧ w' = w := by
  by_cases h1 : 1900 ≤ y
  · have d1 : decide (1900 ≤ y) = true := by simpa using h1
    by_cases h2 : y ≤ 2099
    · have d2 : decide (y ≤ 2099) = true := by simpa using h2
      by_cases h3 : 1 ≤ m
      · have d3 : decide (1 ≤ m) = true := by simpa using h3
        by_cases h4 : m ≤ 12
        · have d4 : decide (m ≤ 12) = true := by simpa using h4
          by_cases h5 : 1 ≤ d
          · have d5 : decide (1 ≤ d) = true := by simpa using h5
            have hv : dateB y m d = decide (d ≤ Cal.dim y m) := by unfold dateB; rw [Bool.eq_iff_iff]; simp; omega
            rw [hv]; clear hv
            go_enter Tryz.func127, Tryz.ntmps127
            go_wp2_with (go_at_call 129; refine (month_length _ _ _ ht h1 h2 h3 h4).mono ?_; rintro e w' ⟨rfl, rfl⟩)
            go_ret
            exact ⟨rfl, rfl⟩
          · have d5 : decide (1 ≤ d) = false := by simpa using h5
            rw [dateB_not (by omega)]
            clear h1 h2 h3 h4 h5 ht
            go_enter Tryz.func127, Tryz.ntmps127
            go_wp2
            go_ret
            exact ⟨rfl, rfl⟩
        · have d4 : decide (m ≤ 12) = false := by simpa using h4
          rw [dateB_not (by omega)]
          clear h1 h2 h3 h4 ht
          go_enter Tryz.func127, Tryz.ntmps127
          go_wp2
          go_ret
          exact ⟨rfl, rfl⟩
      · have d3 : decide (1 ≤ m) = false := by simpa using h3
        rw [dateB_not (by omega)]
        clear h1 h2 h3 ht
        go_enter Tryz.func127, Tryz.ntmps127
        go_wp2
        go_ret
        exact ⟨rfl, rfl⟩
    · have d2 : decide (y ≤ 2099) = false := by simpa using h2
      rw [dateB_not (by omega)]
      clear h1 h2 ht
      go_enter Tryz.func127, Tryz.ntmps127
      go_wp2
      go_ret
      exact ⟨rfl, rfl⟩
  · have d1 : decide (1900 ≤ y) = false := by simpa using h1
    rw [dateB_not (by omega)]
    clear h1 ht
    go_enter Tryz.func127, Tryz.ntmps127
    go_wp2
    go_ret
    exact ⟨rfl, rfl⟩

/-- what Of answers -/
def ofV (y m d : Int) : Int := if dateB y m d = true then Cal.num y m d else 0
def ofE (y m d : Int) : Int := if dateB y m d = true then 0 else 8
theorem of_yes {y m d : Int} (h : dateB y m d = true) : ofV y m d = Cal.num y m d ∧ ofE y m d = 0 := by simp [ofV, ofE, h]
theorem of_no {y m d : Int} (h : dateB y m d = false) : ofV y m d = 0 ∧ ofE y m d = 8 := by simp [ofV, ofE, h]

theorem ret2_int {a b c d : Int} (h : a = b) (g : c = d) : Ending.returned (.tuple #[.int .i64 a, .int .i64 c]) = .returned (.tuple #[.int .i64 b, .int .i64 d]) := by rw [h, g]

set_option maxHeartbeats 1000000 in
theorem day_of (y m d : Int) (w : World) (ht : Tab w) : Calls Tryz.prog 114 #[.int .i64 y, .int .i64 m, .int .i64 d] w fun e w' => e = .returned (.tuple #[.int .i64 (ofV y m d), .int .i64 (ofE y m d)]) ∧ w' = w := by
  by_cases hB : dateB y m d = true
  · obtain ⟨v1, v2⟩ := of_yes hB
    rw [v1, v2]; clear v1 v2
    obtain ⟨h1, h2, h3, h4, h5, h6⟩ := dateB_yes hB
    have yb := Cal.ys_bd y h1 (by omega)
    have db := Cal.dim_bd y m
    have c1 := Lib.hid (Cal.cum_one y)
    go_enter Tryz.func114, Tryz.ntmps114
    go_wp2_with (first
      | (go_at_call 127; refine (is_date _ _ _ _ ht).mono ?_; rintro e w' ⟨rfl, rfl⟩)
      | (go_at_call 128; refine (year_start _ _ h1 (by omega)).mono ?_; rintro e w' ⟨rfl, rfl⟩))
    go_loop [8, 9] (fun t i => ∃ k : Int, 1 ≤ k ∧ k ≤ m ∧ i = .int .i64 k ∧ t = .int .i64 (Cal.ys y + d - 1 + Cal.cum y k)) (fun _ i => (m - intOf i).toNat)
    case atStart => exact ⟨1, by omega, by omega, rfl, by rw [c1.out]; go_num⟩
    case round =>
      obtain ⟨k, k1, k2, rfl, rfl⟩ := hrel
      have cb := Cal.cum_bd y k k1 (by omega)
      have dk := Cal.dim_bd y k
      have cs := Lib.hid (Cal.cum_succ y k k1 (by omega))
      by_cases hlt : k < m
      · go_wp2_with (go_at_call 129; refine (month_length _ _ _ ht h1 h2 k1 (by omega)).mono ?_; rintro e w' ⟨rfl, rfl⟩)
        go_round
        case rel => exact ⟨k + 1, by omega, by omega, rfl, by rw [cs.out]; go_num⟩
        case measure => simp [intOf]; omega
      · obtain rfl : k = m := by omega
        go_wp2
        go_ret2
        exact ⟨ret2_int (by unfold Cal.num; omega) rfl, rfl⟩
  · have hB : dateB y m d = false := by simpa using hB
    obtain ⟨v1, v2⟩ := of_no hB
    rw [v1, v2]; clear v1 v2
    go_enter Tryz.func114, Tryz.ntmps114
    go_wp2_with (go_at_call 127; refine (is_date _ _ _ _ ht).mono ?_; rintro e w' ⟨rfl, rfl⟩)
    go_ret2
    exact ⟨rfl, rfl⟩
end Go.Proofs.YtdlcoilpkelbaaaGreatDoor
