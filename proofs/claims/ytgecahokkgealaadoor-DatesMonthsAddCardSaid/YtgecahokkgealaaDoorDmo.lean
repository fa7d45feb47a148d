/-
  What is proved here: what the program's and the reference's Months return, for every two numbers, where the table of the months lies in memory as the program lays it.
-/
import Derived.Test.YtgecahokkgealaaDoorDrf
namespace Go.Proofs.YtgecahokkgealaaDoor
open Go.RowKit

/-- leap years, without an end -/
def lpG (y : Int) : Bool := (y % 4 == 0) && (y % 100 != 0 || y % 400 == 0)
theorem is_leapG (y : Int) (w : World) (a : 0 ≤ y) (b : y ≤ 9999) :
    Calls Tryd.prog 36 #[.int .i64 y] w fun e w' => e = .returned (.bool (lpG y)) ∧ w' = w := by
  have hv : lpG y = ((y % 4 == 0) && (y % 100 != 0 || y % 400 == 0)) := rfl
  by_cases h4 : y % 4 = 0
  · have d4 : (y % 4 == 0) = true := by simpa using h4
    by_cases h1 : y % 100 = 0
    · have d1 : (y % 100 != 0) = false := by simpa using h1
      rw [hv, d4, d1, Bool.true_and, Bool.false_or]
      clear hv h4 h1
      go_enter Tryd.func36, Tryd.ntmps36
      go_wp2
      go_ret
      exact ⟨rfl, rfl⟩
    · have d1 : (y % 100 != 0) = true := by simpa using h1
      rw [hv, d4, d1, Bool.true_and, Bool.true_or]
      clear hv h4 h1
      go_enter Tryd.func36, Tryd.ntmps36
      go_wp2
      go_ret
      exact ⟨rfl, rfl⟩
  · have d4 : (y % 4 == 0) = false := by simpa using h4
    rw [hv, d4, Bool.false_and]
    clear hv h4
    go_enter Tryd.func36, Tryd.ntmps36
    go_wp2
    go_ret
    exact ⟨rfl, rfl⟩
/-- the days of a month, in whatever year -/
def mlG (y m : Int) : Int := if m = 2 ∧ lpG y = true then 29 else tb (m.toNat - 1)
theorem mlG_bd (y m : Int) (a : 1 ≤ m) (b : m ≤ 12) : 28 ≤ mlG y m ∧ mlG y m ≤ 31 := by
  have := tb_bd (m.toNat - 1) (by omega)
  unfold mlG; split <;> omega
theorem mlG_dim {y m : Int} (a : 1900 ≤ y) (b : y ≤ 2099) (m1 : 1 ≤ m) (m2 : m ≤ 12) : mlG y m = Cal.dim y m := by
  rw [tb_dim y m m1 m2]
  have h1 : lpB y = lpG y := lpB_eq y a b
  have h2 := Cal.lp_01 y
  unfold mlG
  by_cases h : m = 2
  · subst h
    rw [if_pos rfl]
    by_cases hl : lpG y = true
    · have h3 : Cal.lp y = 1 := by rw [← h1] at hl; simpa [lpB] using hl
      rw [if_pos ⟨rfl, hl⟩, h3]; rfl
    · have h3 : Cal.lp y = 0 := by
        rw [← h1] at hl; simp [lpB] at hl; omega
      rw [if_neg (fun h => hl h.2), h3, Int.add_zero]
  · rw [if_neg h, if_neg (fun g => h g.1)]
theorem month_lengthG (y m : Int) (w : World) (ht : Tab w) (a : 0 ≤ y) (b : y ≤ 9999) (m1 : 1 ≤ m) (m2 : m ≤ 12) :
    Calls Tryd.prog 29 #[.int .i64 y, .int .i64 m] w fun e w' => e = .returned (.int .i64 (mlG y m)) ∧ w' = w := by
  have hc := ht.at_ m m1 m2
  have hb := tb_bd (m.toNat - 1) (by omega)
  clear ht
  by_cases h2 : m = 2
  · subst h2
    by_cases h : lpG y = true
    · have hv : mlG y 2 = 29 := by unfold mlG; rw [if_pos ⟨rfl, h⟩]
      rw [hv]
      clear hv
      have e : (2 : Int).toNat - 1 = 1 := by decide
      have e2 : tb 1 = 28 := rfl
      rw [e, e2] at hc hb
      clear e e2
      go_enter Tryd.func29, Tryd.ntmps29
      go_wp2_with (go_at_call 36; refine (is_leapG _ _ a b).mono ?_; rintro e w' ⟨rfl, rfl⟩)
      go_ret
      exact ⟨rfl, rfl⟩
    · have hv : mlG y 2 = 28 := by unfold mlG; rw [if_neg (fun g => h g.2)]; rfl
      have h : lpG y = false := by simpa using h
      rw [hv]
      clear hv
      have e : (2 : Int).toNat - 1 = 1 := by decide
      have e2 : tb 1 = 28 := rfl
      rw [e, e2] at hc hb
      clear e e2
      go_enter Tryd.func29, Tryd.ntmps29
      go_wp2_with (go_at_call 36; refine (is_leapG _ _ a b).mono ?_; rintro e w' ⟨rfl, rfl⟩)
      go_ret
      exact ⟨rfl, rfl⟩
  · have hv : mlG y m = tb (m.toNat - 1) := by unfold mlG; rw [if_neg (fun g => h2 g.1)]
    rw [hv]
    have d2 : (m == 2) = false := by simpa using h2
    clear hv h2
    go_enter Tryd.func29, Tryd.ntmps29
    go_wp2
    go_ret
    exact ⟨rfl, rfl⟩

/-- the months since January 1900; the day of the month some months later -/
def cnt (day n : Int) : Int := (pY day - 1900) * 12 + pM day - 1 + n
def cap_ (d l : Int) : Int := if l < d then l else d
/-- what Months answers -/
def mnV (day n : Int) : Int := if (-2400 ≤ n ∧ n ≤ 2400) ∧ dayB day = true ∧ 0 ≤ cnt day n ∧ cnt day n ≤ 2399 then
  Cal.num (1900 + cnt day n / 12) (cnt day n % 12 + 1) (cap_ (pD day) (Cal.dim (1900 + cnt day n / 12) (cnt day n % 12 + 1))) else 0
def mnE (day n : Int) : Int := if -2400 ≤ n ∧ n ≤ 2400 then (if dayB day = true ∧ 0 ≤ cnt day n ∧ cnt day n ≤ 2399 then 0 else 8) else 3
def MnEnd (day n : Int) (e : Ending) : Prop := e = .returned (.tuple #[.int .i64 (mnV day n), .int .i64 (mnE day n)])
theorem mn_range {day n : Int} (h : n < -2400 ∨ 2400 < n) : MnEnd day n (.returned (.tuple #[.int .i64 0, .int .i64 3])) := by
  have e1 : mnV day n = 0 := by unfold mnV; rw [if_neg (fun g => by omega)]
  have e2 : mnE day n = 3 := by unfold mnE; rw [if_neg (by omega)]
  unfold MnEnd; rw [e1, e2]
theorem mn_date {day n : Int} (a : -2400 ≤ n) (b : n ≤ 2400) (h : ¬ (dayB day = true ∧ 0 ≤ cnt day n ∧ cnt day n ≤ 2399)) : MnEnd day n (.returned (.tuple #[.int .i64 0, .int .i64 8])) := by
  have e1 : mnV day n = 0 := by unfold mnV; rw [if_neg (fun g => h g.2)]
  have e2 : mnE day n = 8 := by unfold mnE; rw [if_pos ⟨a, b⟩, if_neg h]
  unfold MnEnd; rw [e1, e2]
theorem cap_bd (d l : Int) (a : 1 ≤ d) (b : 1 ≤ l) : 1 ≤ cap_ d l ∧ cap_ d l ≤ l ∧ cap_ d l ≤ d := by unfold cap_; split <;> omega
theorem mn_ok {day n c d y m : Int} (hc : c = cnt day n) (hy : y = 1900 + c / 12) (hm : m = c % 12 + 1) (hd : d = cap_ (pD day) (Cal.dim y m)) (a : -2400 ≤ n) (b : n ≤ 2400) (h : dayB day = true) (h1 : 0 ≤ c) (h2 : c ≤ 2399) :
    MnEnd day n (.returned (.tuple #[.int .i64 (ofV y m d), .int .i64 (ofE y m d)])) := by
  subst hc
  have e1 : mnV day n = Cal.num y m d := by unfold mnV; rw [if_pos ⟨⟨a, b⟩, h, h1, h2⟩, ← hy, ← hm, ← hd]
  have e2 : mnE day n = 0 := by unfold mnE; rw [if_pos ⟨a, b⟩, if_pos ⟨h, h1, h2⟩]
  have hp := p_ok h
  have hb := Cal.dim_bd y m
  have hcb := cap_bd (pD day) (Cal.dim y m) (by omega) (by omega)
  obtain ⟨o1, o2⟩ := of_yes (y := y) (m := m) (d := d) (dateB_mk ⟨by omega, by omega, by omega, by omega, by omega, by omega⟩)
  unfold MnEnd; rw [e1, e2, o1, o2]

theorem mn_any {day n c d y m : Int} (hc : cnt day n = c) (hy : y = 1900 + c / 12) (hm : m = c % 12 + 1) (hd : d = cap_ (pD day) (mlG y m)) (a : -2400 ≤ n) (b : n ≤ 2400) (h : dayB day = true) (h1 : 0 ≤ c) :
    MnEnd day n (.returned (.tuple #[.int .i64 (ofV y m d), .int .i64 (ofE y m d)])) := by
  by_cases h2 : c ≤ 2399
  · exact mn_ok hc.symm hy hm (by rw [hd, mlG_dim (by omega) (by omega) (by omega) (by omega)]) a b h h1 h2
  · obtain ⟨o1, o2⟩ := of_no (y := y) (m := m) (d := d) (dateB_not (by omega))
    rw [o1, o2]
    exact mn_date a b (by rw [hc]; omega)
theorem cap_l {d l : Int} (h : l < d) : l = cap_ d l := by unfold cap_; rw [if_pos h]
theorem cap_r {d l : Int} (h : d ≤ l) : d = cap_ d l := by unfold cap_; rw [if_neg (by omega)]

set_option maxHeartbeats 2000000 in
theorem day_months (day n : Int) (w : World) (ht : Tab w) (lo : -9223372036854775808 ≤ n) (hi : n ≤ 9223372036854775807) : Calls Tryd.prog 22 #[.int .i64 day, .int .i64 n] w fun e w' => MnEnd day n e ∧ w' = w := by
  by_cases h1 : n < -2400
  · have H := @mn_range day n (.inl h1)
    have d1 : decide (n < -2400) = true := by simpa using h1
    clear h1
    go_enter Tryd.func22, Tryd.ntmps22
    go_wp2
    go_ret2
    exact ⟨H, rfl⟩
  · have d1 : decide (n < -2400) = false := by simpa using h1
    by_cases h2 : 2400 < n
    · have H := @mn_range day n (.inr h2)
      have d2 : decide (2400 < n) = true := by simpa using h2
      clear h1
      go_enter Tryd.func22, Tryd.ntmps22
      go_wp2
      go_ret2
      exact ⟨H, rfl⟩
    · have d2 : decide (2400 < n) = false := by simpa using h2
      have n1 : -2400 ≤ n := by omega
      have n2 : n ≤ 2400 := by omega
      clear h1 h2 lo hi
      by_cases hB : dayB day = true
      · obtain ⟨y1, y2, m1, m2, q1, q2, _, e0⟩ := p_ok hB
        have E0 := Lib.hid e0
        have db := Cal.dim_bd (pY day) (pM day)
        have hd : pD day ≤ 31 := by omega
        clear e0 q2 db
        have hcn : cnt day n = (pY day - 1900) * 12 + pM day - 1 + n := rfl
        have HC := Lib.hid hcn
        by_cases c0 : (pY day - 1900) * 12 + pM day - 1 + n < 0
        · have H := @mn_date day n n1 n2 (fun h => by rw [hcn] at h; omega)
          clear hcn
          go_enter Tryd.func22, Tryd.ntmps22
          go_wp2_with ((go_at_call 13; with_reducible refine (day_parts _ _ ht).mono ?_); rintro e w' ⟨he, rfl⟩; unfold PEnd at he; rw [E0.out] at he; subst he)
          go_ret2
          exact ⟨H, rfl⟩
        · have c1 : 0 ≤ (pY day - 1900) * 12 + pM day - 1 + n := by omega
          clear c0 hcn
          go_enter Tryd.func22, Tryd.ntmps22
          go_wp2_with fail
          refine (day_parts _ _ ht).mono ?_
          rintro e w' ⟨he, rfl⟩; unfold PEnd at he; rw [E0.out] at he; subst he
          go_wp2_with fail
          refine (month_lengthG _ _ _ ht (by omega) (by omega) (by omega) (by omega)).mono ?_
          rintro e w' ⟨rfl, rfl⟩
          go_wp2_with fail
          · skip
            refine (day_of _ _ _ _ ht).mono ?_
            rintro e w'' ⟨rfl, rfl⟩
            have H := mn_any HC.out rfl rfl (cap_l (by assumption)) n1 n2 hB c1
            go_wp2
            go_ret2
            exact ⟨H, rfl⟩
          · skip
            refine (day_of _ _ _ _ ht).mono ?_
            rintro e w'' ⟨rfl, rfl⟩
            have H := mn_any HC.out rfl rfl (cap_r (by assumption)) n1 n2 hB c1
            go_wp2
            go_ret2
            exact ⟨H, rfl⟩
      · have H := @mn_date day n n1 n2 (fun h => hB h.1)
        have hB : dayB day = false := by simpa using hB
        have E0 := Lib.hid (p_no hB).2.2.2
        go_enter Tryd.func22, Tryd.ntmps22
        go_wp2_with ((go_at_call 13; with_reducible refine (day_parts _ _ ht).mono ?_); rintro e w' ⟨he, rfl⟩; unfold PEnd at he; rw [E0.out] at he; subst he)
        go_ret2
        exact ⟨H, rfl⟩

set_option maxHeartbeats 2000000 in
theorem r_months (day n : Int) (w : World) (lo : -9223372036854775808 ≤ n) (hi : n ≤ 9223372036854775807) : Calls Tryd.prog 23 #[.int .i64 day, .int .i64 n] w fun e w' => MnEnd day n e ∧ w' = w := by
  by_cases h1 : n < -2400
  · have H := @mn_range day n (.inl h1)
    have d1 : decide (n < -2400) = true := by simpa using h1
    clear h1
    go_enter Tryd.func23, Tryd.ntmps23
    go_wp2
    go_ret2
    exact ⟨H, rfl⟩
  · have d1 : decide (n < -2400) = false := by simpa using h1
    by_cases h2 : 2400 < n
    · have H := @mn_range day n (.inr h2)
      have d2 : decide (2400 < n) = true := by simpa using h2
      clear h1
      go_enter Tryd.func23, Tryd.ntmps23
      go_wp2
      go_ret2
      exact ⟨H, rfl⟩
    · have d2 : decide (2400 < n) = false := by simpa using h2
      have n1 : -2400 ≤ n := by omega
      have n2 : n ≤ 2400 := by omega
      clear h1 h2 lo hi
      by_cases hB : dayB day = true
      · obtain ⟨y1, y2, m1, m2, q1, q2, _, e0⟩ := p_ok hB
        have E0 := Lib.hid e0
        have db := Cal.dim_bd (pY day) (pM day)
        have hd : pD day ≤ 31 := by omega
        clear e0 q2 db
        have hcn : cnt day n = (pY day - 1900) * 12 + pM day - 1 + n := rfl
        have hcm : (pY day - 1900) * 12 + pM day - 1 + n = 12 * (pY day - 1900) + pM day - 1 + n := by omega
        by_cases c0 : 12 * (pY day - 1900) + pM day - 1 + n < 0
        · have H := @mn_date day n n1 n2 (fun h => by rw [hcn] at h; omega)
          have d3 : decide (12 * (pY day - 1900) + pM day - 1 + n < 0) = true := by simpa using c0
          clear hcn hcm c0
          go_enter Tryd.func23, Tryd.ntmps23
          go_wp2_with ((go_at_call 14; with_reducible refine (r_parts _ _).mono ?_); rintro e w' ⟨he, rfl⟩; unfold PEnd at he; rw [E0.out] at he; subst he)
          go_ret2
          exact ⟨H, rfl⟩
        · have c1 : 0 ≤ 12 * (pY day - 1900) + pM day - 1 + n := by omega
          have d3 : decide (12 * (pY day - 1900) + pM day - 1 + n < 0) = false := by simpa using c0
          by_cases c2 : 2399 < 12 * (pY day - 1900) + pM day - 1 + n
          · have H := @mn_date day n n1 n2 (fun h => by rw [hcn] at h; omega)
            have d4 : decide (2399 < 12 * (pY day - 1900) + pM day - 1 + n) = true := by simpa using c2
            clear hcn hcm c0 c1 c2
            go_enter Tryd.func23, Tryd.ntmps23
            go_wp2_with ((go_at_call 14; with_reducible refine (r_parts _ _).mono ?_); rintro e w' ⟨he, rfl⟩; unfold PEnd at he; rw [E0.out] at he; subst he)
            go_ret2
            exact ⟨H, rfl⟩
          · have c3 : 12 * (pY day - 1900) + pM day - 1 + n ≤ 2399 := by omega
            have d4 : decide (2399 < 12 * (pY day - 1900) + pM day - 1 + n) = false := by simpa using c2
            have HC := Lib.hid (hcn.trans hcm)
            have db := Cal.dim_bd (1900 + (12 * (pY day - 1900) + pM day - 1 + n) / 12) ((12 * (pY day - 1900) + pM day - 1 + n) % 12 + 1)
            clear hcn hcm c0 c2
            have long := fun w => r_long (1900 + (12 * (pY day - 1900) + pM day - 1 + n) / 12) ((12 * (pY day - 1900) + pM day - 1 + n) % 12 + 1) w (by omega) (by omega) (by omega) (by omega)
            have LONG := Lib.hid long
            clear long
            by_cases hlt : Cal.dim (1900 + (12 * (pY day - 1900) + pM day - 1 + n) / 12) ((12 * (pY day - 1900) + pM day - 1 + n) % 12 + 1) < pD day
            · have H := mn_ok HC.out.symm rfl rfl (cap_l hlt) n1 n2 hB c1 c3
              go_enter Tryd.func23, Tryd.ntmps23
              go_wp2_with (first | ((go_at_call 14; with_reducible refine (r_parts _ _).mono ?_); rintro e w' ⟨he, rfl⟩; unfold PEnd at he; rw [E0.out] at he; subst he) | ((go_at_call 30; with_reducible refine (LONG.out _).mono ?_); rintro e w' ⟨rfl, rfl⟩) | ((go_at_call 12; with_reducible refine (r_of _ _ _ _).mono ?_); rintro e w' ⟨rfl, rfl⟩))
              go_ret2
              exact ⟨H, rfl⟩
            · have hle : pD day ≤ Cal.dim (1900 + (12 * (pY day - 1900) + pM day - 1 + n) / 12) ((12 * (pY day - 1900) + pM day - 1 + n) % 12 + 1) := by omega
              have H := mn_ok HC.out.symm rfl rfl (cap_r hle) n1 n2 hB c1 c3
              clear hlt
              go_enter Tryd.func23, Tryd.ntmps23
              go_wp2_with (first | ((go_at_call 14; with_reducible refine (r_parts _ _).mono ?_); rintro e w' ⟨he, rfl⟩; unfold PEnd at he; rw [E0.out] at he; subst he) | ((go_at_call 30; with_reducible refine (LONG.out _).mono ?_); rintro e w' ⟨rfl, rfl⟩) | ((go_at_call 12; with_reducible refine (r_of _ _ _ _).mono ?_); rintro e w' ⟨rfl, rfl⟩))
              go_ret2
              exact ⟨H, rfl⟩
      · have H := @mn_date day n n1 n2 (fun h => hB h.1)
        have hB : dayB day = false := by simpa using hB
        have E0 := Lib.hid (p_no hB).2.2.2
        go_enter Tryd.func23, Tryd.ntmps23
        go_wp2_with ((go_at_call 14; with_reducible refine (r_parts _ _).mono ?_); rintro e w' ⟨he, rfl⟩; unfold PEnd at he; rw [E0.out] at he; subst he)
        go_ret2
        exact ⟨H, rfl⟩

end Go.Proofs.YtgecahokkgealaaDoor
