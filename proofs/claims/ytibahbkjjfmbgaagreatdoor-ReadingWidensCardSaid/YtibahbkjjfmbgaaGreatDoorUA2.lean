/-
  What is proved here: plain arithmetic of days and dates of the years 1900 to 2099; nothing of the program is used.
-/
import Derived.Test.YtibahbkjjfmbgaaGreatDoorRows
import Derived.Test.YtibahbkjjfmbgaaGreatDoorUA1
namespace Go.Proofs.YtibahbkjjfmbgaaGreatDoor.Cal
def lp (y : Int) : Int := if y % 4 = 0 ∧ y ≠ 1900 then 1 else 0
def dim (y m : Int) : Int := if m = 2 then 28 + lp y else if m = 4 ∨ m = 6 ∨ m = 9 ∨ m = 11 then 30 else 31
def ys (y : Int) : Int := (y - 1900) * 365 + (if y ≤ 1900 then 0 else (y - 1901) / 4)
def cm (l m : Int) : Int := if m ≤ 1 then 0 else if m = 2 then 31 else if m = 3 then 59 + l else if m = 4 then 90 + l else if m = 5 then 120 + l else if m = 6 then 151 + l
 else if m = 7 then 181 + l else if m = 8 then 212 + l else if m = 9 then 243 + l else if m = 10 then 273 + l else if m = 11 then 304 + l else if m = 12 then 334 + l else 365 + l
def cum (y m : Int) : Int := cm (lp y) m
def num (y m d : Int) : Int := ys y + cum y m + d - 1
theorem lp_01 (y : Int) : 0 ≤ lp y ∧ lp y ≤ 1 := by unfold lp; split <;> omega
theorem dim_bd (y m : Int) : 28 ≤ dim y m ∧ dim y m ≤ 31 := by
 have := lp_01 y
 unfold dim; split
 · omega
 · split <;> omega
theorem ys_bd (y : Int) (a : 1900 ≤ y) (b : y ≤ 2100) : 0 ≤ ys y ∧ ys y ≤ 73049 := by unfold ys; split <;> omega
theorem ys_first : ys 1900 = 0 := by decide
theorem ys_end : ys 2100 = 73049 := by decide
theorem ys_succ (y : Int) (a : 1900 ≤ y) (b : y ≤ 2099) : ys (y + 1) = ys y + 365 + lp y := by
 unfold ys lp; repeat' split
 all_goals omega
theorem ys_mono (a b : Int) (h0 : 1900 ≤ a) (h : a < b) : ys a + 365 ≤ ys b := by unfold ys; repeat' split
                                                                                  all_goals omega
theorem cum_one (y : Int) : cum y 1 = 0 := by unfold cum cm; simp
theorem cum_end (y : Int) : cum y 13 = 365 + lp y := by unfold cum cm; simp
theorem cum_bd (y m : Int) (a : 1 ≤ m) (b : m ≤ 12) : 0 ≤ cum y m ∧ cum y m ≤ 335 := by
 have := lp_01 y
 have h : m = 1 ∨ m = 2 ∨ m = 3 ∨ m = 4 ∨ m = 5 ∨ m = 6 ∨ m = 7 ∨ m = 8 ∨ m = 9 ∨ m = 10 ∨ m = 11 ∨ m = 12 := by omega
 unfold cum cm
 rcases h with rfl | rfl | rfl | rfl | rfl | rfl | rfl | rfl | rfl | rfl | rfl | rfl <;> simp <;> omega
theorem cum_succ (y m : Int) (a : 1 ≤ m) (b : m ≤ 12) : cum y (m + 1) = cum y m + dim y m := by
 have h : m = 1 ∨ m = 2 ∨ m = 3 ∨ m = 4 ∨ m = 5 ∨ m = 6 ∨ m = 7 ∨ m = 8 ∨ m = 9 ∨ m = 10 ∨ m = 11 ∨ m = 12 := by omega
 unfold cum cm dim
 rcases h with rfl | rfl | rfl | rfl | rfl | rfl | rfl | rfl | rfl | rfl | rfl | rfl <;> simp <;> omega
theorem cum_lt (y a b : Int) (h0 : 1 ≤ a) (h : a < b) (hb : b ≤ 13) : cum y a + 28 ≤ cum y b := by
 have := lp_01 y
 unfold cum cm
 repeat' split
 all_goals omega
def yr (n : Int) : Int := if ys (1900 + n / 366 + 1) ≤ n then 1900 + n / 366 + 1 else 1900 + n / 366
def mf (l r : Int) : Int := if r < 31 then 1 else if r < 59 + l then 2 else if r < 90 + l then 3 else if r < 120 + l then 4 else if r < 151 + l then 5 else if r < 181 + l then 6
 else if r < 212 + l then 7 else if r < 243 + l then 8 else if r < 273 + l then 9 else if r < 304 + l then 10 else if r < 334 + l then 11 else 12
def mo (n : Int) : Int := mf (lp (yr n)) (n - ys (yr n))
def da (n : Int) : Int := n - ys (yr n) - cum (yr n) (mo n) + 1
theorem yr_lo (n : Int) (a : 0 ≤ n) (b : n ≤ 73048) : 1900 ≤ yr n ∧ yr n ≤ 2099 ∧ ys (yr n) ≤ n ∧ n < ys (yr n + 1) := by
 unfold yr ys
 repeat' split
 all_goals omega
theorem mf_ok (l r : Int) (_h : 0 ≤ l) (_h1 : l ≤ 1) (a : 0 ≤ r) (b : r < 365 + l) : 1 ≤ mf l r ∧ mf l r ≤ 12 ∧ cm l (mf l r) ≤ r ∧ r < cm l (mf l r + 1) := by
 unfold mf
 repeat' split
 all_goals (simp [cm]; omega)
theorem date_ok (n : Int) (a : 0 ≤ n) (b : n ≤ 73048) :
 1900 ≤ yr n ∧ yr n ≤ 2099 ∧ 1 ≤ mo n ∧ mo n ≤ 12 ∧ 1 ≤ da n ∧ da n ≤ dim (yr n) (mo n) ∧ num (yr n) (mo n) (da n) = n := by
 obtain ⟨y1, y2, y3, y4⟩ := yr_lo n a b
 have hs := ys_succ (yr n) y1 y2
 have hl := lp_01 (yr n)
 obtain ⟨m1, m2, m3, m4⟩ := mf_ok (lp (yr n)) (n - ys (yr n)) (by omega) (by omega) (by omega) (by omega)
 have hc := cum_succ (yr n) (mo n) m1 m2
 have m3' : cum (yr n) (mo n) ≤ n - ys (yr n) := m3
 have m4' : n - ys (yr n) < cum (yr n) (mo n + 1) := m4
 refine ⟨y1, y2, m1, m2, ?_, ?_, ?_⟩
 · unfold da; omega
 · unfold da; omega
 · unfold num da; omega
theorem date_one {y m d y' m' d' : Int} (a1 : 1900 ≤ y) (a2 : 1 ≤ m) (a3 : m ≤ 12) (a4 : 1 ≤ d) (a5 : d ≤ dim y m) (y2 : y ≤ 2099) (y2' : y' ≤ 2099)
 (b1 : 1900 ≤ y') (b2 : 1 ≤ m') (b3 : m' ≤ 12) (b4 : 1 ≤ d') (b5 : d' ≤ dim y' m') (h : num y m d = num y' m' d') : y = y' ∧ m = m' ∧ d = d' := by
 unfold num at h
 have c1 := cum_bd y m a2 a3
 have c2 := cum_bd y' m' b2 b3
 have c3 := cum_succ y m a2 a3
 have c4 := cum_succ y' m' b2 b3
 have c5 := cum_end y
 have c6 := cum_end y'
 have top : ∀ z k : Int, 1 ≤ k → k ≤ 12 → cum z (k + 1) ≤ 365 + lp z := by
  intro z k k1 k2
  by_cases e : k = 12
  · subst e; rw [show (12 : Int) + 1 = 13 from rfl, cum_end]; omega
  · have := cum_lt z (k + 1) 13 (by omega) (by omega) (by omega)
    rw [cum_end] at this; omega
 have t1 := top y m a2 a3
 have t2 := top y' m' b2 b3
 have s1 := ys_succ y a1 y2
 have s2 := ys_succ y' b1 y2'
 have hy : y = y' := by
  rcases Int.lt_trichotomy y y' with g | g | g
  · by_cases e : y' = y + 1
    · subst e; omega
    · have := ys_mono (y + 1) y' (by omega) (by omega); omega
  · exact g
  · by_cases e : y = y' + 1
    · subst e; omega
    · have := ys_mono (y' + 1) y (by omega) (by omega); omega
 subst hy
 have hm : m = m' := by
  rcases Int.lt_trichotomy m m' with g | g | g
  · by_cases e : m' = m + 1
    · subst e; omega
    · have := cum_lt y (m + 1) m' (by omega) (by omega) (by omega); omega
  · exact g
  · by_cases e : m = m' + 1
    · subst e; omega
    · have := cum_lt y (m' + 1) m (by omega) (by omega) (by omega); omega
 subst hm
 exact ⟨rfl, rfl, by omega⟩
theorem date_is {n y m d : Int} (a1 : 1900 ≤ y) (y2 : y ≤ 2099) (a2 : 1 ≤ m) (a3 : m ≤ 12) (a4 : 1 ≤ d) (a5 : d ≤ dim y m) (h : num y m d = n) (a : 0 ≤ n) (b : n ≤ 73048) :
 y = yr n ∧ m = mo n ∧ d = da n := by
 obtain ⟨e1, e2, e3, e4, e5, e6, e7⟩ := date_ok n a b
 exact date_one a1 a2 a3 a4 a5 y2 e2 e1 e3 e4 e5 e6 (h.trans e7.symm)
end Go.Proofs.YtibahbkjjfmbgaaGreatDoor.Cal
namespace Go.Proofs.YtibahbkjjfmbgaaGreatDoor
open Go.RowKit
def tb (k : Nat) : Int := [31, 28, 31, 30, 31, 30, 31, 31, 30, 31, 30, 31].getD k 0
def Tab (w : World) : Prop := 5 < w.heap.size ∧ ∀ k : Nat, k < 12 → w.cell? ⟨5, k, none⟩ = some (.int .i64 (tb k))
theorem Tab.on {w w' : World} {B : Nat} (h : Tab w) (hb : Below B w w') (h0 : 5 < B) : Tab w' := by
 refine ⟨by have := hb.size; have := h.1; omega, fun k hk => ?_⟩
 rw [hb.cell (p := ⟨5, k, none⟩) h0]; exact h.2 k hk
theorem Tab.at_ {w : World} (h : Tab w) (m : Int) (a : 1 ≤ m) (b : m ≤ 12) : w.cell? ⟨5, m.toNat - 1, none⟩ = some (.int .i64 (tb (m.toNat - 1))) := h.2 _ (by omega)
theorem tb_dim (y m : Int) (a : 1 ≤ m) (b : m ≤ 12) : Cal.dim y m = if m = 2 then tb (m.toNat - 1) + Cal.lp y else tb (m.toNat - 1) := by
 have h : m = 1 ∨ m = 2 ∨ m = 3 ∨ m = 4 ∨ m = 5 ∨ m = 6 ∨ m = 7 ∨ m = 8 ∨ m = 9 ∨ m = 10 ∨ m = 11 ∨ m = 12 := by omega
 rcases h with rfl | rfl | rfl | rfl | rfl | rfl | rfl | rfl | rfl | rfl | rfl | rfl <;> simp [Cal.dim, tb] <;> rfl
theorem tb_bd (k : Nat) (h : k < 12) : 28 ≤ tb k ∧ tb k ≤ 31 := by
 have h : k = 0 ∨ k = 1 ∨ k = 2 ∨ k = 3 ∨ k = 4 ∨ k = 5 ∨ k = 6 ∨ k = 7 ∨ k = 8 ∨ k = 9 ∨ k = 10 ∨ k = 11 := by omega
 rcases h with rfl | rfl | rfl | rfl | rfl | rfl | rfl | rfl | rfl | rfl | rfl | rfl <;> decide
def lpB (y : Int) : Bool := decide (Cal.lp y = 1)
theorem lpB_eq (y : Int) (a : 1900 ≤ y) (b : y ≤ 2099) : lpB y = ((y % 4 == 0) && (y % 100 != 0 || y % 400 == 0)) := by
 unfold lpB Cal.lp
 rw [Bool.eq_iff_iff]
 split
 · simp; omega
 · simp; omega
theorem is_leap (y : Int) (w : World) (a : 1900 ≤ y) (b : y ≤ 2099) :
 Calls Tryz.prog 186 #[.int .i64 y] w fun e w' => e = .returned (.bool (lpB y)) ∧ w' = w := by
 have hv := lpB_eq y a b
 by_cases h4 : y % 4 = 0
 ·
  have d4 : (y % 4 == 0) = true := by simpa using h4
  by_cases h1 : y % 100 = 0
  · have d1 : (y % 100 != 0) = false := by simpa using h1
    rw [hv, d4, d1, Bool.true_and, Bool.false_or]
    clear hv h4 h1
    go_enter Tryz.func186, Tryz.ntmps186
    go_wp2
    go_ret
    exact ⟨rfl, rfl⟩
  · have d1 : (y % 100 != 0) = true := by simpa using h1
    rw [hv, d4, d1, Bool.true_and, Bool.true_or]
    clear hv h4 h1
    go_enter Tryz.func186, Tryz.ntmps186
    go_wp2
    go_ret
    exact ⟨rfl, rfl⟩
 · have d4 : (y % 4 == 0) = false := by simpa using h4
   rw [hv, d4, Bool.false_and]
   clear hv h4
   go_enter Tryz.func186, Tryz.ntmps186
   go_wp2
   go_ret
   exact ⟨rfl, rfl⟩
theorem year_start (y : Int) (w : World) (a : 1900 ≤ y) (b : y ≤ 2100) :
 Calls Tryz.prog 175 #[.int .i64 y] w fun e w' => e = .returned (.int .i64 (Cal.ys y)) ∧ w' = w := by
 by_cases h : y = 1900
 · subst h
   rw [Cal.ys_first]
   go_enter Tryz.func175, Tryz.ntmps175
   go_wp2
   go_ret
   exact ⟨rfl, rfl⟩
 · have hv : Cal.ys y = (y - 1900) * 365 + (y - 1900 - 1) / 4 := by
    unfold Cal.ys; rw [if_neg (by omega)]; congr 2; omega
   rw [hv]
   have a1 : 1901 ≤ y := by omega
   clear hv h a
   go_enter Tryz.func175, Tryz.ntmps175
   go_wp2
   go_ret
   exact ⟨rfl, rfl⟩
theorem month_length (y m : Int) (w : World) (ht : Tab w) (a : 1900 ≤ y) (b : y ≤ 2099) (m1 : 1 ≤ m) (m2 : m ≤ 12) :
 Calls Tryz.prog 176 #[.int .i64 y, .int .i64 m] w fun e w' => e = .returned (.int .i64 (Cal.dim y m)) ∧ w' = w := by
 have hv := tb_dim y m m1 m2
 have hc := ht.at_ m m1 m2
 have hb := tb_bd (m.toNat - 1) (by omega)
 have hl := Cal.lp_01 y
 clear ht
 by_cases h2 : m = 2
 ·
  subst h2
  rw [hv, if_pos rfl]
  clear hv
  by_cases h : Cal.lp y = 1
  · have hB : lpB y = true := by simpa [lpB] using h
    rw [h]
    clear h
    have e : (2 : Int).toNat - 1 = 1 := by decide
    rw [e] at hc hb ⊢
    clear e
    go_enter Tryz.func176, Tryz.ntmps176
    go_wp2_with (go_at_call 186; refine (is_leap _ _ a b).mono ?_; rintro e w' ⟨rfl, rfl⟩)
    go_ret
    exact ⟨rfl, rfl⟩
  · have hB : lpB y = false := by simpa [lpB] using h
    have h0 : Cal.lp y = 0 := by omega
    rw [h0]
    clear h h0
    have e : (2 : Int).toNat - 1 = 1 := by decide
    rw [e] at hc hb ⊢
    clear e
    go_enter Tryz.func176, Tryz.ntmps176
    go_wp2_with (go_at_call 186; refine (is_leap _ _ a b).mono ?_; rintro e w' ⟨rfl, rfl⟩)
    go_ret
    exact ⟨rfl, rfl⟩
 · rw [hv, if_neg h2]
   have d2 : (m == 2) = false := by simpa using h2
   clear hv h2
   go_enter Tryz.func176, Tryz.ntmps176
   go_wp2
   go_ret
   exact ⟨rfl, rfl⟩
def dayB (n : Int) : Bool := decide (0 ≤ n) && decide (n ≤ 73048)
theorem dayB_yes {n : Int} (h : dayB n = true) : 0 ≤ n ∧ n ≤ 73048 := by simpa [dayB] using h
theorem dayB_mk {n : Int} (a : 0 ≤ n) (b : n ≤ 73048) : dayB n = true := by simp [dayB, a, b]
def dateB (y m d : Int) : Bool := decide (1900 ≤ y ∧ y ≤ 2099 ∧ 1 ≤ m ∧ m ≤ 12 ∧ 1 ≤ d ∧ d ≤ Cal.dim y m)
theorem dateB_yes {y m d : Int} (h : dateB y m d = true) : 1900 ≤ y ∧ y ≤ 2099 ∧ 1 ≤ m ∧ m ≤ 12 ∧ 1 ≤ d ∧ d ≤ Cal.dim y m := by simpa [dateB] using h
theorem dateB_mk {y m d : Int} (h : 1900 ≤ y ∧ y ≤ 2099 ∧ 1 ≤ m ∧ m ≤ 12 ∧ 1 ≤ d ∧ d ≤ Cal.dim y m) : dateB y m d = true := by simpa [dateB] using h
theorem dateB_not {y m d : Int} (h : ¬ (1900 ≤ y ∧ y ≤ 2099 ∧ 1 ≤ m ∧ m ≤ 12 ∧ 1 ≤ d ∧ d ≤ Cal.dim y m)) : dateB y m d = false := by simpa [dateB] using h
set_option maxHeartbeats 1000000 in
theorem is_date (y m d : Int) (w : World) (ht : Tab w) : Calls Tryz.prog 174 #[.int .i64 y, .int .i64 m, .int .i64 d] w fun e w' => e = .returned (.bool (dateB y m d)) ∧ w' = w := by
 by_cases h1 : 1900 ≤ y
 ·
  have d1 : decide (1900 ≤ y) = true := by simpa using h1
  by_cases h2 : y ≤ 2099
  ·
   have d2 : decide (y ≤ 2099) = true := by simpa using h2
   by_cases h3 : 1 ≤ m
   ·
    have d3 : decide (1 ≤ m) = true := by simpa using h3
    by_cases h4 : m ≤ 12
    ·
     have d4 : decide (m ≤ 12) = true := by simpa using h4
     by_cases h5 : 1 ≤ d
     · have d5 : decide (1 ≤ d) = true := by simpa using h5
       have hv : dateB y m d = decide (d ≤ Cal.dim y m) := by unfold dateB; rw [Bool.eq_iff_iff]; simp; omega
       rw [hv]; clear hv
       go_enter Tryz.func174, Tryz.ntmps174
       go_wp2_with (go_at_call 176; refine (month_length _ _ _ ht h1 h2 h3 h4).mono ?_; rintro e w' ⟨rfl, rfl⟩)
       go_ret
       exact ⟨rfl, rfl⟩
     · have d5 : decide (1 ≤ d) = false := by simpa using h5
       rw [dateB_not (by omega)]
       clear h1 h2 h3 h4 h5 ht
       go_enter Tryz.func174, Tryz.ntmps174
       go_wp2
       go_ret
       exact ⟨rfl, rfl⟩
    · have d4 : decide (m ≤ 12) = false := by simpa using h4
      rw [dateB_not (by omega)]
      clear h1 h2 h3 h4 ht
      go_enter Tryz.func174, Tryz.ntmps174
      go_wp2
      go_ret
      exact ⟨rfl, rfl⟩
   · have d3 : decide (1 ≤ m) = false := by simpa using h3
     rw [dateB_not (by omega)]
     clear h1 h2 h3 ht
     go_enter Tryz.func174, Tryz.ntmps174
     go_wp2
     go_ret
     exact ⟨rfl, rfl⟩
  · have d2 : decide (y ≤ 2099) = false := by simpa using h2
    rw [dateB_not (by omega)]
    clear h1 h2 ht
    go_enter Tryz.func174, Tryz.ntmps174
    go_wp2
    go_ret
    exact ⟨rfl, rfl⟩
 · have d1 : decide (1900 ≤ y) = false := by simpa using h1
   rw [dateB_not (by omega)]
   clear h1 ht
   go_enter Tryz.func174, Tryz.ntmps174
   go_wp2
   go_ret
   exact ⟨rfl, rfl⟩
def ofV (y m d : Int) : Int := if dateB y m d = true then Cal.num y m d else 0
def ofE (y m d : Int) : Int := if dateB y m d = true then 0 else 8
theorem of_yes {y m d : Int} (h : dateB y m d = true) : ofV y m d = Cal.num y m d ∧ ofE y m d = 0 := by simp [ofV, ofE, h]
theorem of_no {y m d : Int} (h : dateB y m d = false) : ofV y m d = 0 ∧ ofE y m d = 8 := by simp [ofV, ofE, h]
theorem ret2_int {a b c d : Int} (h : a = b) (g : c = d) : Ending.returned (.tuple #[.int .i64 a, .int .i64 c]) = .returned (.tuple #[.int .i64 b, .int .i64 d]) := by rw [h, g]
set_option maxHeartbeats 1000000 in
theorem day_of (y m d : Int) (w : World) (ht : Tab w) : Calls Tryz.prog 161 #[.int .i64 y, .int .i64 m, .int .i64 d] w fun e w' => e = .returned (.tuple #[.int .i64 (ofV y m d), .int .i64 (ofE y m d)]) ∧ w' = w := by
 by_cases hB : dateB y m d = true
 ·
  obtain ⟨v1, v2⟩ := of_yes hB
  rw [v1, v2]; clear v1 v2
  obtain ⟨h1, h2, h3, h4, h5, h6⟩ := dateB_yes hB
  have yb := Cal.ys_bd y h1 (by omega)
  have db := Cal.dim_bd y m
  have c1 := Lib.hid (Cal.cum_one y)
  go_enter Tryz.func161, Tryz.ntmps161
  go_wp2_with (first
   | (go_at_call 174; refine (is_date _ _ _ _ ht).mono ?_; rintro e w' ⟨rfl, rfl⟩)
   | (go_at_call 175; refine (year_start _ _ h1 (by omega)).mono ?_; rintro e w' ⟨rfl, rfl⟩))
  go_loop [8, 9] (fun t i => ∃ k : Int, 1 ≤ k ∧ k ≤ m ∧ i = .int .i64 k ∧ t = .int .i64 (Cal.ys y + d - 1 + Cal.cum y k)) (fun _ i => (m - intOf i).toNat)
  case atStart => exact ⟨1, by omega, by omega, rfl, by rw [c1.out]; go_num⟩
  case round =>
   obtain ⟨k, k1, k2, rfl, rfl⟩ := hrel
   have cb := Cal.cum_bd y k k1 (by omega)
   have dk := Cal.dim_bd y k
   have cs := Lib.hid (Cal.cum_succ y k k1 (by omega))
   by_cases hlt : k < m
   · go_wp2_with (go_at_call 176; refine (month_length _ _ _ ht h1 h2 k1 (by omega)).mono ?_; rintro e w' ⟨rfl, rfl⟩)
     go_round
     case rel => exact ⟨k + 1, by omega, by omega, rfl, by rw [cs.out]; go_num⟩
     case measure => simp [intOf]; omega
   · obtain rfl : k = m := by omega
     go_wp2
     go_ret2
     exact ⟨ret2_int (by unfold Cal.num; omega) rfl, rfl⟩
 · have hB : dateB y m d = false := by simpa using hB
   obtain ⟨v1, v2⟩ := of_no hB
   rw [v1, v2]; clear v1 v2
   go_enter Tryz.func161, Tryz.ntmps161
   go_wp2_with (go_at_call 174; refine (is_date _ _ _ _ ht).mono ?_; rintro e w' ⟨rfl, rfl⟩)
   go_ret2
   exact ⟨rfl, rfl⟩
def pY (n : Int) : Int := if dayB n = true then Cal.yr n else 0
def pM (n : Int) : Int := if dayB n = true then Cal.mo n else 0
def pD (n : Int) : Int := if dayB n = true then Cal.da n else 0
def pE (n : Int) : Int := if dayB n = true then 0 else 8
theorem p_yes {n : Int} (h : dayB n = true) : pY n = Cal.yr n ∧ pM n = Cal.mo n ∧ pD n = Cal.da n ∧ pE n = 0 := by simp [pY, pM, pD, pE, h]
theorem p_no {n : Int} (h : dayB n = false) : pY n = 0 ∧ pM n = 0 ∧ pD n = 0 ∧ pE n = 8 := by simp [pY, pM, pD, pE, h]
theorem p_ok {n : Int} (h : dayB n = true) : 1900 ≤ pY n ∧ pY n ≤ 2099 ∧ 1 ≤ pM n ∧ pM n ≤ 12 ∧ 1 ≤ pD n ∧ pD n ≤ Cal.dim (pY n) (pM n) ∧ Cal.num (pY n) (pM n) (pD n) = n ∧ pE n = 0 := by
 obtain ⟨h1, h2, h3, h4⟩ := p_yes h
 have := dayB_yes h
 rw [h1, h2, h3, h4]
 have h := Cal.date_ok n (by omega) (by omega)
 exact ⟨h.1, h.2.1, h.2.2.1, h.2.2.2.1, h.2.2.2.2.1, h.2.2.2.2.2.1, h.2.2.2.2.2.2, rfl⟩
def PEnd (n : Int) (e : Ending) : Prop := e = .returned (.tuple #[.int .i64 (pY n), .int .i64 (pM n), .int .i64 (pD n), .int .i64 (pE n)])
theorem p_end {n y m r : Int} (h : dayB n = true) (a1 : 1900 ≤ y) (a2 : y ≤ 2099) (m1 : 1 ≤ m) (m2 : m ≤ 12) (hr : r = n - Cal.ys y - Cal.cum y m) (r0 : 0 ≤ r) (r1 : r < Cal.dim y m) :
 PEnd n (.returned (.tuple #[.int .i64 y, .int .i64 m, .int .i64 (r + 1), .int .i64 0])) := by
 obtain ⟨n1, n2⟩ := dayB_yes h
 obtain ⟨e1, e2, e3⟩ := Cal.date_is (n := n) (y := y) (m := m) (d := r + 1) a1 a2 m1 m2 (by omega) (by omega) (by unfold Cal.num; omega) n1 n2
 obtain ⟨h1, h2, h3, h4⟩ := p_yes h
 unfold PEnd
 rw [h1, h2, h3, h4, ← e1, ← e2, ← e3]
theorem p_bad {n : Int} (h : dayB n = false) : PEnd n (.returned (.tuple #[.int .i64 0, .int .i64 0, .int .i64 0, .int .i64 8])) := by
 obtain ⟨h1, h2, h3, h4⟩ := p_no h
 unfold PEnd
 rw [h1, h2, h3, h4]
theorem rd_valid (n : Int) (w : World) : Calls Tryz.prog 150 #[.int .i64 n] w fun e w' => e = .returned (.bool (dayB n)) ∧ w' = w := by
 by_cases h : 0 ≤ n
 · have d : decide (0 ≤ n) = true := by simpa using h
   have hv : dayB n = decide (n ≤ 73048) := by unfold dayB; rw [d, Bool.true_and]
   rw [hv]; clear h hv
   go_enter Tryz.func150, Tryz.ntmps150
   go_wp2
   go_ret
   exact ⟨rfl, rfl⟩
 · have d : decide (0 ≤ n) = false := by simpa using h
   have hv : dayB n = false := by unfold dayB; rw [d, Bool.false_and]
   rw [hv]; clear h hv
   go_enter Tryz.func150, Tryz.ntmps150
   go_wp2
   go_ret
   exact ⟨rfl, rfl⟩
theorem lpB_ref (y : Int) : lpB y = ((y % 4 == 0) && (y != 1900)) := by
 unfold lpB Cal.lp
 rw [Bool.eq_iff_iff]
 split
 · simp; omega
 · simp; omega
theorem r_leap (y : Int) (w : World) (a : 1900 ≤ y) (b : y ≤ 2099) :
 Calls Tryz.prog 152 #[.int .i64 y] w fun e w' => e = .returned (.bool (lpB y)) ∧ w' = w := by
 have hv := lpB_ref y
 by_cases h4 : y % 4 = 0
 · have d4 : (y % 4 == 0) = true := by simpa using h4
   rw [hv, d4, Bool.true_and]
   clear hv h4
   go_enter Tryz.func152, Tryz.ntmps152
   go_wp2
   go_ret
   exact ⟨rfl, rfl⟩
 · have d4 : (y % 4 == 0) = false := by simpa using h4
   rw [hv, d4, Bool.false_and]
   clear hv h4
   go_enter Tryz.func152, Tryz.ntmps152
   go_wp2
   go_ret
   exact ⟨rfl, rfl⟩
def IsInt (v : Int) (e : Ending) : Prop := e = .returned (.int .i64 v)
theorem dim_30 {y m : Int} (h : m = 4 ∨ m = 6 ∨ m = 9 ∨ m = 11) : IsInt (Cal.dim y m) (.returned (.int .i64 30)) := by
 unfold IsInt Cal.dim; rw [if_neg (by omega), if_pos h]
theorem dim_31 {y m : Int} (h : m ≠ 2) (h2 : ¬ (m = 4 ∨ m = 6 ∨ m = 9 ∨ m = 11)) : IsInt (Cal.dim y m) (.returned (.int .i64 31)) := by
 unfold IsInt Cal.dim; rw [if_neg h, if_neg h2]
theorem dim_29 {y m : Int} (h : m = 2) (h2 : lpB y = true) : IsInt (Cal.dim y m) (.returned (.int .i64 29)) := by
 unfold IsInt Cal.dim; rw [if_pos h]; simp [lpB] at h2; rw [h2]; rfl
theorem dim_28 {y m : Int} (h : m = 2) (h2 : lpB y = false) : IsInt (Cal.dim y m) (.returned (.int .i64 28)) := by
 have := Cal.lp_01 y
 unfold IsInt Cal.dim; rw [if_pos h]; simp [lpB] at h2; rw [show Cal.lp y = 0 by omega]; rfl
set_option maxHeartbeats 1000000 in
theorem r_long_ (y m : Int) (w : World) (a : 1900 ≤ y) (b : y ≤ 2099) (m1 : 1 ≤ m) (m2 : m ≤ 12) :
 Calls Tryz.prog 151 #[.int .i64 y, .int .i64 m] w fun e w' => IsInt (Cal.dim y m) e ∧ w' = w := by
 by_cases h3 : m = 4 ∨ m = 6 ∨ m = 9 ∨ m = 11
 · have H := @dim_30 y m h3
   rcases h3 with rfl | rfl | rfl | rfl <;>
   · go_enter Tryz.func151, Tryz.ntmps151
     go_wp2
     go_ret
     exact ⟨H, rfl⟩
 ·
  have d4 : (m == 4) = false := by simp; omega
  have d6 : (m == 6) = false := by simp; omega
  have d9 : (m == 9) = false := by simp; omega
  have d11 : (m == 11) = false := by simp; omega
  by_cases h2 : m = 2
  ·
   have d2 : (m == 2) = true := by simp; omega
   by_cases hl : lpB y = true
   · have H := @dim_29 y m h2 hl
     clear h3 h2
     go_enter Tryz.func151, Tryz.ntmps151
     go_wp2_with (go_at_call 152; refine (r_leap _ _ a b).mono ?_; rintro e w' ⟨rfl, rfl⟩)
     go_ret
     exact ⟨H, rfl⟩
   · have hl : lpB y = false := by simpa using hl
     have H := @dim_28 y m h2 hl
     clear h3 h2
     go_enter Tryz.func151, Tryz.ntmps151
     go_wp2_with (go_at_call 152; refine (r_leap _ _ a b).mono ?_; rintro e w' ⟨rfl, rfl⟩)
     go_ret
     exact ⟨H, rfl⟩
  · have d2 : (m == 2) = false := by simpa using h2
    have H := @dim_31 y m h2 h3
    clear h3 h2
    go_enter Tryz.func151, Tryz.ntmps151
    go_wp2
    go_ret
    exact ⟨H, rfl⟩
theorem r_long (y m : Int) (w : World) (a : 1900 ≤ y) (b : y ≤ 2099) (m1 : 1 ≤ m) (m2 : m ≤ 12) :
 Calls Tryz.prog 151 #[.int .i64 y, .int .i64 m] w fun e w' => e = .returned (.int .i64 (Cal.dim y m)) ∧ w' = w := r_long_ y m w a b m1 m2
set_option maxHeartbeats 1000000 in
theorem r_of (y m d : Int) (w : World) : Calls Tryz.prog 126 #[.int .i64 y, .int .i64 m, .int .i64 d] w fun e w' => e = .returned (.tuple #[.int .i64 (ofV y m d), .int .i64 (ofE y m d)]) ∧ w' = w := by
 by_cases hB : dateB y m d = true
 ·
  obtain ⟨v1, v2⟩ := of_yes hB
  rw [v1, v2]; clear v1 v2
  obtain ⟨h1, h2, h3, h4, h5, h6⟩ := dateB_yes hB
  have db := Cal.dim_bd y m
  have c1 := Lib.hid (Cal.cum_one y)
  have f1 := Lib.hid Cal.ys_first
  go_enter Tryz.func126, Tryz.ntmps126
  go_wp2_with (go_at_call 151; refine (r_long _ _ _ h1 h2 h3 h4).mono ?_; rintro e w' ⟨rfl, rfl⟩)
  go_loop [8, 9] (fun t i => ∃ z : Int, 1900 ≤ z ∧ z ≤ y ∧ i = .int .i64 z ∧ t = .int .i64 (Cal.ys z + d - 1)) (fun _ i => (y - intOf i).toNat)
  case atStart => exact ⟨1900, by omega, by omega, rfl, by rw [f1.out]; go_num⟩
  case round =>
   obtain ⟨z, z1, z2, rfl, rfl⟩ := hrel
   have zb := Cal.ys_bd z z1 (by omega)
   by_cases hlt : z < y
   ·
    have zs := Lib.hid (Cal.ys_succ z z1 (by omega))
    have zl := Cal.lp_01 z
    by_cases hl : lpB z = true
    · have hl1 : Cal.lp z = 1 := by simpa [lpB] using hl
      have HL := Lib.hid hl1
      clear hl1
      go_wp2_with (go_at_call 152; refine (r_leap _ _ z1 (by omega)).mono ?_; rintro e w' ⟨rfl, rfl⟩)
      go_round
      case rel => exact ⟨z + 1, by omega, by omega, rfl, by rw [zs.out, HL.out]; go_num⟩
      case measure => simp [intOf]; omega
    · have hl : lpB z = false := by simpa using hl
      have hl1 : Cal.lp z = 0 := by simp [lpB] at hl; omega
      have HL := Lib.hid hl1
      clear hl1
      go_wp2_with (go_at_call 152; refine (r_leap _ _ z1 (by omega)).mono ?_; rintro e w' ⟨rfl, rfl⟩)
      go_round
      case rel => exact ⟨z + 1, by omega, by omega, rfl, by rw [zs.out, HL.out]; go_num⟩
      case measure => simp [intOf]; omega
   ·
    obtain rfl : z = y := by omega
    go_wp2
    go_loop [8, 10] (fun t i => ∃ k : Int, 1 ≤ k ∧ k ≤ m ∧ i = .int .i64 k ∧ t = .int .i64 (Cal.ys z + d - 1 + Cal.cum z k)) (fun _ i => (m - intOf i).toNat)
    case atStart => exact ⟨1, by omega, by omega, rfl, by rw [c1.out]; go_num⟩
    case round =>
     obtain ⟨k, k1, k2, rfl, rfl⟩ := hrel
     have cb := Cal.cum_bd z k k1 (by omega)
     have dk := Cal.dim_bd z k
     have cs := Lib.hid (Cal.cum_succ z k k1 (by omega))
     by_cases hlt : k < m
     · go_wp2_with (go_at_call 151; refine (r_long _ _ _ h1 h2 k1 (by omega)).mono ?_; rintro e w' ⟨rfl, rfl⟩)
       go_round
       case rel => exact ⟨k + 1, by omega, by omega, rfl, by rw [cs.out]; go_num⟩
       case measure => simp [intOf]; omega
     · obtain rfl : k = m := by omega
       go_wp2
       go_ret2
       exact ⟨ret2_int (by unfold Cal.num; omega) rfl, rfl⟩
 ·
  have hB : dateB y m d = false := by simpa using hB
  obtain ⟨v1, v2⟩ := of_no hB
  rw [v1, v2]; clear v1 v2
  have hn : ¬ (1900 ≤ y ∧ y ≤ 2099 ∧ 1 ≤ m ∧ m ≤ 12 ∧ 1 ≤ d ∧ d ≤ Cal.dim y m) := by simpa [dateB] using hB
  by_cases h1 : y < 1900
  · have d1 : decide (y < 1900) = true := by simpa using h1
    clear hn h1
    go_enter Tryz.func126, Tryz.ntmps126
    go_wp2
    go_ret2
    exact ⟨rfl, rfl⟩
  ·
   have d1 : decide (y < 1900) = false := by simpa using h1
   by_cases h2 : 2099 < y
   · have d2 : decide (2099 < y) = true := by simpa using h2
     clear hn h1 h2
     go_enter Tryz.func126, Tryz.ntmps126
     go_wp2
     go_ret2
     exact ⟨rfl, rfl⟩
   ·
    have d2 : decide (2099 < y) = false := by simpa using h2
    by_cases h3 : m < 1
    · have d3 : decide (m < 1) = true := by simpa using h3
      clear hn h1 h2
      go_enter Tryz.func126, Tryz.ntmps126
      go_wp2
      go_ret2
      exact ⟨rfl, rfl⟩
    ·
     have d3 : decide (m < 1) = false := by simpa using h3
     by_cases h4 : 12 < m
     · have d4 : decide (12 < m) = true := by simpa using h4
       clear hn h1 h2 h3
       go_enter Tryz.func126, Tryz.ntmps126
       go_wp2
       go_ret2
       exact ⟨rfl, rfl⟩
     ·
      have d4 : decide (12 < m) = false := by simpa using h4
      by_cases h5 : d < 1
      · have d5 : decide (d < 1) = true := by simpa using h5
        clear hn h1 h2 h3 h4
        go_enter Tryz.func126, Tryz.ntmps126
        go_wp2
        go_ret2
        exact ⟨rfl, rfl⟩
      · have d5 : decide (d < 1) = false := by simpa using h5
        have h6 : Cal.dim y m < d := by omega
        have q1 : 1900 ≤ y := by omega
        have q2 : y ≤ 2099 := by omega
        have q3 : 1 ≤ m := by omega
        have q4 : m ≤ 12 := by omega
        clear hn h1 h2 h3 h4 h5
        go_enter Tryz.func126, Tryz.ntmps126
        go_wp2_with (go_at_call 151; refine (r_long _ _ _ q1 q2 q3 q4).mono ?_; rintro e w' ⟨rfl, rfl⟩)
        go_ret2
        exact ⟨rfl, rfl⟩
set_option maxHeartbeats 2000000 in
theorem r_parts (n : Int) (w : World) : Calls Tryz.prog 120 #[.int .i64 n] w fun e w' => PEnd n e ∧ w' = w := by
 by_cases hB : dayB n = true
 ·
  obtain ⟨n1, n2⟩ := dayB_yes hB
  have c1 := Lib.hid (Cal.cum_one 1900)
  have f1 := Lib.hid Cal.ys_first
  go_enter Tryz.func120, Tryz.ntmps120
  go_wp2_with (go_at_call 150; refine (rd_valid n w).mono ?_; rintro e w' ⟨rfl, rfl⟩)
  go_loop [0, 6, 7] (fun r y m => ∃ z k : Int, 1900 ≤ z ∧ z ≤ 2099 ∧ 1 ≤ k ∧ k ≤ 12 ∧ y = .int .i64 z ∧ m = .int .i64 k ∧ 0 ≤ n - Cal.ys z - Cal.cum z k ∧ r = .int .i64 (n - Cal.ys z - Cal.cum z k)) (fun r _ _ => (intOf r).toNat)
  case atStart => exact ⟨1900, 1, by omega, by omega, by omega, by omega, rfl, rfl, by rw [c1.out, f1.out]; omega, by rw [c1.out, f1.out]; go_num⟩
  case round =>
   obtain ⟨z, k, z1, z2, k1, k2, rfl, rfl, r0, rfl⟩ := hrel
   have zb := Cal.ys_bd z z1 (by omega)
   have cb := Cal.cum_bd z k k1 k2
   have db := Cal.dim_bd z k
   have cs := Lib.hid (Cal.cum_succ z k k1 k2)
   have ce := Lib.hid (Cal.cum_end z)
   have zs := Lib.hid (Cal.ys_succ z z1 z2)
   by_cases hlt : n - Cal.ys z - Cal.cum z k < Cal.dim z k
   · go_wp2_with (go_at_call 151; refine (r_long _ _ _ z1 z2 k1 k2).mono ?_; rintro e w' ⟨rfl, rfl⟩)
     exact bodyPost_ret (v := .tuple #[.int .i64 z, .int .i64 k, .int .i64 (n - Cal.ys z - Cal.cum z k + 1), .int .i64 0]) (by simp [results, Tryz.results120, go_sem]) rfl ⟨p_end hB z1 z2 k1 k2 rfl r0 hlt, rfl⟩
   ·
    by_cases hk : k < 12
    · go_wp2_with (go_at_call 151; refine (r_long _ _ _ z1 z2 k1 k2).mono ?_; rintro e w' ⟨rfl, rfl⟩)
      go_round
      case rel => exact ⟨z, k + 1, z1, z2, by omega, by omega, rfl, rfl, by rw [cs.out]; omega, by rw [cs.out]; go_num⟩
      case measure => simp [intOf]; omega
    ·
     obtain rfl : k = 12 := by omega
     have t1 : Cal.ys (z + 1) = Cal.ys z + Cal.cum z 12 + Cal.dim z 12 := by
      have a := cs.out
      have b := ce.out
      have c := zs.out
      rw [show (12 : Int) + 1 = 13 from rfl] at a
      omega
     have z3 : z < 2099 := by
      have h := Cal.ys_end
      by_cases e : z = 2099
      · subst e; rw [show (2099 : Int) + 1 = 2100 from rfl] at t1; omega
      · omega
     have T1 := Lib.hid t1
     have T2 := Lib.hid (Cal.cum_one (z + 1))
     clear t1
     go_wp2_with (go_at_call 151; refine (r_long _ _ _ z1 z2 k1 k2).mono ?_; rintro e w' ⟨rfl, rfl⟩)
     go_round
     case rel => exact ⟨z + 1, 1, by omega, by omega, by omega, by omega, rfl, rfl, by rw [T1.out, T2.out]; omega, by rw [T1.out, T2.out]; go_num⟩
     case measure => simp [intOf]; omega
 · have hB : dayB n = false := by simpa using hB
   go_enter Tryz.func120, Tryz.ntmps120
   go_wp2_with (go_at_call 150; refine (rd_valid n w).mono ?_; rintro e w' ⟨rfl, rfl⟩)
   exact bodyPost_ret (v := .tuple #[.int .i64 0, .int .i64 0, .int .i64 0, .int .i64 8]) (by simp [results, Tryz.results120, go_sem]) rfl ⟨p_bad hB, rfl⟩
def dgt (n : Int) : UInt8 := UInt8.ofNat (48 + n.toNat)
def pairL (n : Int) : List UInt8 := [dgt (n / 10), dgt (n % 10)]
theorem dgt_nat {n : Int} (a : 0 ≤ n) (b : n ≤ 9) : ((dgt n).toNat : Int) = 48 + n := by unfold dgt; rw [UInt8.toNat_ofNat']; omega
theorem dgt_U {n : Int} (a : 0 ≤ n) (b : n ≤ 9) : Value.int .u8 (48 + n) = U (dgt n) := by unfold U; rw [dgt_nat a b]
theorem pairL_Us {n : Int} (a : 0 ≤ n) (b : n ≤ 99) : Us (pairL n) = [Value.int .u8 (48 + n / 10), Value.int .u8 (48 + n % 10)] := by
 rw [dgt_U (n := n / 10) (by omega) (by omega), dgt_U (n := n % 10) (by omega) (by omega)]; rfl
def fL (n : Int) : List UInt8 := if dayB n = true then pairL (Cal.yr n % 100) ++ pairL (Cal.mo n) ++ pairL (Cal.da n) else []
theorem fL_yes {n : Int} (h : dayB n = true) : fL n = pairL (pY n % 100) ++ pairL (pM n) ++ pairL (pD n) := by
 obtain ⟨h1, h2, h3, h4⟩ := p_yes h
 unfold fL; rw [if_pos h, h1, h2, h3]
theorem fL_no {n : Int} (h : dayB n = false) : fL n = [] := by simp [fL, h]
theorem S_nil : S [] = { data := #[] } := by simp [S]
theorem Sd_append (x y : List UInt8) : S (x ++ y) = S x ++ S y := by apply ByteArray.ext; simp [S, ByteArray.data_append]
def FEnd (n : Int) (w : World) (e : Ending) (w' : World) : Prop := e = .returned (.tuple #[.string (S (fL n)), .int .i64 (pE n)]) ∧ Below w.heap.size w w'
theorem f_bad {n : Int} (h : dayB n = false) (w : World) : FEnd n w (.returned (.tuple #[.string { data := #[] }, .int .i64 8])) w := by
 refine ⟨?_, Below.refl _ _⟩
 rw [fL_no h, S_nil, (p_no h).2.2.2]
theorem r_two (n : Int) (a : 0 ≤ n) (b : n ≤ 99) (w : World) : Calls Tryz.prog 121 #[.int .i64 n] w fun e w' => e = .returned (.string (S (pairL n))) ∧ Below w.heap.size w w' := by
 have hs : Sees (w.alloc (.cells #[Value.int .u8 (48 + n / 10), Value.int .u8 (48 + n % 10)] 5)) (w.heap.size + 1) (some ⟨w.heap.size, 0, none⟩) (Us (pairL n)) := by
  rw [pairL_Us a b]
  refine .inr ⟨w.heap.size, 0, rfl, by omega, fun j hj => ?_⟩
  rw [Nat.zero_add, cell_of_row _ _ j _ 5 (0, 0) (heap_alloc_new w _)]
  simp
 have hc := run_conv _ _ _ _ hs 2 2 rfl
 clear hs
 go_enter Tryz.func121, Tryz.ntmps121
 go_wp2
 go_ret
 exact ⟨rfl, (Below.refl _ _).alloc (Nat.le_refl _) _⟩
set_option maxHeartbeats 1000000 in
theorem r_format (n : Int) (w : World) : Calls Tryz.prog 80 #[.int .i64 n] w (FEnd n w) := by
 by_cases hB : dayB n = true
 ·
  obtain ⟨y1, y2, m1, m2, d1, d2, _, e0⟩ := p_ok hB
  have e0 := Lib.hid e0
  have FL := Lib.hid (fL_yes hB)
  have db := Cal.dim_bd (pY n) (pM n)
  have d3 : pD n ≤ 99 := by omega
  have s1 : (S (pairL (pY n % 100))).size = 2 := by rw [S_size]; rfl
  have s2 : (S (pairL (pM n))).size = 2 := by rw [S_size]; rfl
  have s3 : (S (pairL (pD n))).size = 2 := by rw [S_size]; rfl
  clear d2 db hB
  go_enter Tryz.func80, Tryz.ntmps80
  go_wp2_with fail
  refine (r_parts n w).mono ?_
  rintro e w' ⟨he, rfl⟩
  unfold PEnd at he
  rw [e0.out] at he
  subst he
  go_wp2_with fail
  refine (r_two (pY n % 100) (by omega) (by omega) w').mono ?_
  rintro e w1 ⟨rfl, b1⟩
  have B1 := Lib.hid b1
  clear b1
  go_wp2_with fail
  refine (r_two (pM n) (by omega) (by omega) w1).mono ?_
  rintro e w2 ⟨rfl, b2⟩
  have B2 := Lib.hid (below_on B1.out b2)
  clear b2
  go_wp2_with fail
  refine (r_two (pD n) (by omega) (by omega) w2).mono ?_
  rintro e w3 ⟨rfl, b3⟩
  have B3 := Lib.hid (below_on B2.out b3)
  clear b3
  go_wp2
  go_ret2
  exact ⟨by rw [e0.out, FL.out, Sd_append, Sd_append]; rfl, B3.out⟩
 · have hB : dayB n = false := by simpa using hB
   have e0 := Lib.hid (p_no hB)
   have H := f_bad hB w
   go_enter Tryz.func80, Tryz.ntmps80
   go_wp2_with fail
   refine (r_parts n w).mono ?_
   rintro e w' ⟨he, rfl⟩
   unfold PEnd at he
   rw [e0.out.1, e0.out.2.1, e0.out.2.2.1, e0.out.2.2.2] at he
   subst he
   go_wp2
   go_ret2
   exact H
theorem info_arr3 : (Tryz.prog.info? 119).map (·.size) = some 3 := by kernel_rfl
def ch (s : ByteArray) (k : Nat) : Nat := (s.data.toList.getD k 0).toNat
def dig (s : ByteArray) (k : Nat) : Bool := decide (48 ≤ ch s k) && decide (ch s k ≤ 57)
def pr (s : ByteArray) (k j : Nat) : Int := if k ≤ 2 * j then 0 else if k = 2 * j + 1 then (ch s (2 * j) : Int) - 48 else ((ch s (2 * j) : Int) - 48) * 10 + ((ch s (2 * j + 1) : Int) - 48)
theorem ch_at (s : ByteArray) (k : Nat) (h : k < s.size) : ch s k = s[k].toNat := by
 unfold ch
 have hk : k < s.data.toList.length := by simpa using h
 rw [List.getD, List.getElem?_eq_getElem hk]; rfl
theorem ch_lt (s : ByteArray) (k : Nat) : ch s k < 256 := UInt8.toNat_lt _
def allDig (s : ByteArray) (k : Nat) : Prop := ∀ q, q < k → dig s q = true
theorem allDig_succ {s : ByteArray} {k : Nat} (h : allDig s k) (g : dig s k = true) : allDig s (k + 1) := by
 intro q hq
 by_cases e : q = k
 · subst e; exact g
 · exact h q (by omega)
theorem dig_bd {s : ByteArray} {k : Nat} (h : dig s k = true) : 48 ≤ ch s k ∧ ch s k ≤ 57 := by simpa [dig] using h
def Prs (s : ByteArray) (k g : Nat) (wr : World) : Prop := wr.heap[g]? = some (.cells #[.int .i64 (pr s k 0), .int .i64 (pr s k 1), .int .i64 (pr s k 2)] 119 (0, 0))
theorem Prs.zero (s : ByteArray) {g : Nat} {wr : World} (h : wr.heap[g]? = some (.cells #[.int .i64 0, .int .i64 0, .int .i64 0] 119 (0, 0))) : Prs s 0 g wr := by
 unfold Prs; simpa [pr] using h
theorem Prs.step {s : ByteArray} {k g j : Nat} {wr : World} {v : Int} (h : Prs s k g wr) (hk : k < 6) (hj : j = k / 2) (hv : v = pr s (k + 1) j) : Prs s (k + 1) g (wr.setCell ⟨g, j, none⟩ (.int .i64 v)) := by
 subst hv hj
 have e := block_set h (i := k / 2) (.int .i64 (pr s (k + 1) (k / 2)))
 unfold Prs
 rw [e]
 have hk' : k = 0 ∨ k = 1 ∨ k = 2 ∨ k = 3 ∨ k = 4 ∨ k = 5 := by omega
 rcases hk' with rfl | rfl | rfl | rfl | rfl | rfl <;> simp [pr]
theorem Prs.drewN {s : ByteArray} {k g : Nat} {wr : World} (h : Prs s k g wr) (n : Nat) : Prs s k g (wr.drewN n) := h
def RpRel (s : ByteArray) (w : World) (k : Nat) (wr : World) : Prop :=
 Below w.heap.size w wr ∧ wr.heap[w.heap.size]? = some (.cells #[.int .i64 0, .int .i64 0, .int .i64 0] 119 (0, 0)) ∧ Prs s k (w.heap.size + 1) wr ∧ allDig s k
theorem RpRel.step {s : ByteArray} {w wr : World} {k j n : Nat} {v : Int} (h : RpRel s w k wr) (hk : k < 6) (hj : j = k / 2) (hv : v = pr s (k + 1) j) (hd : dig s k = true) : RpRel s w (k + 1) ((wr.drewN n).setCell ⟨w.heap.size + 1, j, none⟩ (.int .i64 v)) := by
 obtain ⟨hb, h0, h1, h2⟩ := h
 exact ⟨(below_dn hb n).setCell (by simp) _, block_far (a := ⟨w.heap.size + 1, j, none⟩) h0 (by simp) _, (h1.drewN n).step hk hj hv, allDig_succ h2 hd⟩
def rpOk (s : ByteArray) : Bool := decide (s.size = 6) && (List.range 6).all (dig s)
theorem rpOk_yes {s : ByteArray} (h : s.size = 6) (g : allDig s 6) : rpOk s = true := by
 unfold rpOk
 rw [Bool.and_eq_true]
 exact ⟨by simpa using h, by rw [List.all_eq_true]; intro q hq; exact g q (List.mem_range.1 hq)⟩
theorem rpOk_no {s : ByteArray} {k : Nat} (hk : k < 6) (g : dig s k = false) : rpOk s = false := by
 unfold rpOk
 rw [Bool.and_eq_false_iff]
 right
 rw [List.all_eq_false]
 exact ⟨k, List.mem_range.2 hk, by simp [g]⟩
theorem rpOk_size {s : ByteArray} (h : s.size ≠ 6) : rpOk s = false := by
 unfold rpOk; simp [h]
def RpEnd (s : ByteArray) (w : World) (e : Ending) (w' : World) : Prop :=
 (if rpOk s = true then e = .returned (.tuple #[.agg #[.int .i64 (pr s 6 0), .int .i64 (pr s 6 1), .int .i64 (pr s 6 2)], .bool true])
  else e = .returned (.tuple #[.agg #[.int .i64 0, .int .i64 0, .int .i64 0], .bool false])) ∧ Below w.heap.size w w'
theorem rp_bad {s : ByteArray} {w w' : World} (h : rpOk s = false) (hb : Below w.heap.size w w') : RpEnd s w (.returned (.tuple #[.agg #[.int .i64 0, .int .i64 0, .int .i64 0], .bool false])) w' := by
 unfold RpEnd; rw [if_neg (by rw [h]; decide)]; exact ⟨rfl, hb⟩
theorem rp_good {s : ByteArray} {w w' : World} (h : rpOk s = true) (hb : Below w.heap.size w w') : RpEnd s w (.returned (.tuple #[.agg #[.int .i64 (pr s 6 0), .int .i64 (pr s 6 1), .int .i64 (pr s 6 2)], .bool true])) w' := by
 unfold RpEnd; rw [if_pos h]; exact ⟨rfl, hb⟩
theorem RpRel.start (s : ByteArray) (w : World) : RpRel s w 0 ((w.alloc (.cells #[.int .i64 0, .int .i64 0, .int .i64 0] 119)).alloc (.cells #[.int .i64 0, .int .i64 0, .int .i64 0] 119)) :=
 ⟨((Below.refl _ _).alloc (Nat.le_refl _) _).alloc (by simp) _, block_alloc (heap_alloc_new w _) _, Prs.zero s (block_next w _ _), fun q h => by omega⟩
set_option maxHeartbeats 4000000 in
theorem read_pairs (s : ByteArray) (w : World) (_m : s.size ≤ maxLen) :
 Calls Tryz.prog 160 #[.string s] w (RpEnd s w) := by
 by_cases h6 : s.size = 6
 ·
  have d6 : ((s.size : Int) != 6) = false := by simp; omega
  have H6 := Lib.hid h6
  have z1 : s.size ≤ 6 := by omega
  have z2 : 6 ≤ s.size := by omega
  clear h6
  go_enter Tryz.func160, Tryz.ntmps160
  go_wp2
  go_loopw [12] (fun i wr => ∃ k : Nat, k ≤ 6 ∧ i = .int .i64 (k : Int) ∧ Hid (RpRel s w k wr)) (fun i _ => 6 - (intOf i).toNat)
  case atStart => exact ⟨0, by omega, rfl, Lib.hid (RpRel.start s w)⟩
  case round =>
   obtain ⟨k, hk, rfl, HR⟩ := hrel
   by_cases hlt : k < 6
   ·
    have hks : k < s.size := by omega
    have hc := ch_at s k hks
    obtain ⟨c, hcc⟩ : ∃ c, c = ch s k := ⟨_, rfl⟩
    have hc8 : c < 256 := by rw [hcc]; exact ch_lt s k
    rw [← hcc] at hc
    have HC := Lib.hid hcc
    have hi : (s[k].toNat : Int) = (c : Int) := by rw [hc]
    clear hcc hc
    by_cases hD : dig s k = true
    ·
     have hd := dig_bd hD
     rw [← HC.out] at hd
     obtain ⟨hd1, hd2⟩ := hd
     have t1 : decide ((c : Int) < 48) = false := by simp; omega
     have t2 : decide ((57 : Int) < (c : Int)) = false := by simp; omega
     have b1 := HR.out.2.2.1
     unfold Prs at b1
     have hk6 : k = 0 ∨ k = 1 ∨ k = 2 ∨ k = 3 ∨ k = 4 ∨ k = 5 := by omega
     have HD := Lib.hid hD
     clear hD
     have hbd : ∀ j, -1000 ≤ pr s k j ∧ pr s k j ≤ 10000 := fun j => by
      have h1 := ch_lt s (2 * j)
      have h2 := ch_lt s (2 * j + 1)
      unfold pr; repeat' split
      all_goals omega
     rcases hk6 with rfl | rfl | rfl | rfl | rfl | rfl
     · have hb0 := hbd 0
       have c0 : wr.cell? ⟨w.heap.size + 1, 0, none⟩ = some (.int .i64 (pr s 0 0)) := cell_of_row wr (w.heap.size + 1) 0 _ _ _ b1
       have f0 := frozen_of_row wr (w.heap.size + 1) 0 _ _ b1
       have hv : pr s 0 0 * 10 + ((c : Int) - 48) = pr s (0 + 1) 0 := by rw [HC.out]; simp [pr]
       have HV := Lib.hid hv
       clear b1 hbd hv
       go_wp2
       go_region
       all_goals
        go_wp2
        go_roundw
        case rel => exact ⟨1, by omega, by go_num, Lib.hid (HR.out.step hlt rfl HV.out HD.out)⟩
        case measure => simp [intOf]
     · have hb0 := hbd 0
       have c0 : wr.cell? ⟨w.heap.size + 1, 0, none⟩ = some (.int .i64 (pr s 1 0)) := cell_of_row wr (w.heap.size + 1) 0 _ _ _ b1
       have f0 := frozen_of_row wr (w.heap.size + 1) 0 _ _ b1
       have hv : pr s 1 0 * 10 + ((c : Int) - 48) = pr s (1 + 1) 0 := by rw [HC.out]; simp [pr]
       have HV := Lib.hid hv
       clear b1 hbd hv
       go_wp2
       go_region
       all_goals
        go_wp2
        go_roundw
        case rel => exact ⟨2, by omega, by go_num, Lib.hid (HR.out.step hlt rfl HV.out HD.out)⟩
        case measure => simp [intOf]
     · have hb0 := hbd 1
       have c0 : wr.cell? ⟨w.heap.size + 1, 1, none⟩ = some (.int .i64 (pr s 2 1)) := cell_of_row wr (w.heap.size + 1) 1 _ _ _ b1
       have f0 := frozen_of_row wr (w.heap.size + 1) 1 _ _ b1
       have hv : pr s 2 1 * 10 + ((c : Int) - 48) = pr s (2 + 1) 1 := by rw [HC.out]; simp [pr]
       have HV := Lib.hid hv
       clear b1 hbd hv
       go_wp2
       go_region
       all_goals
        go_wp2
        go_roundw
        case rel => exact ⟨3, by omega, by go_num, Lib.hid (HR.out.step hlt rfl HV.out HD.out)⟩
        case measure => simp [intOf]
     · have hb0 := hbd 1
       have c0 : wr.cell? ⟨w.heap.size + 1, 1, none⟩ = some (.int .i64 (pr s 3 1)) := cell_of_row wr (w.heap.size + 1) 1 _ _ _ b1
       have f0 := frozen_of_row wr (w.heap.size + 1) 1 _ _ b1
       have hv : pr s 3 1 * 10 + ((c : Int) - 48) = pr s (3 + 1) 1 := by rw [HC.out]; simp [pr]
       have HV := Lib.hid hv
       clear b1 hbd hv
       go_wp2
       go_region
       all_goals
        go_wp2
        go_roundw
        case rel => exact ⟨4, by omega, by go_num, Lib.hid (HR.out.step hlt rfl HV.out HD.out)⟩
        case measure => simp [intOf]
     · have hb0 := hbd 2
       have c0 : wr.cell? ⟨w.heap.size + 1, 2, none⟩ = some (.int .i64 (pr s 4 2)) := cell_of_row wr (w.heap.size + 1) 2 _ _ _ b1
       have f0 := frozen_of_row wr (w.heap.size + 1) 2 _ _ b1
       have hv : pr s 4 2 * 10 + ((c : Int) - 48) = pr s (4 + 1) 2 := by rw [HC.out]; simp [pr]
       have HV := Lib.hid hv
       clear b1 hbd hv
       go_wp2
       go_region
       all_goals
        go_wp2
        go_roundw
        case rel => exact ⟨5, by omega, by go_num, Lib.hid (HR.out.step hlt rfl HV.out HD.out)⟩
        case measure => simp [intOf]
     · have hb0 := hbd 2
       have c0 : wr.cell? ⟨w.heap.size + 1, 2, none⟩ = some (.int .i64 (pr s 5 2)) := cell_of_row wr (w.heap.size + 1) 2 _ _ _ b1
       have f0 := frozen_of_row wr (w.heap.size + 1) 2 _ _ b1
       have hv : pr s 5 2 * 10 + ((c : Int) - 48) = pr s (5 + 1) 2 := by rw [HC.out]; simp [pr]
       have HV := Lib.hid hv
       clear b1 hbd hv
       go_wp2
       go_region
       all_goals
        go_wp2
        go_roundw
        case rel => exact ⟨6, by omega, by go_num, Lib.hid (HR.out.step hlt rfl HV.out HD.out)⟩
        case measure => simp [intOf]
    ·
     have hD : dig s k = false := by simpa using hD
     have HN := Lib.hid (rpOk_no hlt hD)
     have HB := Lib.hid HR.out.1
     have b0 := HR.out.2.1
     have B0 := Lib.hid b0
     have hd : c < 48 ∨ 57 < c := by
      rw [HC.out]
      by_cases h : ch s k < 48
      · exact .inl h
      · right; unfold dig at hD; rw [Bool.and_eq_false_iff] at hD; simp at hD; omega
     have f0 := frozen_of_row wr w.heap.size 0 _ _ b0
     have f1 := frozen_of_row wr w.heap.size 1 _ _ b0
     have f2 := frozen_of_row wr w.heap.size 2 _ _ b0
     have g0 := cell_of_row wr w.heap.size 0 _ _ _ b0
     have g1 := cell_of_row wr w.heap.size 1 _ _ _ b0
     have g2 := cell_of_row wr w.heap.size 2 _ _ _ b0
     simp only [List.getElem?_toArray, List.getElem?_cons_succ, List.getElem?_cons_zero] at g0 g1 g2
     clear b0 hD
     rcases hd with hd | hd
     · have t1 : decide ((c : Int) < 48) = true := by simp; omega
       go_wp2
       refine bodyPost_ret (ret_cell_tmp rfl _ _ _ _ _ _ _ rfl (block_set (block_set (block_set B0.out _) _) _) Tryz.underlying119 rfl info_arr3) rfl ?_
       exact rp_bad HN.out (((HB.out.setCell (by simp) _).setCell (by simp) _).setCell (by simp) _)
     · have t1 : decide ((c : Int) < 48) = false := by simp; omega
       have t2 : decide ((57 : Int) < (c : Int)) = true := by simp; omega
       go_wp2
       refine bodyPost_ret (ret_cell_tmp rfl _ _ _ _ _ _ _ rfl (block_set (block_set (block_set B0.out _) _) _) Tryz.underlying119 rfl info_arr3) rfl ?_
       exact rp_bad HN.out (((HB.out.setCell (by simp) _).setCell (by simp) _).setCell (by simp) _)
   ·
    obtain rfl : k = 6 := by omega
    have hg := HR.out.2.2.2
    have HG := Lib.hid (rpOk_yes H6.out hg)
    have HB := Lib.hid HR.out.1
    have b0 := HR.out.2.1
    have B0 := Lib.hid b0
    have b1 := HR.out.2.2.1
    unfold Prs at b1
    have f0 := frozen_of_row wr w.heap.size 0 _ _ b0
    have f1 := frozen_of_row wr w.heap.size 1 _ _ b0
    have f2 := frozen_of_row wr w.heap.size 2 _ _ b0
    have g0 : wr.cell? ⟨w.heap.size, 0, none⟩ = some (.int .i64 0) := cell_of_row wr w.heap.size 0 _ _ _ b0
    have g1 : wr.cell? ⟨w.heap.size, 1, none⟩ = some (.int .i64 0) := cell_of_row wr w.heap.size 1 _ _ _ b0
    have g2 : wr.cell? ⟨w.heap.size, 2, none⟩ = some (.int .i64 0) := cell_of_row wr w.heap.size 2 _ _ _ b0
    have c0 : wr.cell? ⟨w.heap.size + 1, 0, none⟩ = some (.int .i64 (pr s 6 0)) := cell_of_row wr (w.heap.size + 1) 0 _ _ _ b1
    have c1 : wr.cell? ⟨w.heap.size + 1, 1, none⟩ = some (.int .i64 (pr s 6 1)) := cell_of_row wr (w.heap.size + 1) 1 _ _ _ b1
    have c2 : wr.cell? ⟨w.heap.size + 1, 2, none⟩ = some (.int .i64 (pr s 6 2)) := cell_of_row wr (w.heap.size + 1) 2 _ _ _ b1
    clear b0 b1 hg
    go_wp2
    refine bodyPost_ret (ret_cell_tmp rfl _ _ _ _ _ _ _ rfl (block_set (block_set (block_set B0.out _) _) _) Tryz.underlying119 rfl info_arr3) rfl ?_
    exact rp_good HG.out (((HB.out.setCell (by simp) _).setCell (by simp) _).setCell (by simp) _)
 · have d6 : ((s.size : Int) != 6) = true := by simp; omega
   have HN := Lib.hid (rpOk_size h6)
   clear h6
   go_enter Tryz.func160, Tryz.ntmps160
   go_wp2
   first | (refine bodyPost_ret (ret_cell_tmp rfl _ _ _ _ _ _ _ rfl (block_set (block_set (block_set (block_alloc (heap_alloc_new _ _) _) _) _) _) Tryz.underlying119 rfl info_arr3) rfl ?_) | (refine bodyPost_ret (ret_cell_tmp rfl _ _ _ _ _ _ _ rfl (block_alloc (heap_alloc_new _ _) _) Tryz.underlying119 rfl info_arr3) rfl ?_)
   refine rp_bad HN.out ?_
   repeat' (first | exact Below.refl _ _ | refine Below.setCell ?_ ?_ _ | refine Below.alloc ?_ ?_ _ | (simp; done))
def fy (p f : Int) : Int := if f - f % 100 + p < f then f - f % 100 + p + 100 else f - f % 100 + p
theorem full_year (p f : Int) (w : World) (p1 : 0 ≤ p) (p2 : p ≤ 99) (f1 : 1900 ≤ f) (f2 : f ≤ 2000) :
 Calls Tryz.prog 162 #[.int .i64 p, .int .i64 f] w fun e w' => e = .returned (.int .i64 (fy p f)) ∧ w' = w := by
 by_cases h : f - f % 100 + p < f
 · have e : fy p f = f - f % 100 + p + 100 := by unfold fy; rw [if_pos h]
   rw [e]; clear e
   go_enter Tryz.func162, Tryz.ntmps162
   go_wp2
   go_ret
   exact ⟨rfl, rfl⟩
 · have e : fy p f = f - f % 100 + p := by unfold fy; rw [if_neg h]
   rw [e]; clear e
   go_enter Tryz.func162, Tryz.ntmps162
   go_wp2
   go_ret
   exact ⟨rfl, rfl⟩
theorem pr_bd {s : ByteArray} (h : rpOk s = true) (j : Nat) (hj : j < 3) : 0 ≤ pr s 6 j ∧ pr s 6 j ≤ 99 := by
 unfold rpOk at h
 rw [Bool.and_eq_true, List.all_eq_true] at h
 have d1 := dig_bd (h.2 (2 * j) (List.mem_range.2 (by omega)))
 have d2 := dig_bd (h.2 (2 * j + 1) (List.mem_range.2 (by omega)))
 unfold pr
 rw [if_neg (by omega), if_neg (by omega)]
 omega
def psV (s : ByteArray) (f : Int) : Int := if (1900 ≤ f ∧ f ≤ 2000) ∧ rpOk s = true then ofV (fy (pr s 6 0) f) (pr s 6 1) (pr s 6 2) else 0
def psE (s : ByteArray) (f : Int) : Int := if 1900 ≤ f ∧ f ≤ 2000 then (if rpOk s = true then ofE (fy (pr s 6 0) f) (pr s 6 1) (pr s 6 2) else 1) else 3
def PsEnd (s : ByteArray) (f : Int) (w : World) (e : Ending) (w' : World) : Prop := e = .returned (.tuple #[.int .i64 (psV s f), .int .i64 (psE s f)]) ∧ Below w.heap.size w w'
theorem ps_range {s : ByteArray} {f : Int} {w w' : World} (h : f < 1900 ∨ 2000 < f) (hb : Below w.heap.size w w') : PsEnd s f w (.returned (.tuple #[.int .i64 0, .int .i64 3])) w' := by
 have e1 : psV s f = 0 := by unfold psV; rw [if_neg (fun g => by omega)]
 have e2 : psE s f = 3 := by unfold psE; rw [if_neg (by omega)]
 unfold PsEnd; rw [e1, e2]; exact ⟨rfl, hb⟩
theorem ps_form {s : ByteArray} {f : Int} {w w' : World} (f1 : 1900 ≤ f) (f2 : f ≤ 2000) (h : rpOk s = false) (hb : Below w.heap.size w w') : PsEnd s f w (.returned (.tuple #[.int .i64 0, .int .i64 1])) w' := by
 have e1 : psV s f = 0 := by unfold psV; rw [if_neg (fun g => by rw [h] at g; exact absurd g.2 (by decide))]
 have e2 : psE s f = 1 := by unfold psE; rw [if_pos ⟨f1, f2⟩, if_neg (by rw [h]; decide)]
 unfold PsEnd; rw [e1, e2]; exact ⟨rfl, hb⟩
theorem ps_ok {s : ByteArray} {f : Int} {w w' : World} (f1 : 1900 ≤ f) (f2 : f ≤ 2000) (h : rpOk s = true) (hb : Below w.heap.size w w') :
 PsEnd s f w (.returned (.tuple #[.int .i64 (ofV (fy (pr s 6 0) f) (pr s 6 1) (pr s 6 2)), .int .i64 (ofE (fy (pr s 6 0) f) (pr s 6 1) (pr s 6 2))])) w' := by
 have e1 : psV s f = ofV (fy (pr s 6 0) f) (pr s 6 1) (pr s 6 2) := by unfold psV; rw [if_pos ⟨⟨f1, f2⟩, h⟩]
 have e2 : psE s f = ofE (fy (pr s 6 0) f) (pr s 6 1) (pr s 6 2) := by unfold psE; rw [if_pos ⟨f1, f2⟩, if_pos h]
 unfold PsEnd; rw [e1, e2]; exact ⟨rfl, hb⟩
set_option maxHeartbeats 2000000 in
theorem day_parse (s : ByteArray) (f : Int) (w : World) (ht : Tab w) (m : s.size ≤ maxLen) :
 Calls Tryz.prog 137 #[.string s, .int .i64 f] w (PsEnd s f w) := by
 by_cases h1 : f < 1900
 · have H := @ps_range s f w w (.inl h1) (Below.refl _ _)
   have d1 : decide (f < 1900) = true := by simpa using h1
   clear h1 m
   go_enter Tryz.func137, Tryz.ntmps137
   go_wp2
   go_ret2
   exact H
 ·
  have d1 : decide (f < 1900) = false := by simpa using h1
  by_cases h2 : 2000 < f
  · have H := @ps_range s f w w (.inr h2) (Below.refl _ _)
    have d2 : decide (2000 < f) = true := by simpa using h2
    clear h1 h2 m
    go_enter Tryz.func137, Tryz.ntmps137
    go_wp2
    go_ret2
    exact H
  ·
   have d2 : decide (2000 < f) = false := by simpa using h2
   have f1 : 1900 ≤ f := by omega
   have f2 : f ≤ 2000 := by omega
   clear h1 h2
   have RP := Lib.hid (read_pairs s w m)
   clear m
   by_cases hok : rpOk s = true
   ·
    have p0 := pr_bd hok 0 (by omega)
    have FY := Lib.hid (fun w => full_year (pr s 6 0) f w p0.1 p0.2 f1 f2)
    have HS := Lib.hid (fun w' (hb : Below w.heap.size w w') => ps_ok f1 f2 hok hb)
    clear p0
    go_enter Tryz.func137, Tryz.ntmps137
    go_wp2_with fail
    refine RP.out.mono ?_
    rintro e w1 ⟨he, hb⟩
    rw [if_pos hok] at he
    subst he
    have HB := Lib.hid hb
    have HT := Lib.hid (ht.on hb ht.1)
    clear ht hb RP hok
    go_wp2
    obtain ⟨w2, hw2⟩ : ∃ w2, w2 = w1.alloc (.cells #[.int .i64 (pr s 6 0), .int .i64 (pr s 6 1), .int .i64 (pr s 6 2)] 119) := ⟨_, rfl⟩
    have b2 : w2.heap[w1.heap.size]? = some (.cells #[.int .i64 (pr s 6 0), .int .i64 (pr s 6 1), .int .i64 (pr s 6 2)] 119 (0, 0)) := by rw [hw2]; exact heap_alloc_new _ _
    have c0 : w2.cell? ⟨w1.heap.size, 0, none⟩ = some (.int .i64 (pr s 6 0)) := cell_of_row w2 w1.heap.size 0 _ _ _ b2
    have c1 : w2.cell? ⟨w1.heap.size, 1, none⟩ = some (.int .i64 (pr s 6 1)) := cell_of_row w2 w1.heap.size 1 _ _ _ b2
    have c2 : w2.cell? ⟨w1.heap.size, 2, none⟩ = some (.int .i64 (pr s 6 2)) := cell_of_row w2 w1.heap.size 2 _ _ _ b2
    have HB2 : Hid (Below w.heap.size w w2) := Lib.hid (by rw [hw2]; exact HB.out.alloc HB.out.size _)
    have HT2 : Hid (Tab w2) := Lib.hid (by rw [hw2]; exact HT.out.on ((Below.refl w1.heap.size w1).alloc (Nat.le_refl _) _) HT.out.1)
    rw [← hw2]
    clear b2 hw2 HB HT
    go_quiet ((first | (go_at_call 162; exact Calls.quiet_of_same (FY.out _)) | (go_at_call 161; exact Calls.quiet_of_same (day_of _ _ _ _ HT2.out))))
    go_wp2
    go_ret2
    exact HS.out _ (below_dn HB2.out _)
   ·
    have hok : rpOk s = false := by simpa using hok
    have H := Lib.hid (fun w' => @ps_form s f w w' f1 f2 hok)
    go_enter Tryz.func137, Tryz.ntmps137
    go_wp2_with fail
    refine RP.out.mono ?_
    rintro e w1 ⟨he, hb⟩
    rw [hok] at he
    simp only [Bool.false_eq_true, if_false] at he
    subst he
    have HB := Lib.hid hb
    clear ht hb RP hok
    go_wp2
    go_ret2
    refine H.out _ ?_
    repeat' (first | exact HB.out | refine Below.setCell ?_ ?_ _ | refine Below.alloc ?_ ?_ _ | (simp; done) | exact HB.out.size)
def RfRel (s : ByteArray) (w : World) (k : Nat) (wr : World) : Prop := Below w.heap.size w wr ∧ Prs s k w.heap.size wr ∧ allDig s k
theorem RfRel.step {s : ByteArray} {w wr : World} {k j n : Nat} {v : Int} (h : RfRel s w k wr) (hk : k < 6) (hj : j = k / 2) (hv : v = pr s (k + 1) j) (hd : dig s k = true) : RfRel s w (k + 1) ((wr.drewN n).setCell ⟨w.heap.size, j, none⟩ (.int .i64 v)) := by
 obtain ⟨hb, h1, h2⟩ := h
 exact ⟨(below_dn hb n).setCell (by simp) _, (h1.drewN n).step hk hj hv, allDig_succ h2 hd⟩
theorem RfRel.start (s : ByteArray) (w : World) : RfRel s w 0 (w.alloc (.cells #[.int .i64 0, .int .i64 0, .int .i64 0] 119)) :=
 ⟨(Below.refl _ _).alloc (Nat.le_refl _) _, Prs.zero s (heap_alloc_new w _), fun q h => by omega⟩
set_option maxHeartbeats 4000000 in
theorem r_parse (s : ByteArray) (f : Int) (w : World) (_m : s.size ≤ maxLen) :
 Calls Tryz.prog 89 #[.string s, .int .i64 f] w (PsEnd s f w) := by
 by_cases h1 : f < 1900
 · have H := @ps_range s f w w (.inl h1) (Below.refl _ _)
   have d1 : decide (f < 1900) = true := by simpa using h1
   clear h1
   go_enter Tryz.func89, Tryz.ntmps89
   go_wp2
   go_ret2
   exact H
 ·
  have d1 : decide (f < 1900) = false := by simpa using h1
  by_cases h2 : 2000 < f
  · have H := @ps_range s f w w (.inr h2) (Below.refl _ _)
    have d2 : decide (2000 < f) = true := by simpa using h2
    clear h1 h2
    go_enter Tryz.func89, Tryz.ntmps89
    go_wp2
    go_ret2
    exact H
  ·
   have d2 : decide (2000 < f) = false := by simpa using h2
   have f1 : 1900 ≤ f := by omega
   have f2 : f ≤ 2000 := by omega
   clear h1 h2
   by_cases h6 : s.size = 6
   ·
    have d6 : ((s.size : Int) != 6) = false := by simp; omega
    have H6 := Lib.hid h6
    have z1 : s.size ≤ 6 := by omega
    have z2 : 6 ≤ s.size := by omega
    have HF := Lib.hid (fun w' (h : rpOk s = false) (hb : Below w.heap.size w w') => ps_form f1 f2 h hb)
    have HS := Lib.hid (fun w' (h : rpOk s = true) (hb : Below w.heap.size w w') => ps_ok f1 f2 h hb)
    clear h6
    go_enter Tryz.func89, Tryz.ntmps89
    go_wp2
    go_loopw [7] (fun i wr => ∃ k : Nat, k ≤ 6 ∧ i = .int .i64 (k : Int) ∧ Hid (RfRel s w k wr)) (fun i _ => 6 - (intOf i).toNat)
    case atStart => exact ⟨0, by omega, rfl, Lib.hid (RfRel.start s w)⟩
    case round =>
     obtain ⟨k, hk, rfl, HR⟩ := hrel
     by_cases hlt : k < 6
     ·
      have hks : k < s.size := by omega
      have hc := ch_at s k hks
      obtain ⟨c, hcc⟩ : ∃ c, c = ch s k := ⟨_, rfl⟩
      have hc8 : c < 256 := by rw [hcc]; exact ch_lt s k
      rw [← hcc] at hc
      have HC := Lib.hid hcc
      have hi : (s[k].toNat : Int) = (c : Int) := by rw [hc]
      clear hcc hc
      by_cases hD : dig s k = true
      ·
       have hd := dig_bd hD
       rw [← HC.out] at hd
       obtain ⟨hd1, hd2⟩ := hd
       have t1 : decide ((c : Int) < 48) = false := by simp; omega
       have t2 : decide ((57 : Int) < (c : Int)) = false := by simp; omega
       have b1 := HR.out.2.1
       unfold Prs at b1
       have hk6 : k = 0 ∨ k = 1 ∨ k = 2 ∨ k = 3 ∨ k = 4 ∨ k = 5 := by omega
       have HD := Lib.hid hD
       clear hD
       have hbd : ∀ j, -1000 ≤ pr s k j ∧ pr s k j ≤ 10000 := fun j => by
        have h1 := ch_lt s (2 * j)
        have h2 := ch_lt s (2 * j + 1)
        unfold pr; repeat' split
        all_goals omega
       rcases hk6 with rfl | rfl | rfl | rfl | rfl | rfl
       · have hb0 := hbd 0
         have c0 : wr.cell? ⟨w.heap.size, 0, none⟩ = some (.int .i64 (pr s 0 0)) := cell_of_row wr w.heap.size 0 _ _ _ b1
         have f0 := frozen_of_row wr w.heap.size 0 _ _ b1
         have hv : 10 * pr s 0 0 + ((c : Int) - 48) = pr s (0 + 1) 0 := by rw [HC.out]; simp [pr]
         have HV := Lib.hid hv
         clear b1 hbd hv
         go_wp2
         go_region
         all_goals
          go_wp2
          go_roundw
          case rel => exact ⟨1, by omega, by go_num, Lib.hid (HR.out.step hlt rfl HV.out HD.out)⟩
          case measure => simp [intOf]
       · have hb0 := hbd 0
         have c0 : wr.cell? ⟨w.heap.size, 0, none⟩ = some (.int .i64 (pr s 1 0)) := cell_of_row wr w.heap.size 0 _ _ _ b1
         have f0 := frozen_of_row wr w.heap.size 0 _ _ b1
         have hv : 10 * pr s 1 0 + ((c : Int) - 48) = pr s (1 + 1) 0 := by rw [HC.out]; simp [pr]; omega
         have HV := Lib.hid hv
         clear b1 hbd hv
         go_wp2
         go_region
         all_goals
          go_wp2
          go_roundw
          case rel => exact ⟨2, by omega, by go_num, Lib.hid (HR.out.step hlt rfl HV.out HD.out)⟩
          case measure => simp [intOf]
       · have hb0 := hbd 1
         have c0 : wr.cell? ⟨w.heap.size, 1, none⟩ = some (.int .i64 (pr s 2 1)) := cell_of_row wr w.heap.size 1 _ _ _ b1
         have f0 := frozen_of_row wr w.heap.size 1 _ _ b1
         have hv : 10 * pr s 2 1 + ((c : Int) - 48) = pr s (2 + 1) 1 := by rw [HC.out]; simp [pr]
         have HV := Lib.hid hv
         clear b1 hbd hv
         go_wp2
         go_region
         all_goals
          go_wp2
          go_roundw
          case rel => exact ⟨3, by omega, by go_num, Lib.hid (HR.out.step hlt rfl HV.out HD.out)⟩
          case measure => simp [intOf]
       · have hb0 := hbd 1
         have c0 : wr.cell? ⟨w.heap.size, 1, none⟩ = some (.int .i64 (pr s 3 1)) := cell_of_row wr w.heap.size 1 _ _ _ b1
         have f0 := frozen_of_row wr w.heap.size 1 _ _ b1
         have hv : 10 * pr s 3 1 + ((c : Int) - 48) = pr s (3 + 1) 1 := by rw [HC.out]; simp [pr]; omega
         have HV := Lib.hid hv
         clear b1 hbd hv
         go_wp2
         go_region
         all_goals
          go_wp2
          go_roundw
          case rel => exact ⟨4, by omega, by go_num, Lib.hid (HR.out.step hlt rfl HV.out HD.out)⟩
          case measure => simp [intOf]
       · have hb0 := hbd 2
         have c0 : wr.cell? ⟨w.heap.size, 2, none⟩ = some (.int .i64 (pr s 4 2)) := cell_of_row wr w.heap.size 2 _ _ _ b1
         have f0 := frozen_of_row wr w.heap.size 2 _ _ b1
         have hv : 10 * pr s 4 2 + ((c : Int) - 48) = pr s (4 + 1) 2 := by rw [HC.out]; simp [pr]
         have HV := Lib.hid hv
         clear b1 hbd hv
         go_wp2
         go_region
         all_goals
          go_wp2
          go_roundw
          case rel => exact ⟨5, by omega, by go_num, Lib.hid (HR.out.step hlt rfl HV.out HD.out)⟩
          case measure => simp [intOf]
       · have hb0 := hbd 2
         have c0 : wr.cell? ⟨w.heap.size, 2, none⟩ = some (.int .i64 (pr s 5 2)) := cell_of_row wr w.heap.size 2 _ _ _ b1
         have f0 := frozen_of_row wr w.heap.size 2 _ _ b1
         have hv : 10 * pr s 5 2 + ((c : Int) - 48) = pr s (5 + 1) 2 := by rw [HC.out]; simp [pr]; omega
         have HV := Lib.hid hv
         clear b1 hbd hv
         go_wp2
         go_region
         all_goals
          go_wp2
          go_roundw
          case rel => exact ⟨6, by omega, by go_num, Lib.hid (HR.out.step hlt rfl HV.out HD.out)⟩
          case measure => simp [intOf]
      ·
       have hD : dig s k = false := by simpa using hD
       have HN := Lib.hid (rpOk_no hlt hD)
       have HB := Lib.hid HR.out.1
       have hd : c < 48 ∨ 57 < c := by
        rw [HC.out]
        by_cases h : ch s k < 48
        · exact .inl h
        · right; unfold dig at hD; rw [Bool.and_eq_false_iff] at hD; simp at hD; omega
       clear hD
       rcases hd with hd | hd
       · have t1 : decide ((c : Int) < 48) = true := by simp; omega
         go_wp2
         go_ret2
         exact HF.out _ HN.out HB.out
       · have t1 : decide ((c : Int) < 48) = false := by simp; omega
         have t2 : decide ((57 : Int) < (c : Int)) = true := by simp; omega
         go_wp2
         go_ret2
         exact HF.out _ HN.out HB.out
     ·
      obtain rfl : k = 6 := by omega
      have hg := HR.out.2.2
      have hok := rpOk_yes H6.out hg
      have p0 := pr_bd hok 0 (by omega)
      have HG := Lib.hid hok
      have HB := Lib.hid HR.out.1
      have b1 := HR.out.2.1
      unfold Prs at b1
      have c0 : wr.cell? ⟨w.heap.size, 0, none⟩ = some (.int .i64 (pr s 6 0)) := cell_of_row wr w.heap.size 0 _ _ _ b1
      have c1 : wr.cell? ⟨w.heap.size, 1, none⟩ = some (.int .i64 (pr s 6 1)) := cell_of_row wr w.heap.size 1 _ _ _ b1
      have c2 : wr.cell? ⟨w.heap.size, 2, none⟩ = some (.int .i64 (pr s 6 2)) := cell_of_row wr w.heap.size 2 _ _ _ b1
      clear b1 hg hok
      by_cases hy : f - f % 100 + pr s 6 0 < f
      · have HY : Hid (fy (pr s 6 0) f = f - f % 100 + pr s 6 0 + 100) := Lib.hid (by unfold fy; rw [if_pos hy])
        have HS2 := HS.out wr HG.out HB.out
        rw [HY.out] at HS2
        go_wp2_with ((go_at_call 126; with_reducible refine (r_of _ _ _ _).mono ?_); rintro e w' ⟨rfl, rfl⟩)
        go_ret2
        exact HS2
      · have HY : Hid (fy (pr s 6 0) f = f - f % 100 + pr s 6 0) := Lib.hid (by unfold fy; rw [if_neg hy])
        have HS2 := HS.out wr HG.out HB.out
        rw [HY.out] at HS2
        go_wp2_with ((go_at_call 126; with_reducible refine (r_of _ _ _ _).mono ?_); rintro e w' ⟨rfl, rfl⟩)
        go_ret2
        exact HS2
   · have d6 : ((s.size : Int) != 6) = true := by simp; omega
     have H := @ps_form s f w w f1 f2 (rpOk_size h6) (Below.refl _ _)
     clear h6
     go_enter Tryz.func89, Tryz.ntmps89
     go_wp2
     go_ret2
     exact H
def Dt (n y m d : Int) : Prop := 0 ≤ n ∧ n ≤ 73048 ∧ 1900 ≤ y ∧ y ≤ 2099 ∧ 1 ≤ m ∧ m ≤ 12 ∧ 1 ≤ d ∧ d ≤ Cal.dim y m ∧ Cal.num y m d = n
theorem dt_of (n : Int) (a : 0 ≤ n) (b : n ≤ 73048) : ∃ y m d, Dt n y m d := by
 have h := Cal.date_ok n a b
 exact ⟨_, _, _, a, b, h⟩
theorem dt_b {n y m d : Int} (h : Dt n y m d) : dayB n = true := dayB_mk h.1 h.2.1
theorem dt_eq {n y m d : Int} (h : Dt n y m d) : pY n = y ∧ pM n = m ∧ pD n = d ∧ pE n = 0 := by
 obtain ⟨h1, h2, h3, h4⟩ := p_yes (dt_b h)
 obtain ⟨a, b, y1, y2, m1, m2, d1, d2, hn⟩ := h
 obtain ⟨e1, e2, e3⟩ := Cal.date_is y1 y2 m1 m2 d1 d2 hn a b
 rw [h1, h2, h3, ← e1, ← e2, ← e3]; exact ⟨rfl, rfl, rfl, h4⟩
theorem dt_date {n y m d : Int} (h : Dt n y m d) : dateB y m d = true := by
 obtain ⟨a, b, y1, y2, m1, m2, d1, d2, hn⟩ := h
 exact dateB_mk ⟨y1, y2, m1, m2, d1, d2⟩
theorem fL_dt {n y m d : Int} (h : Dt n y m d) : fL n = pairL (y % 100) ++ pairL m ++ pairL d := by
 obtain ⟨a, b, c, _⟩ := dt_eq h
 rw [fL_yes (dt_b h), a, b, c]
theorem ch_S (l : List UInt8) (k : Nat) : ch (S l) k = (l.getD k 0).toNat := by unfold ch; rw [S_data]
theorem f_read {n y m d : Int} (h : Dt n y m d) : rpOk (S (fL n)) = true ∧ pr (S (fL n)) 6 0 = y % 100 ∧ pr (S (fL n)) 6 1 = m ∧ pr (S (fL n)) 6 2 = d := by
 have hl := fL_dt h
 obtain ⟨_, _, y1, y2, m1, m2, d1, d2, _⟩ := h
 have db := Cal.dim_bd y m
 have k0 : ch (S (fL n)) 0 = (dgt (y % 100 / 10)).toNat := by rw [ch_S, hl]; rfl
 have k1 : ch (S (fL n)) 1 = (dgt (y % 100 % 10)).toNat := by rw [ch_S, hl]; rfl
 have k2 : ch (S (fL n)) 2 = (dgt (m / 10)).toNat := by rw [ch_S, hl]; rfl
 have k3 : ch (S (fL n)) 3 = (dgt (m % 10)).toNat := by rw [ch_S, hl]; rfl
 have k4 : ch (S (fL n)) 4 = (dgt (d / 10)).toNat := by rw [ch_S, hl]; rfl
 have k5 : ch (S (fL n)) 5 = (dgt (d % 10)).toNat := by rw [ch_S, hl]; rfl
 have v0 := dgt_nat (n := y % 100 / 10) (by omega) (by omega)
 have v1 := dgt_nat (n := y % 100 % 10) (by omega) (by omega)
 have v2 := dgt_nat (n := m / 10) (by omega) (by omega)
 have v3 := dgt_nat (n := m % 10) (by omega) (by omega)
 have v4 := dgt_nat (n := d / 10) (by omega) (by omega)
 have v5 := dgt_nat (n := d % 10) (by omega) (by omega)
 rw [← k0] at v0
 rw [← k1] at v1
 rw [← k2] at v2
 rw [← k3] at v3
 rw [← k4] at v4
 rw [← k5] at v5
 refine ⟨rpOk_yes (by rw [S_size, hl]; rfl) ?_, ?_, ?_, ?_⟩
 · intro q hq
   have hq' : q = 0 ∨ q = 1 ∨ q = 2 ∨ q = 3 ∨ q = 4 ∨ q = 5 := by omega
   unfold dig
   rcases hq' with rfl | rfl | rfl | rfl | rfl | rfl <;> simp <;> omega
 · simp [pr]; omega
 · simp [pr]; omega
 · simp [pr]; omega
theorem ps_in {n y m d f : Int} (h : Dt n y m d) (f1 : 1900 ≤ f) (f2 : f ≤ 2000) (g1 : f ≤ y) (g2 : y < f + 100) : psV (S (fL n)) f = n ∧ psE (S (fL n)) f = 0 := by
 obtain ⟨r1, r2, r3, r4⟩ := f_read h
 have e : fy (y % 100) f = y := by unfold fy; split <;> omega
 obtain ⟨o1, o2⟩ := of_yes (dt_date h)
 unfold psV psE
 rw [if_pos ⟨⟨f1, f2⟩, r1⟩, if_pos ⟨f1, f2⟩, if_pos r1, r2, r3, r4, e, o1, o2]
 exact ⟨h.2.2.2.2.2.2.2.2, rfl⟩
end Go.Proofs.YtibahbkjjfmbgaaGreatDoor
