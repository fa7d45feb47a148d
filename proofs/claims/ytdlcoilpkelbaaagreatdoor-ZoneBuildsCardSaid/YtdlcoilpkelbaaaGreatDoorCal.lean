/-
  What is proved here: plain arithmetic of days and dates of the years 1900 to 2099; nothing of the program is used.
-/
namespace Go.Proofs.YtdlcoilpkelbaaaGreatDoor.Cal

/-- a day more in a leap year; the days of a month; the days ahead of a year; the days of a year ahead of a month -/
def lp (y : Int) : Int := if y % 4 = 0 ∧ y ≠ 1900 then 1 else 0
def dim (y m : Int) : Int := if m = 2 then 28 + lp y else if m = 4 ∨ m = 6 ∨ m = 9 ∨ m = 11 then 30 else 31
def ys (y : Int) : Int := (y - 1900) * 365 + (if y ≤ 1900 then 0 else (y - 1901) / 4)
def cm (l m : Int) : Int := if m ≤ 1 then 0 else if m = 2 then 31 else if m = 3 then 59 + l else if m = 4 then 90 + l else if m = 5 then 120 + l else if m = 6 then 151 + l
  else if m = 7 then 181 + l else if m = 8 then 212 + l else if m = 9 then 243 + l else if m = 10 then 273 + l else if m = 11 then 304 + l else if m = 12 then 334 + l else 365 + l
def cum (y m : Int) : Int := cm (lp y) m
def num (y m d : Int) : Int := ys y + cum y m + d - 1

theorem lp_01 (y : Int) : 0 ≤ lp y ∧ lp y ≤ 1 := by unfold lp; split <;> omega
theorem dim_bd (y m : Int) : 28 ≤ dim y m ∧ dim y m ≤ 31 := by
  have := lp_01 y
  unfold dim; split
  · omega
  · split <;> omega
theorem ys_bd (y : Int) (a : 1900 ≤ y) (b : y ≤ 2100) : 0 ≤ ys y ∧ ys y ≤ 73049 := by unfold ys; split <;> omega
theorem ys_first : ys 1900 = 0 := by decide
theorem ys_end : ys 2100 = 73049 := by decide
theorem ys_succ (y : Int) (a : 1900 ≤ y) (b : y ≤ 2099) : ys (y + 1) = ys y + 365 + lp y := by
  unfold ys lp; repeat' split
  all_goals omega
theorem ys_mono (a b : Int) (h0 : 1900 ≤ a) (h : a < b) : ys a + 365 ≤ ys b := by unfold ys; repeat' split
                                                                                  all_goals omega
theorem cum_one (y : Int) : cum y 1 = 0 := by unfold cum cm; simp
theorem cum_end (y : Int) : cum y 13 = 365 + lp y := by unfold cum cm; simp
theorem cum_bd (y m : Int) (a : 1 ≤ m) (b : m ≤ 12) : 0 ≤ cum y m ∧ cum y m ≤ 335 := by
  have := lp_01 y
  have h : m = 1 ∨ m = 2 ∨ m = 3 ∨ m = 4 ∨ m = 5 ∨ m = 6 ∨ m = 7 ∨ m = 8 ∨ m = 9 ∨ m = 10 ∨ m = 11 ∨ m = 12 := by omega
  unfold cum cm
  rcases h with rfl | rfl | rfl | rfl | rfl | rfl | rfl | rfl | rfl | rfl | rfl | rfl <;> simp <;> omega
theorem cum_succ (y m : Int) (a : 1 ≤ m) (b : m ≤ 12) : cum y (m + 1) = cum y m + dim y m := by
  have h : m = 1 ∨ m = 2 ∨ m = 3 ∨ m = 4 ∨ m = 5 ∨ m = 6 ∨ m = 7 ∨ m = 8 ∨ m = 9 ∨ m = 10 ∨ m = 11 ∨ m = 12 := by omega
  unfold cum cm dim
  rcases h with rfl | rfl | rfl | rfl | rfl | rfl | rfl | rfl | rfl | rfl | rfl | rfl <;> simp <;> omega
theorem cum_lt (y a b : Int) (h0 : 1 ≤ a) (h : a < b) (hb : b ≤ 13) : cum y a + 28 ≤ cum y b := by
  have := lp_01 y
  unfold cum cm
  repeat' split
  all_goals omega

/-- the date of a day -/
def yr (n : Int) : Int := if ys (1900 + n / 366 + 1) ≤ n then 1900 + n / 366 + 1 else 1900 + n / 366
def mf (l r : Int) : Int := if r < 31 then 1 else if r < 59 + l then 2 else if r < 90 + l then 3 else if r < 120 + l then 4 else if r < 151 + l then 5 else if r < 181 + l then 6
  else if r < 212 + l then 7 else if r < 243 + l then 8 else if r < 273 + l then 9 else if r < 304 + l then 10 else if r < 334 + l then 11 else 12
def mo (n : Int) : Int := mf (lp (yr n)) (n - ys (yr n))
def da (n : Int) : Int := n - ys (yr n) - cum (yr n) (mo n) + 1

theorem yr_lo (n : Int) (a : 0 ≤ n) (b : n ≤ 73048) : 1900 ≤ yr n ∧ yr n ≤ 2099 ∧ ys (yr n) ≤ n ∧ n < ys (yr n + 1) := by
  unfold yr ys
  repeat' split
  all_goals omega
theorem mf_ok (l r : Int) (_h : 0 ≤ l) (_h1 : l ≤ 1) (a : 0 ≤ r) (b : r < 365 + l) : 1 ≤ mf l r ∧ mf l r ≤ 12 ∧ cm l (mf l r) ≤ r ∧ r < cm l (mf l r + 1) := by
  unfold mf
  repeat' split
  all_goals (simp [cm]; omega)

theorem date_ok (n : Int) (a : 0 ≤ n) (b : n ≤ 73048) :
    1900 ≤ yr n ∧ yr n ≤ 2099 ∧ 1 ≤ mo n ∧ mo n ≤ 12 ∧ 1 ≤ da n ∧ da n ≤ dim (yr n) (mo n) ∧ num (yr n) (mo n) (da n) = n := by
  obtain ⟨y1, y2, y3, y4⟩ := yr_lo n a b
  have hs := ys_succ (yr n) y1 y2
  have hl := lp_01 (yr n)
  obtain ⟨m1, m2, m3, m4⟩ := mf_ok (lp (yr n)) (n - ys (yr n)) (by omega) (by omega) (by omega) (by omega)
  have hc := cum_succ (yr n) (mo n) m1 m2
  have m3' : cum (yr n) (mo n) ≤ n - ys (yr n) := m3
  have m4' : n - ys (yr n) < cum (yr n) (mo n + 1) := m4
  refine ⟨y1, y2, m1, m2, ?_, ?_, ?_⟩
  · unfold da; omega
  · unfold da; omega
  · unfold num da; omega

/-- a date is known by its number -/
theorem date_one {y m d y' m' d' : Int} (a1 : 1900 ≤ y) (a2 : 1 ≤ m) (a3 : m ≤ 12) (a4 : 1 ≤ d) (a5 : d ≤ dim y m) (y2 : y ≤ 2099) (y2' : y' ≤ 2099)
    (b1 : 1900 ≤ y') (b2 : 1 ≤ m') (b3 : m' ≤ 12) (b4 : 1 ≤ d') (b5 : d' ≤ dim y' m') (h : num y m d = num y' m' d') : y = y' ∧ m = m' ∧ d = d' := by
  unfold num at h
  have c1 := cum_bd y m a2 a3
  have c2 := cum_bd y' m' b2 b3
  have c3 := cum_succ y m a2 a3
  have c4 := cum_succ y' m' b2 b3
  have c5 := cum_end y
  have c6 := cum_end y'
  have top : ∀ z k : Int, 1 ≤ k → k ≤ 12 → cum z (k + 1) ≤ 365 + lp z := by
    intro z k k1 k2
    by_cases e : k = 12
    · subst e; rw [show (12 : Int) + 1 = 13 from rfl, cum_end]; omega
    · have := cum_lt z (k + 1) 13 (by omega) (by omega) (by omega)
      rw [cum_end] at this; omega
  have t1 := top y m a2 a3
  have t2 := top y' m' b2 b3
  have s1 := ys_succ y a1 y2
  have s2 := ys_succ y' b1 y2'
  have hy : y = y' := by
    rcases Int.lt_trichotomy y y' with g | g | g
    · by_cases e : y' = y + 1
      · subst e; omega
      · have := ys_mono (y + 1) y' (by omega) (by omega); omega
    · exact g
    · by_cases e : y = y' + 1
      · subst e; omega
      · have := ys_mono (y' + 1) y (by omega) (by omega); omega
  subst hy
  have hm : m = m' := by
    rcases Int.lt_trichotomy m m' with g | g | g
    · by_cases e : m' = m + 1
      · subst e; omega
      · have := cum_lt y (m + 1) m' (by omega) (by omega) (by omega); omega
    · exact g
    · by_cases e : m = m' + 1
      · subst e; omega
      · have := cum_lt y (m' + 1) m (by omega) (by omega) (by omega); omega
  subst hm
  exact ⟨rfl, rfl, by omega⟩

theorem date_is {n y m d : Int} (a1 : 1900 ≤ y) (y2 : y ≤ 2099) (a2 : 1 ≤ m) (a3 : m ≤ 12) (a4 : 1 ≤ d) (a5 : d ≤ dim y m) (h : num y m d = n) (a : 0 ≤ n) (b : n ≤ 73048) :
    y = yr n ∧ m = mo n ∧ d = da n := by
  obtain ⟨e1, e2, e3, e4, e5, e6, e7⟩ := date_ok n a b
  exact date_one a1 a2 a3 a4 a5 y2 e2 e1 e3 e4 e5 e6 (h.trans e7.symm)
theorem num_bd {y m d : Int} (a1 : 1900 ≤ y) (y2 : y ≤ 2099) (a2 : 1 ≤ m) (a3 : m ≤ 12) (a4 : 1 ≤ d) (a5 : d ≤ dim y m) : 0 ≤ num y m d ∧ num y m d ≤ 73048 := by
  have c1 := cum_bd y m a2 a3
  have c3 := cum_succ y m a2 a3
  have t1 : cum y (m + 1) ≤ 365 + lp y := by
    by_cases e : m = 12
    · subst e; rw [show (12 : Int) + 1 = 13 from rfl, cum_end]; omega
    · have := cum_lt y (m + 1) 13 (by omega) (by omega) (by omega)
      rw [cum_end] at this; omega
  have s1 := ys_succ y a1 y2
  have s2 := ys_bd y a1 (by omega)
  have s3 := ys_bd (y + 1) (by omega) (by omega)
  unfold num; omega

end Go.Proofs.YtdlcoilpkelbaaaGreatDoor.Cal
