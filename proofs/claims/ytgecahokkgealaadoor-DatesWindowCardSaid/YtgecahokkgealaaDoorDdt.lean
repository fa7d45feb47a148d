/-
  What is proved here: plain facts on days that follow each other, and what Parts and Of return for a day whose date is known.
-/
import Derived.Test.YtgecahokkgealaaDoorDpa
namespace Go.Proofs.YtgecahokkgealaaDoor
open Go.RowKit

/-- the date of a day -/
def Dt (n y m d : Int) : Prop := 0 ≤ n ∧ n ≤ 73048 ∧ 1900 ≤ y ∧ y ≤ 2099 ∧ 1 ≤ m ∧ m ≤ 12 ∧ 1 ≤ d ∧ d ≤ Cal.dim y m ∧ Cal.num y m d = n
theorem dt_of (n : Int) (a : 0 ≤ n) (b : n ≤ 73048) : ∃ y m d, Dt n y m d := by
  have h := Cal.date_ok n a b
  exact ⟨_, _, _, a, b, h⟩
theorem dt_b {n y m d : Int} (h : Dt n y m d) : dayB n = true := dayB_mk h.1 h.2.1
theorem dt_eq {n y m d : Int} (h : Dt n y m d) : pY n = y ∧ pM n = m ∧ pD n = d ∧ pE n = 0 := by
  obtain ⟨h1, h2, h3, h4⟩ := p_yes (dt_b h)
  obtain ⟨a, b, y1, y2, m1, m2, d1, d2, hn⟩ := h
  obtain ⟨e1, e2, e3⟩ := Cal.date_is y1 y2 m1 m2 d1 d2 hn a b
  rw [h1, h2, h3, ← e1, ← e2, ← e3]; exact ⟨rfl, rfl, rfl, h4⟩
theorem dt_one {n y m d y' m' d' : Int} (h : Dt n y m d) (g : Dt n y' m' d') : y = y' ∧ m = m' ∧ d = d' := by
  have a := dt_eq h
  have b := dt_eq g
  exact ⟨a.1.symm.trans b.1, a.2.1.symm.trans b.2.1, a.2.2.1.symm.trans b.2.2.1⟩
theorem dt_date {n y m d : Int} (h : Dt n y m d) : dateB y m d = true := by
  obtain ⟨a, b, y1, y2, m1, m2, d1, d2, hn⟩ := h
  exact dateB_mk ⟨y1, y2, m1, m2, d1, d2⟩
theorem dt_mk {n y m d : Int} (y1 : 1900 ≤ y) (y2 : y ≤ 2099) (m1 : 1 ≤ m) (m2 : m ≤ 12) (d1 : 1 ≤ d) (d2 : d ≤ Cal.dim y m) (hn : Cal.num y m d = n) : Dt n y m d := by
  have := Cal.num_bd y1 y2 m1 m2 d1 d2
  exact ⟨by omega, by omega, y1, y2, m1, m2, d1, d2, hn⟩
theorem parts_dt {n y m d : Int} (h : Dt n y m d) (w : World) (ht : Tab w) : Calls Tryd.prog 13 #[.int .i64 n] w fun e w' => e = .returned (.tuple #[.int .i64 y, .int .i64 m, .int .i64 d, .int .i64 0]) ∧ w' = w := by
  refine (day_parts n w ht).mono ?_
  rintro e w' ⟨he, hw⟩
  obtain ⟨h1, h2, h3, h4⟩ := dt_eq h
  unfold PEnd at he
  rw [h1, h2, h3, h4] at he
  exact ⟨he, hw⟩
theorem of_dt {n y m d : Int} (h : Dt n y m d) (w : World) (ht : Tab w) : Calls Tryd.prog 11 #[.int .i64 y, .int .i64 m, .int .i64 d] w fun e w' => e = .returned (.tuple #[.int .i64 n, .int .i64 0]) ∧ w' = w := by
  have g := day_of y m d w ht
  obtain ⟨o1, o2⟩ := of_yes (dt_date h)
  rw [o1, o2, h.2.2.2.2.2.2.2.2] at g
  exact g

/-- the date of the next day is the next date -/
theorem dt_next {n y m d : Int} (h : Dt n y m d) (hn : n + 1 ≤ 73048) :
    (Dt (n + 1) y m (d + 1)) ∨ (28 ≤ d ∧ m < 12 ∧ Dt (n + 1) y (m + 1) 1) ∨ (d = 31 ∧ m = 12 ∧ Dt (n + 1) (y + 1) 1 1) := by
  obtain ⟨a, b, y1, y2, m1, m2, d1, d2, hn'⟩ := h
  have db := Cal.dim_bd y m
  by_cases hd : d < Cal.dim y m
  · left
    exact dt_mk y1 y2 m1 m2 (by omega) (by omega) (by unfold Cal.num at hn' ⊢; omega)
  · right
    have cs := Cal.cum_succ y m m1 m2
    by_cases hm : m < 12
    · left
      have db2 := Cal.dim_bd y (m + 1)
      refine ⟨by omega, hm, dt_mk y1 y2 (by omega) (by omega) (by omega) (by omega) ?_⟩
      unfold Cal.num at hn' ⊢; omega
    · right
      obtain rfl : m = 12 := by omega
      have ce := Cal.cum_end y
      have c1 := Cal.cum_one (y + 1)
      have ss := Cal.ys_succ y y1 y2
      rw [show (12 : Int) + 1 = 13 from rfl] at cs
      have db2 := Cal.dim_bd (y + 1) 1
      have hy : y < 2099 := by
        have := Cal.ys_end
        by_cases e : y = 2099
        · subst e
          rw [show (2099 : Int) + 1 = 2100 from rfl] at ss
          unfold Cal.num at hn'; omega
        · omega
      have d31 : Cal.dim y 12 = 31 := by unfold Cal.dim; simp
      refine ⟨by omega, rfl, dt_mk (by omega) (by omega) (by omega) (by omega) (by omega) (by omega) ?_⟩
      unfold Cal.num at hn' ⊢; omega

/-- the date a year later -/
theorem dt_year {n y m d : Int} (h : Dt n y m d) (hn : n + 366 ≤ 73048) : Dt (n + 366) (y + 1) m d ∨ Dt (n + 365) (y + 1) m d ∨ (m = 2 ∧ d = 29 ∧ Dt (n + 366) (y + 1) 3 1) := by
  obtain ⟨a, b, y1, y2, m1, m2, d1, d2, hn'⟩ := h
  have hy : y < 2099 := by
    by_cases e : y = 2099
    · subst e
      have c := Cal.cum_bd 2099 m m1 m2
      have e2 : Cal.ys 2099 = 72684 := by decide
      unfold Cal.num at hn'; omega
    · omega
  have ss := Cal.ys_succ y y1 y2
  have l1 := Cal.lp_01 y
  have l2 := Cal.lp_01 (y + 1)
  have hl : Cal.lp y = 1 → Cal.lp (y + 1) = 0 := by
    unfold Cal.lp
    split
    · rename_i g
      intro _; rw [if_neg (by omega)]
    · intro h; omega
  by_cases h2 : m = 2
  · subst h2
    have c1 : Cal.cum y 2 = 31 := by simp [Cal.cum, Cal.cm]
    have c2 : Cal.cum (y + 1) 2 = 31 := by simp [Cal.cum, Cal.cm]
    have e1 : Cal.dim y 2 = 28 + Cal.lp y := by simp [Cal.dim]
    have e2 : Cal.dim (y + 1) 2 = 28 + Cal.lp (y + 1) := by simp [Cal.dim]
    by_cases hd : d = 29
    · right; right
      have c3 : Cal.cum (y + 1) 3 = 59 + Cal.lp (y + 1) := by simp [Cal.cum, Cal.cm]
      have db := Cal.dim_bd (y + 1) 3
      have hl1 := hl (by omega)
      refine ⟨rfl, hd, dt_mk (by omega) (by omega) (by omega) (by omega) (by omega) (by omega) ?_⟩
      unfold Cal.num at hn' ⊢; omega
    · have key : Cal.num (y + 1) 2 d = n + 365 + Cal.lp y := by unfold Cal.num at hn' ⊢; omega
      by_cases h1 : Cal.lp y = 1
      · left; exact dt_mk (by omega) (by omega) m1 m2 d1 (by omega) (by omega)
      · right; left; exact dt_mk (by omega) (by omega) m1 m2 d1 (by omega) (by omega)
  · have e1 : Cal.dim (y + 1) m = Cal.dim y m := by unfold Cal.dim; rw [if_neg h2, if_neg h2]
    have key : Cal.num (y + 1) m d = n + 365 + Cal.lp y ∨ Cal.num (y + 1) m d = n + 365 + Cal.lp (y + 1) := by
      by_cases h3 : m = 1
      · subst h3
        have c1 := Cal.cum_one y
        have c2 := Cal.cum_one (y + 1)
        left; unfold Cal.num at hn' ⊢; omega
      · right
        have c1 : Cal.cum (y + 1) m = Cal.cum y m + (Cal.lp (y + 1) - Cal.lp y) := by
          have h : m = 3 ∨ m = 4 ∨ m = 5 ∨ m = 6 ∨ m = 7 ∨ m = 8 ∨ m = 9 ∨ m = 10 ∨ m = 11 ∨ m = 12 := by omega
          unfold Cal.cum Cal.cm
          rcases h with rfl | rfl | rfl | rfl | rfl | rfl | rfl | rfl | rfl | rfl <;> simp <;> omega
        unfold Cal.num at hn' ⊢; omega
    by_cases h1 : Cal.num (y + 1) m d = n + 366
    · left; exact dt_mk (by omega) (by omega) m1 m2 d1 (by omega) h1
    · right; left; exact dt_mk (by omega) (by omega) m1 m2 d1 (by omega) (by omega)

/-- an age in years, of dates -/
def ageOf (yb mb db y m d : Int) : Int := y - yb - (if m < mb ∨ (m = mb ∧ d < db) then 1 else 0)
theorem age_next {n y m d y' m' d' yb mb db : Int} (hb1 : mb ≤ 12) (hb2 : 1 ≤ mb) (_hb3 : db ≤ 31) (_hb4 : 1 ≤ db) (h : Dt n y m d) (g : Dt (n + 1) y' m' d') :
    ageOf yb mb db y' m' d' = ageOf yb mb db y m d ∨ ageOf yb mb db y' m' d' = ageOf yb mb db y m d + 1 := by
  rcases dt_next h g.2.1 with k | ⟨_, _, k⟩ | ⟨k1, k2, k⟩
  · obtain ⟨rfl, rfl, rfl⟩ := dt_one g k
    unfold ageOf; repeat' split
    all_goals omega
  · obtain ⟨rfl, rfl, rfl⟩ := dt_one g k
    unfold ageOf; repeat' split
    all_goals omega
  · obtain ⟨rfl, rfl, rfl⟩ := dt_one g k
    unfold ageOf; repeat' split
    all_goals omega
theorem age_year {n y m d y' m' d' yb mb db : Int} (hb1 : mb ≤ 12) (hb2 : 1 ≤ mb) (hb3 : db ≤ 31) (hb4 : 1 ≤ db) (h : Dt n y m d) (g : Dt (n + 366) y' m' d') :
    ageOf yb mb db y' m' d' = ageOf yb mb db y m d + 1 ∨ ageOf yb mb db y' m' d' = ageOf yb mb db y m d + 2 := by
  rcases dt_year h g.2.1 with k | k | ⟨rfl, rfl, k⟩
  · obtain ⟨rfl, rfl, rfl⟩ := dt_one g k
    unfold ageOf; left; omega
  · have g' : Dt (n + 365 + 1) y' m' d' := by rw [show n + 365 + 1 = n + 366 by omega]; exact g
    have s := age_next (yb := yb) hb1 hb2 hb3 hb4 k g'
    have e : ageOf yb mb db (y + 1) m d = ageOf yb mb db y m d + 1 := by unfold ageOf; omega
    omega
  · obtain ⟨rfl, rfl, rfl⟩ := dt_one g k
    unfold ageOf; repeat' split
    all_goals omega
theorem age_pos {b o yb mb db y m d : Int} (hb : Dt b yb mb db) (ho : Dt o y m d) (h : b ≤ o) : 0 ≤ ageOf yb mb db y m d := by
  obtain ⟨_, _, y1, y2, m1, m2, d1, d2, hn⟩ := hb
  obtain ⟨_, _, y3, y4, m3, m4, d3, d4, hn'⟩ := ho
  have top : ∀ z k : Int, 1 ≤ k → k ≤ 12 → 1900 ≤ z → z ≤ 2099 → Cal.ys z + Cal.cum z k + Cal.dim z k ≤ Cal.ys (z + 1) := by
    intro z k k1 k2 z1 z2
    have cs := Cal.cum_succ z k k1 k2
    have ss := Cal.ys_succ z z1 z2
    by_cases e : k = 12
    · subst e; have := Cal.cum_end z; rw [show (12 : Int) + 1 = 13 from rfl] at cs; omega
    · have := Cal.cum_lt z (k + 1) 13 (by omega) (by omega) (by omega)
      rw [Cal.cum_end] at this; omega
  have hy : yb ≤ y := by
    by_cases e : yb ≤ y
    · exact e
    · have t := top y m m3 m4 y3 y4
      have c := Cal.cum_bd yb mb m1 m2
      have : Cal.ys (y + 1) ≤ Cal.ys yb := by
        by_cases e2 : y + 1 = yb
        · rw [e2]; exact Int.le_refl _
        · have := Cal.ys_mono (y + 1) yb (by omega) (by omega); omega
      unfold Cal.num at hn hn'; omega
  by_cases e : yb = y
  · subst e
    have hm : ¬ (m < mb ∨ (m = mb ∧ d < db)) := by
      rintro (g | ⟨rfl, g⟩)
      · have cs := Cal.cum_succ yb m m3 m4
        have : Cal.cum yb (m + 1) ≤ Cal.cum yb mb := by
          by_cases e2 : m + 1 = mb
          · rw [e2]; exact Int.le_refl _
          · have := Cal.cum_lt yb (m + 1) mb (by omega) (by omega) (by omega); omega
        unfold Cal.num at hn hn'; omega
      · unfold Cal.num at hn hn'; omega
    unfold ageOf; rw [if_neg hm]; omega
  · unfold ageOf; split <;> omega
end Go.Proofs.YtgecahokkgealaaDoor
