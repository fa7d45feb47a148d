/-
  What is proved here: plain facts on days that follow each other, and what Parts and Of return for a day whose date is known.
-/
import Derived.Test.YtgecahokkgealaaDoorDpa
namespace Go.Proofs.YtgecahokkgealaaDoor
open Go.RowKit

/-- the date of a day -/
def Dt (n y m d : Int) : Prop := 0 ≤ n ∧ n ≤ 73048 ∧ 1900 ≤ y ∧ y ≤ 2099 ∧ 1 ≤ m ∧ m ≤ 12 ∧ 1 ≤ d ∧ d ≤ Cal.dim y m ∧ Cal.num y m d = n
theorem dt_of (n : Int) (a : 0 ≤ n) (b : n ≤ 73048) : ∃ y m d, Dt n y m d := by
  have h := Cal.date_ok n a b
  exact ⟨_, _, _, a, b, h⟩
theorem dt_b {n y m d : Int} (h : Dt n y m d) : dayB n = true := dayB_mk h.1 h.2.1
theorem dt_eq {n y m d : Int} (h : Dt n y m d) : pY n = y ∧ pM n = m ∧ pD n = d ∧ pE n = 0 := by
  obtain ⟨h1, h2, h3, h4⟩ := p_yes (dt_b h)
  obtain ⟨a, b, y1, y2, m1, m2, d1, d2, hn⟩ := h
  obtain ⟨e1, e2, e3⟩ := Cal.date_is y1 y2 m1 m2 d1 d2 hn a b
  rw [h1, h2, h3, ← e1, ← e2, ← e3]; exact ⟨rfl, rfl, rfl, h4⟩
theorem dt_one {n y m d y' m' d' : Int} (h : Dt n y m d) (g : Dt n y' m' d') : y = y' ∧ m = m' ∧ d = d' := by
  have a := dt_eq h
  have b := dt_eq g
  exact ⟨a.1.symm.trans b.1, a.2.1.symm.trans b.2.1, a.2.2.1.symm.trans b.2.2.1⟩
theorem dt_date {n y m d : Int} (h : Dt n y m d) : dateB y m d = true := by
  obtain ⟨a, b, y1, y2, m1, m2, d1, d2, hn⟩ := h
  exact dateB_mk ⟨y1, y2, m1, m2, d1, d2⟩
theorem dt_mk {n y m d : Int} (y1 : 1900 ≤ y) (y2 : y ≤ 2099) (m1 : 1 ≤ m) (m2 : m ≤ 12) (d1 : 1 ≤ d) (d2 : d ≤ Cal.dim y m) (hn : Cal.num y m d = n) : Dt n y m d := by
  have := Cal.num_bd y1 y2 m1 m2 d1 d2
  exact ⟨by omega, by omega, y1, y2, m1, m2, d1, d2, hn⟩
theorem parts_dt {n y m d : Int} (h : Dt n y m d) (w : World) (ht : Tab w) : Calls Tryd.prog 13 #[.int .i64 n] w fun e w' => e = .returned (.tuple #[.int .i64 y, .int .i64 m, .int .i64 d, .int .i64 0]) ∧ w' = w := by
  refine (day_parts n w ht).mono ?_
  rintro e w' ⟨he, hw⟩
  obtain ⟨h1, h2, h3, h4⟩ := dt_eq h
  unfold PEnd at he
  rw [h1, h2, h3, h4] at he
  exact ⟨he, hw⟩
theorem of_dt {n y m d : Int} (h : Dt n y m d) (w : World) (ht : Tab w) : Calls Tryd.prog 11 #[.int .i64 y, .int .i64 m, .int .i64 d] w fun e w' => e = .returned (.tuple #[.int .i64 n, .int .i64 0]) ∧ w' = w := by
  have g := day_of y m d w ht
  obtain ⟨o1, o2⟩ := of_yes (dt_date h)
  rw [o1, o2, h.2.2.2.2.2.2.2.2] at g
  exact g

/-- the date of the next day is the next date -/
theorem dt_next {n y m d : Int} (h : Dt n y m d) (hn : n + 1 ≤ 73048) :
    (Dt (n + 1) y m (d + 1)) ∨ (28 ≤ d ∧ m < 12 ∧ Dt (n + 1) y (m + 1) 1) ∨ (28 ≤ d ∧ m = 12 ∧ Dt (n + 1) (y + 1) 1 1) := by
  obtain ⟨a, b, y1, y2, m1, m2, d1, d2, hn'⟩ := h
  have db := Cal.dim_bd y m
  by_cases hd : d < Cal.dim y m
  · left
    exact dt_mk y1 y2 m1 m2 (by omega) (by omega) (by unfold Cal.num at hn' ⊢; omega)
  · right
    have cs := Cal.cum_succ y m m1 m2
    by_cases hm : m < 12
    · left
      have db2 := Cal.dim_bd y (m + 1)
      refine ⟨by omega, hm, dt_mk y1 y2 (by omega) (by omega) (by omega) (by omega) ?_⟩
      unfold Cal.num at hn' ⊢; omega
    · right
      obtain rfl : m = 12 := by omega
      have ce := Cal.cum_end y
      have c1 := Cal.cum_one (y + 1)
      have ss := Cal.ys_succ y y1 y2
      rw [show (12 : Int) + 1 = 13 from rfl] at cs
      have db2 := Cal.dim_bd (y + 1) 1
      have hy : y < 2099 := by
        have := Cal.ys_end
        by_cases e : y = 2099
        · subst e
          rw [show (2099 : Int) + 1 = 2100 from rfl] at ss
          unfold Cal.num at hn'; omega
        · omega
      refine ⟨by omega, rfl, dt_mk (by omega) (by omega) (by omega) (by omega) (by omega) (by omega) ?_⟩
      unfold Cal.num at hn' ⊢; omega
end Go.Proofs.YtgecahokkgealaaDoor
