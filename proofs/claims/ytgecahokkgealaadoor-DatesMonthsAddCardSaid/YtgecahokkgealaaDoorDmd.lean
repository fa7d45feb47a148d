/-
  What is proved here: what the program's Months returns for a day whose date is known, and how many days months later are.
-/
import Derived.Test.YtgecahokkgealaaDoorDdt
import Derived.Test.YtgecahokkgealaaDoorDmo
namespace Go.Proofs.YtgecahokkgealaaDoor
open Go.RowKit

/-- the first day of a month, by the months since January 1900; the days of that month -/
def ms (c : Int) : Int := Cal.ys (1900 + c / 12) + Cal.cum (1900 + c / 12) (c % 12 + 1)
def ml (c : Int) : Int := Cal.dim (1900 + c / 12) (c % 12 + 1)
theorem ms_succ (c : Int) (a : 0 ≤ c) (b : c ≤ 2399) : ms (c + 1) = ms c + ml c := by
  unfold ms ml
  have cs := Cal.cum_succ (1900 + c / 12) (c % 12 + 1) (by omega) (by omega)
  by_cases h : c % 12 = 11
  · have e1 : 1900 + (c + 1) / 12 = 1900 + c / 12 + 1 := by omega
    have e2 : (c + 1) % 12 + 1 = 1 := by omega
    have e3 : c % 12 + 1 = 12 := by omega
    rw [e1, e2, e3]
    rw [e3, show (12 : Int) + 1 = 13 from rfl, Cal.cum_end] at cs
    have ss := Cal.ys_succ (1900 + c / 12) (by omega) (by omega)
    have c1 := Cal.cum_one (1900 + c / 12 + 1)
    omega
  · have e1 : 1900 + (c + 1) / 12 = 1900 + c / 12 := by omega
    have e2 : (c + 1) % 12 + 1 = c % 12 + 1 + 1 := by omega
    rw [e1, e2]
    omega
theorem ml_bd (c : Int) : 28 ≤ ml c ∧ ml c ≤ 31 := Cal.dim_bd _ _
theorem ms_span (c : Int) (a : 0 ≤ c) : ∀ j : Nat, c + j ≤ 2399 → 28 * (j : Int) ≤ ms (c + j) - ms c ∧ ms (c + j) - ms c ≤ 31 * j ∧ (0 < j → ml c - 28 + 28 * j ≤ ms (c + j) - ms c) := by
  intro j
  induction j with
  | zero => intro _; simp
  | succ j ih =>
    intro h
    obtain ⟨i1, i2, i3⟩ := ih (by omega)
    have s := ms_succ (c + j) (by omega) (by omega)
    have b := ml_bd (c + j)
    have e : c + ((j + 1 : Nat) : Int) = c + j + 1 := by omega
    rw [e, s]
    refine ⟨by omega, by omega, fun _ => ?_⟩
    rcases Nat.eq_zero_or_pos j with h0 | h0
    · subst h0; simp at *; omega
    · have := i3 h0; omega

/-- Months at a day whose date is known -/
theorem months_dt {day n y m d c : Int} (h : Dt day y m d) (hc : c = (y - 1900) * 12 + m - 1 + n) (n1 : -2400 ≤ n) (n2 : n ≤ 2400) (c1 : 0 ≤ c) (c2 : c ≤ 2399) :
    ∃ x, Dt x (1900 + c / 12) (c % 12 + 1) (cap_ d (ml c)) ∧ x = ms c + cap_ d (ml c) - 1 ∧
      ∀ w, Tab w → Calls Tryd.prog 22 #[.int .i64 day, .int .i64 n] w fun e w' => e = .returned (.tuple #[.int .i64 x, .int .i64 0]) ∧ w' = w := by
  obtain ⟨q1, q2, q3, _⟩ := dt_eq h
  have hcn : cnt day n = c := by unfold cnt; rw [q1, q2]; exact hc.symm
  have hb := ml_bd c
  have h' := h
  obtain ⟨_, _, _, _, _, _, d1, _, _⟩ := h'
  have cb := cap_bd d (ml c) d1 (by omega)
  have hx : Dt (Cal.num (1900 + c / 12) (c % 12 + 1) (cap_ d (ml c))) (1900 + c / 12) (c % 12 + 1) (cap_ d (ml c)) :=
    dt_mk (by omega) (by omega) (by omega) (by omega) (by omega) (by unfold ml at cb ⊢; omega) rfl
  refine ⟨_, hx, rfl, fun w ht => ?_⟩
  refine (day_months day n w ht (by omega) (by omega)).mono ?_
  rintro e w' ⟨he, hw⟩
  have e1 : mnV day n = Cal.num (1900 + c / 12) (c % 12 + 1) (cap_ d (ml c)) := by
    unfold mnV; rw [hcn, if_pos ⟨⟨n1, n2⟩, dt_b h, c1, c2⟩, q3]; rfl
  have e2 : mnE day n = 0 := by unfold mnE; rw [hcn, if_pos ⟨n1, n2⟩, if_pos ⟨dt_b h, c1, c2⟩]
  unfold MnEnd at he
  rw [e1, e2] at he
  exact ⟨he, hw⟩
theorem months_far {day n y m d c : Int} (h : Dt day y m d) (hc : c = (y - 1900) * 12 + m - 1 + n) (n1 : -2400 ≤ n) (n2 : n ≤ 2400) (c2 : 2399 < c) (w : World) (ht : Tab w) :
    Calls Tryd.prog 22 #[.int .i64 day, .int .i64 n] w fun e w' => e = .returned (.tuple #[.int .i64 0, .int .i64 8]) ∧ w' = w := by
  obtain ⟨q1, q2, q3, _⟩ := dt_eq h
  have hcn : cnt day n = c := by unfold cnt; rw [q1, q2]; exact hc.symm
  refine (day_months day n w ht (by omega) (by omega)).mono ?_
  rintro e w' ⟨he, hw⟩
  have e1 : mnV day n = 0 := by unfold mnV; rw [hcn, if_neg (fun g => by omega)]
  have e2 : mnE day n = 8 := by unfold mnE; rw [hcn, if_pos ⟨n1, n2⟩, if_neg (fun g => by omega)]
  unfold MnEnd at he
  rw [e1, e2] at he
  exact ⟨he, hw⟩

/-- months later and as many earlier -/
theorem add_back {day y m d c by_ : Int} (h : Dt day y m d) (hc : c = (y - 1900) * 12 + m - 1 + by_) (b1 : 0 ≤ by_) (b2 : by_ ≤ 199) (c2 : c ≤ 2399) :
    ∃ x z zd, (∀ w, Tab w → Calls Tryd.prog 22 #[.int .i64 day, .int .i64 by_] w fun e w' => e = .returned (.tuple #[.int .i64 x, .int .i64 0]) ∧ w' = w) ∧
      (∀ w, Tab w → Calls Tryd.prog 22 #[.int .i64 x, .int .i64 (-by_)] w fun e w' => e = .returned (.tuple #[.int .i64 z, .int .i64 0]) ∧ w' = w) ∧
      Dt z y m zd ∧ zd ≤ d ∧ (d ≤ 28 → zd = d) ∧ 28 * by_ ≤ x - day ∧ x - day ≤ 31 * by_ ∧ 0 ≤ x ∧ x ≤ 73048 := by
  have h' := h
  obtain ⟨day1, day2, y1, y2, m1, m2, d1, d2, hn⟩ := h'
  obtain ⟨x, hx, ex, cx⟩ := months_dt h hc (by omega) (by omega) (by omega) c2
  have c0 : (1900 + c / 12 - 1900) * 12 + (c % 12 + 1) - 1 + -by_ = (y - 1900) * 12 + m - 1 := by omega
  obtain ⟨z, hz, ez, cz⟩ := months_dt (n := -by_) hx rfl (by omega) (by omega) (by omega) (by omega)
  rw [c0] at hz ez
  have ey : 1900 + ((y - 1900) * 12 + m - 1) / 12 = y := by omega
  have em : ((y - 1900) * 12 + m - 1) % 12 + 1 = m := by omega
  rw [ey, em] at hz
  have el : ml ((y - 1900) * 12 + m - 1) = Cal.dim y m := by unfold ml; rw [ey, em]
  have es : ms ((y - 1900) * 12 + m - 1) = Cal.ys y + Cal.cum y m := by unfold ms; rw [ey, em]
  rw [el] at hz ez
  have lb := ml_bd c
  have db := Cal.dim_bd y m
  have k1 := cap_bd d (ml c) d1 (by omega)
  have k2 := cap_bd (cap_ d (ml c)) (Cal.dim y m) (by omega) (by omega)
  have k3 : d ≤ 28 → cap_ d (ml c) = d := fun h => by unfold cap_; rw [if_neg (by omega)]
  have k4 : cap_ (cap_ d (ml c)) (Cal.dim y m) = cap_ d (ml c) := by rw [cap_, if_neg (by omega)]
  have k5 : cap_ d (ml c) = d ∨ cap_ d (ml c) = ml c := by unfold cap_; split <;> omega
  obtain ⟨sp1, sp2, sp3⟩ := ms_span ((y - 1900) * 12 + m - 1) (by omega) by_.toNat (by omega)
  have eb : ((by_.toNat : Nat) : Int) = by_ := by omega
  have ec : (y - 1900) * 12 + m - 1 + by_ = c := hc.symm
  rw [eb, ec, es] at sp1 sp2 sp3
  rw [el] at sp3
  have hd : day = Cal.ys y + Cal.cum y m + d - 1 := hn.symm
  refine ⟨x, z, _, cx, cz, hz, by omega, fun h => by rw [k4]; exact k3 h, ?_, by omega, hx.1, hx.2.1⟩
  rcases k5 with k | k
  · omega
  · by_cases h0 : by_ = 0
    · subst h0
      have e0 : c = (y - 1900) * 12 + m - 1 := by omega
      rw [e0, el] at k
      rw [e0, es] at ex
      have k6 : cap_ d (ml c) = d := by rw [e0, el]; unfold cap_; rw [if_neg (by omega)]
      rw [e0] at k6
      omega
    · have := sp3 (by omega)
      omega
end Go.Proofs.YtgecahokkgealaaDoor
