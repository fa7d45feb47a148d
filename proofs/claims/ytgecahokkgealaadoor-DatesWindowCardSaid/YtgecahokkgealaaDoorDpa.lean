/-
  What is proved here: what the program's Parts returns, for every number, where the table of the months lies in memory as the program lays it.
-/
import Derived.Test.YtgecahokkgealaaDoorDof
namespace Go.Proofs.YtgecahokkgealaaDoor
open Go.RowKit

/-- what Parts answers -/
def pY (n : Int) : Int := if dayB n = true then Cal.yr n else 0
def pM (n : Int) : Int := if dayB n = true then Cal.mo n else 0
def pD (n : Int) : Int := if dayB n = true then Cal.da n else 0
def pE (n : Int) : Int := if dayB n = true then 0 else 8
theorem p_yes {n : Int} (h : dayB n = true) : pY n = Cal.yr n ∧ pM n = Cal.mo n ∧ pD n = Cal.da n ∧ pE n = 0 := by simp [pY, pM, pD, pE, h]
theorem p_no {n : Int} (h : dayB n = false) : pY n = 0 ∧ pM n = 0 ∧ pD n = 0 ∧ pE n = 8 := by simp [pY, pM, pD, pE, h]
theorem p_ok {n : Int} (h : dayB n = true) : 1900 ≤ pY n ∧ pY n ≤ 2099 ∧ 1 ≤ pM n ∧ pM n ≤ 12 ∧ 1 ≤ pD n ∧ pD n ≤ Cal.dim (pY n) (pM n) ∧ Cal.num (pY n) (pM n) (pD n) = n ∧ pE n = 0 := by
  obtain ⟨h1, h2, h3, h4⟩ := p_yes h
  have := dayB_yes h
  rw [h1, h2, h3, h4]
  have h := Cal.date_ok n (by omega) (by omega)
  exact ⟨h.1, h.2.1, h.2.2.1, h.2.2.2.1, h.2.2.2.2.1, h.2.2.2.2.2.1, h.2.2.2.2.2.2, rfl⟩

def PEnd (n : Int) (e : Ending) : Prop := e = .returned (.tuple #[.int .i64 (pY n), .int .i64 (pM n), .int .i64 (pD n), .int .i64 (pE n)])
theorem p_end {n y m r : Int} (h : dayB n = true) (a1 : 1900 ≤ y) (a2 : y ≤ 2099) (m1 : 1 ≤ m) (m2 : m ≤ 12) (hr : r = n - Cal.ys y - Cal.cum y m) (r0 : 0 ≤ r) (r1 : r < Cal.dim y m) :
    PEnd n (.returned (.tuple #[.int .i64 y, .int .i64 m, .int .i64 (r + 1), .int .i64 0])) := by
  obtain ⟨n1, n2⟩ := dayB_yes h
  obtain ⟨e1, e2, e3⟩ := Cal.date_is (n := n) (y := y) (m := m) (d := r + 1) a1 a2 m1 m2 (by omega) (by omega) (by unfold Cal.num; omega) n1 n2
  obtain ⟨h1, h2, h3, h4⟩ := p_yes h
  unfold PEnd
  rw [h1, h2, h3, h4, ← e1, ← e2, ← e3]
theorem p_bad {n : Int} (h : dayB n = false) : PEnd n (.returned (.tuple #[.int .i64 0, .int .i64 0, .int .i64 0, .int .i64 8])) := by
  obtain ⟨h1, h2, h3, h4⟩ := p_no h
  unfold PEnd
  rw [h1, h2, h3, h4]

set_option maxHeartbeats 2000000 in
theorem day_parts (n : Int) (w : World) (ht : Tab w) : Calls Tryd.prog 13 #[.int .i64 n] w fun e w' => PEnd n e ∧ w' = w := by
  by_cases hB : dayB n = true
  · obtain ⟨n1, n2⟩ := dayB_yes hB
    obtain ⟨y1, y2, y3, y4⟩ := Cal.yr_lo n n1 n2
    have hg : Cal.yr n = if Cal.ys (1900 + n / 366 + 1) ≤ n then 1900 + n / 366 + 1 else 1900 + n / 366 := rfl
    have g1 : 1900 ≤ 1900 + n / 366 := by omega
    have g2 : 1900 + n / 366 ≤ 2099 := by omega
    obtain ⟨yy, hyy⟩ : ∃ yy, yy = Cal.yr n := ⟨_, rfl⟩
    rw [← hyy] at y1 y2 y3 y4 hg
    clear hyy
    have ss := Cal.ys_succ yy y1 y2
    have hl := Cal.lp_01 yy
    have c1 := Lib.hid (Cal.cum_one yy)
    have ce := Cal.cum_end yy
    have HS := Lib.hid (And.intro ss ce)
    clear ss ce
    by_cases hc : Cal.ys (1900 + n / 366 + 1) ≤ n
    · rw [if_pos hc] at hg
      have HG := Lib.hid hg
      clear hg
      go_enter Tryd.func13, Tryd.ntmps13
      go_wp2_with fail
      refine (day_valid n w).mono ?_
      rintro e w' ⟨rfl, rfl⟩
      go_wp2_with fail
      refine (year_start _ _ (by omega) (by omega)).mono ?_
      rintro e w' ⟨rfl, rfl⟩
      go_wp2_with fail
      rw [show (1900 + n / 366 + 1 : Int) = yy from HG.out.symm]
      refine (year_start _ _ (by omega) (by omega)).mono ?_
      rintro e w' ⟨rfl, rfl⟩
      clear hc g1 g2
      have yb := Cal.ys_bd yy y1 (by omega)
      go_wp2
      go_loop [3, 6] (fun m r => ∃ k : Int, 1 ≤ k ∧ k ≤ 12 ∧ m = .int .i64 k ∧ 0 ≤ n - Cal.ys yy - Cal.cum yy k ∧ r = .int .i64 (n - Cal.ys yy - Cal.cum yy k)) (fun m _ => (12 - intOf m).toNat)
      case atStart => exact ⟨1, by omega, by omega, rfl, by rw [c1.out]; omega, by rw [c1.out]; go_num⟩
      case round =>
        obtain ⟨k, k1, k2, rfl, r0, rfl⟩ := hrel
        have cb := Cal.cum_bd yy k k1 k2
        have db := Cal.dim_bd yy k
        have yb := Cal.ys_bd yy y1 (by omega)
        have cs := Lib.hid (Cal.cum_succ yy k k1 k2)
        by_cases hlt : Cal.dim yy k ≤ n - Cal.ys yy - Cal.cum yy k
        · have k3 : k < 12 := by
            have := HS.out
            have h := cs.out
            by_cases e : k = 12
            · subst e; rw [show (12 : Int) + 1 = 13 from rfl] at h; omega
            · omega
          go_wp2_with (go_at_call 29; refine (month_length _ _ _ ht y1 y2 k1 k2).mono ?_; rintro e w' ⟨rfl, rfl⟩)
          go_round
          case rel => exact ⟨k + 1, by omega, by omega, rfl, by rw [cs.out]; omega, by rw [cs.out]; go_num⟩
          case measure => simp [intOf]; omega
        · go_wp2_with (go_at_call 29; refine (month_length _ _ _ ht y1 y2 k1 k2).mono ?_; rintro e w' ⟨rfl, rfl⟩)
          exact bodyPost_ret (v := .tuple #[.int .i64 yy, .int .i64 k, .int .i64 (n - Cal.ys yy - Cal.cum yy k + 1), .int .i64 0]) (by simp [results, Tryd.results13, go_sem]) rfl ⟨p_end hB y1 y2 k1 k2 rfl r0 (by omega), rfl⟩
    · rw [if_neg hc] at hg
      have HG := Lib.hid hg
      clear hg
      have g3 : n < Cal.ys (1900 + n / 366 + 1) := by omega
      clear hc
      go_enter Tryd.func13, Tryd.ntmps13
      go_wp2_with fail
      refine (day_valid n w).mono ?_
      rintro e w' ⟨rfl, rfl⟩
      go_wp2_with fail
      refine (year_start _ _ (by omega) (by omega)).mono ?_
      rintro e w' ⟨rfl, rfl⟩
      go_wp2_with fail
      rw [show (1900 + n / 366 : Int) = yy from HG.out.symm]
      refine (year_start _ _ (by omega) (by omega)).mono ?_
      rintro e w' ⟨rfl, rfl⟩
      clear g1 g2 g3
      have yb := Cal.ys_bd yy y1 (by omega)
      go_wp2
      go_loop [3, 6] (fun m r => ∃ k : Int, 1 ≤ k ∧ k ≤ 12 ∧ m = .int .i64 k ∧ 0 ≤ n - Cal.ys yy - Cal.cum yy k ∧ r = .int .i64 (n - Cal.ys yy - Cal.cum yy k)) (fun m _ => (12 - intOf m).toNat)
      case atStart => exact ⟨1, by omega, by omega, rfl, by rw [c1.out]; omega, by rw [c1.out]; go_num⟩
      case round =>
        obtain ⟨k, k1, k2, rfl, r0, rfl⟩ := hrel
        have cb := Cal.cum_bd yy k k1 k2
        have db := Cal.dim_bd yy k
        have yb := Cal.ys_bd yy y1 (by omega)
        have cs := Lib.hid (Cal.cum_succ yy k k1 k2)
        by_cases hlt : Cal.dim yy k ≤ n - Cal.ys yy - Cal.cum yy k
        · have k3 : k < 12 := by
            have := HS.out
            have h := cs.out
            by_cases e : k = 12
            · subst e; rw [show (12 : Int) + 1 = 13 from rfl] at h; omega
            · omega
          go_wp2_with (go_at_call 29; refine (month_length _ _ _ ht y1 y2 k1 k2).mono ?_; rintro e w' ⟨rfl, rfl⟩)
          go_round
          case rel => exact ⟨k + 1, by omega, by omega, rfl, by rw [cs.out]; omega, by rw [cs.out]; go_num⟩
          case measure => simp [intOf]; omega
        · go_wp2_with (go_at_call 29; refine (month_length _ _ _ ht y1 y2 k1 k2).mono ?_; rintro e w' ⟨rfl, rfl⟩)
          exact bodyPost_ret (v := .tuple #[.int .i64 yy, .int .i64 k, .int .i64 (n - Cal.ys yy - Cal.cum yy k + 1), .int .i64 0]) (by simp [results, Tryd.results13, go_sem]) rfl ⟨p_end hB y1 y2 k1 k2 rfl r0 (by omega), rfl⟩
  · have hB : dayB n = false := by simpa using hB
    go_enter Tryd.func13, Tryd.ntmps13
    go_wp2_with (go_at_call 16; refine (day_valid n w).mono ?_; rintro e w' ⟨rfl, rfl⟩)
    exact bodyPost_ret (v := .tuple #[.int .i64 0, .int .i64 0, .int .i64 0, .int .i64 8]) (by simp [results, Tryd.results13, go_sem]) rfl ⟨p_bad hB, rfl⟩
end Go.Proofs.YtgecahokkgealaaDoor
