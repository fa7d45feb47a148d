/-
  What is proved here: plain facts on the text of a day read again.
-/
import Derived.Test.YtgecahokkgealaaDoorDps
import Derived.Test.YtgecahokkgealaaDoorDdt
namespace Go.Proofs.YtgecahokkgealaaDoor
open Go.RowKit

theorem fL_dt {n y m d : Int} (h : Dt n y m d) : fL n = pairL (y % 100) ++ pairL m ++ pairL d := by
  obtain ⟨a, b, c, _⟩ := dt_eq h
  rw [fL_yes (dt_b h), a, b, c]
theorem ch_S (l : List UInt8) (k : Nat) : ch (S l) k = (l.getD k 0).toNat := by unfold ch; rw [S_data]
theorem f_read {n y m d : Int} (h : Dt n y m d) : rpOk (S (fL n)) = true ∧ pr (S (fL n)) 6 0 = y % 100 ∧ pr (S (fL n)) 6 1 = m ∧ pr (S (fL n)) 6 2 = d := by
  have hl := fL_dt h
  obtain ⟨_, _, y1, y2, m1, m2, d1, d2, _⟩ := h
  have db := Cal.dim_bd y m
  have k0 : ch (S (fL n)) 0 = (dgt (y % 100 / 10)).toNat := by rw [ch_S, hl]; rfl
  have k1 : ch (S (fL n)) 1 = (dgt (y % 100 % 10)).toNat := by rw [ch_S, hl]; rfl
  have k2 : ch (S (fL n)) 2 = (dgt (m / 10)).toNat := by rw [ch_S, hl]; rfl
  have k3 : ch (S (fL n)) 3 = (dgt (m % 10)).toNat := by rw [ch_S, hl]; rfl
  have k4 : ch (S (fL n)) 4 = (dgt (d / 10)).toNat := by rw [ch_S, hl]; rfl
  have k5 : ch (S (fL n)) 5 = (dgt (d % 10)).toNat := by rw [ch_S, hl]; rfl
  have v0 := dgt_nat (n := y % 100 / 10) (by omega) (by omega)
  have v1 := dgt_nat (n := y % 100 % 10) (by omega) (by omega)
  have v2 := dgt_nat (n := m / 10) (by omega) (by omega)
  have v3 := dgt_nat (n := m % 10) (by omega) (by omega)
  have v4 := dgt_nat (n := d / 10) (by omega) (by omega)
  have v5 := dgt_nat (n := d % 10) (by omega) (by omega)
  rw [← k0] at v0
  rw [← k1] at v1
  rw [← k2] at v2
  rw [← k3] at v3
  rw [← k4] at v4
  rw [← k5] at v5
  refine ⟨rpOk_yes (by rw [S_size, hl]; rfl) ?_, ?_, ?_, ?_⟩
  · intro q hq
    have hq' : q = 0 ∨ q = 1 ∨ q = 2 ∨ q = 3 ∨ q = 4 ∨ q = 5 := by omega
    unfold dig
    rcases hq' with rfl | rfl | rfl | rfl | rfl | rfl <;> simp <;> omega
  · simp [pr]; omega
  · simp [pr]; omega
  · simp [pr]; omega

/-- what Parse answers at the text of a day -/
theorem ps_in {n y m d f : Int} (h : Dt n y m d) (f1 : 1900 ≤ f) (f2 : f ≤ 2000) (g1 : f ≤ y) (g2 : y < f + 100) : psV (S (fL n)) f = n ∧ psE (S (fL n)) f = 0 := by
  obtain ⟨r1, r2, r3, r4⟩ := f_read h
  have e : fy (y % 100) f = y := by unfold fy; split <;> omega
  obtain ⟨o1, o2⟩ := of_yes (dt_date h)
  unfold psV psE
  rw [if_pos ⟨⟨f1, f2⟩, r1⟩, if_pos ⟨f1, f2⟩, if_pos r1, r2, r3, r4, e, o1, o2]
  exact ⟨h.2.2.2.2.2.2.2.2, rfl⟩
theorem ps_out {n y m d f : Int} (h : Dt n y m d) (f1 : 1900 ≤ f) (f2 : f ≤ 2000) (g : ¬ (f ≤ y ∧ y < f + 100)) : psE (S (fL n)) f = 8 ∨ (psE (S (fL n)) f = 0 ∧ psV (S (fL n)) f ≠ n) := by
  obtain ⟨r1, r2, r3, r4⟩ := f_read h
  have e : fy (y % 100) f ≠ y := by unfold fy; split <;> omega
  have e1 : psV (S (fL n)) f = ofV (fy (y % 100) f) m d := by unfold psV; rw [if_pos ⟨⟨f1, f2⟩, r1⟩, r2, r3, r4]
  have e2 : psE (S (fL n)) f = ofE (fy (y % 100) f) m d := by unfold psE; rw [if_pos ⟨f1, f2⟩, if_pos r1, r2, r3, r4]
  rw [e1, e2]
  by_cases hB : dateB (fy (y % 100) f) m d = true
  · right
    obtain ⟨o1, o2⟩ := of_yes hB
    obtain ⟨b1, b2, b3, b4, b5, b6⟩ := dateB_yes hB
    refine ⟨o2, ?_⟩
    rw [o1]
    intro hn
    have hd : Dt n (fy (y % 100) f) m d := dt_mk b1 b2 b3 b4 b5 b6 hn
    exact e (dt_one hd h).1
  · left
    exact (of_no (by simpa using hB)).2
end Go.Proofs.YtgecahokkgealaaDoor
