/-
  What is proved here: what the program's Parts returns, for every number, where the table of the months lies in memory as the program lays it.
-/
import Derived.Test.YtdlcoilpkelbaaaGreatDoorDof
namespace Go.Proofs.YtdlcoilpkelbaaaGreatDoor
open Go.RowKit

/-- what Parts answers -/
def pY (n : Int) : Int := if dayB n = true then Cal.yr n else 0
def pM (n : Int) : Int := if dayB n = true then Cal.mo n else 0
def pD (n : Int) : Int := if dayB n = true then Cal.da n else 0
def pE (n : Int) : Int := if dayB n = true then 0 else 8
theorem p_yes {n : Int} (h : dayB n = true) : pY n = Cal.yr n ∧ pM n = Cal.mo n ∧ pD n = Cal.da n ∧ pE n = 0 := by simp [pY, pM, pD, pE, h]
theorem p_no {n : Int} (h : dayB n = false) : pY n = 0 ∧ pM n = 0 ∧ pD n = 0 ∧ pE n = 8 := by simp [pY, pM, pD, pE, h]
theorem p_ok {n : Int} (h : dayB n = true) : 1900 ≤ pY n ∧ pY n ≤ 2099 ∧ 1 ≤ pM n ∧ pM n ≤ 12 ∧ 1 ≤ pD n ∧ pD n ≤ Cal.dim (pY n) (pM n) ∧ Cal.num (pY n) (pM n) (pD n) = n ∧ pE n = 0 := by
  obtain ⟨h1, h2, h3, h4⟩ := p_yes h
  have := dayB_yes h
  rw [h1, h2, h3, h4]
  have h := Cal.date_ok n (by omega) (by omega)
  exact ⟨h.1, h.2.1, h.2.2.1, h.2.2.2.1, h.2.2.2.2.1, h.2.2.2.2.2.1, h.2.2.2.2.2.2, rfl⟩

def PEnd (n : Int) (e : Ending) : Prop := e = .returned (.tuple #[.int .i64 (pY n), .int .i64 (pM n), .int .i64 (pD n), .int .i64 (pE n)])
theorem p_end {n y m r : Int} (h : dayB n = true) (a1 : 1900 ≤ y) (a2 : y ≤ 2099) (m1 : 1 ≤ m) (m2 : m ≤ 12) (hr : r = n - Cal.ys y - Cal.cum y m) (r0 : 0 ≤ r) (r1 : r < Cal.dim y m) :
    PEnd n (.returned (.tuple #[.int .i64 y, .int .i64 m, .int .i64 (r + 1), .int .i64 0])) := by
  obtain ⟨n1, n2⟩ := dayB_yes h
  obtain ⟨e1, e2, e3⟩ := Cal.date_is (n := n) (y := y) (m := m) (d := r + 1) a1 a2 m1 m2 (by omega) (by omega) (by unfold Cal.num; omega) n1 n2
  obtain ⟨h1, h2, h3, h4⟩ := p_yes h
  unfold PEnd
  rw [h1, h2, h3, h4, ← e1, ← e2, ← e3]
theorem p_bad {n : Int} (h : dayB n = false) : PEnd n (.returned (.tuple #[.int .i64 0, .int .i64 0, .int .i64 0, .int .i64 8])) := by
  obtain ⟨h1, h2, h3, h4⟩ := p_no h
  unfold PEnd
  rw [h1, h2, h3, h4]

end Go.Proofs.YtdlcoilpkelbaaaGreatDoor
