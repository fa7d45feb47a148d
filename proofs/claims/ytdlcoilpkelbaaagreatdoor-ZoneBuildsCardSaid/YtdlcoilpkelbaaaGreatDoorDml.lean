/-
  What is proved here: what the program's functions on months and years return, where the table of the months lies in memory as the program lays it.
-/
import Derived.Test.YtdlcoilpkelbaaaGreatDoorRows
import Derived.Test.YtdlcoilpkelbaaaGreatDoorKit
import Derived.Test.YtdlcoilpkelbaaaGreatDoorCal
namespace Go.Proofs.YtdlcoilpkelbaaaGreatDoor
open Go.RowKit

/-- the table of the months -/
def tb (k : Nat) : Int := [31, 28, 31, 30, 31, 30, 31, 31, 30, 31, 30, 31].getD k 0
/-- the table lies in memory -/
def Tab (w : World) : Prop := 3 < w.heap.size ∧ ∀ k : Nat, k < 12 → w.cell? ⟨3, k, none⟩ = some (.int .i64 (tb k))
theorem Tab.on {w w' : World} {B : Nat} (h : Tab w) (hb : Below B w w') (h0 : 3 < B) : Tab w' := by
  refine ⟨by have := hb.size; have := h.1; omega, fun k hk => ?_⟩
  rw [hb.cell (p := ⟨3, k, none⟩) h0]; exact h.2 k hk
theorem Tab.at_ {w : World} (h : Tab w) (m : Int) (a : 1 ≤ m) (b : m ≤ 12) : w.cell? ⟨3, m.toNat - 1, none⟩ = some (.int .i64 (tb (m.toNat - 1))) := h.2 _ (by omega)
theorem tb_dim (y m : Int) (a : 1 ≤ m) (b : m ≤ 12) : Cal.dim y m = if m = 2 then tb (m.toNat - 1) + Cal.lp y else tb (m.toNat - 1) := by
  have h : m = 1 ∨ m = 2 ∨ m = 3 ∨ m = 4 ∨ m = 5 ∨ m = 6 ∨ m = 7 ∨ m = 8 ∨ m = 9 ∨ m = 10 ∨ m = 11 ∨ m = 12 := by omega
  rcases h with rfl | rfl | rfl | rfl | rfl | rfl | rfl | rfl | rfl | rfl | rfl | rfl <;> simp [Cal.dim, tb] <;> rfl
theorem tb_bd (k : Nat) (h : k < 12) : 28 ≤ tb k ∧ tb k ≤ 31 := by
  have h : k = 0 ∨ k = 1 ∨ k = 2 ∨ k = 3 ∨ k = 4 ∨ k = 5 ∨ k = 6 ∨ k = 7 ∨ k = 8 ∨ k = 9 ∨ k = 10 ∨ k = 11 := by omega
  rcases h with rfl | rfl | rfl | rfl | rfl | rfl | rfl | rfl | rfl | rfl | rfl | rfl <;> decide

def lpB (y : Int) : Bool := decide (Cal.lp y = 1)
theorem lpB_eq (y : Int) (a : 1900 ≤ y) (b : y ≤ 2099) : lpB y = ((y % 4 == 0) && (y % 100 != 0 || y % 400 == 0)) := by
  unfold lpB Cal.lp
  rw [Bool.eq_iff_iff]
  split
  · simp; omega
  · simp; omega

theorem is_leap (y : Int) (w : World) (a : 1900 ≤ y) (b : y ≤ 2099) :
    Calls Tryz.prog 140 #[.int .i64 y] w fun e w' => e = .returned (.bool (lpB y)) ∧ w' = w := by
  have hv := lpB_eq y a b
  by_cases h4 : y % 4 = 0
  · have d4 : (y % 4 == 0) = true := by simpa using h4
    by_cases h1 : y % 100 = 0
    · have d1 : (y % 100 != 0) = false := by simpa using h1
      rw [hv, d4, d1, Bool.true_and, Bool.false_or]
      clear hv h4 h1
      go_enter Tryz.func140, Tryz.ntmps140
      go_wp2
      go_ret
      exact ⟨rfl, rfl⟩
    · have d1 : (y % 100 != 0) = true := by simpa using h1
      rw [hv, d4, d1, Bool.true_and, Bool.true_or]
      clear hv h4 h1
      go_enter Tryz.func140, Tryz.ntmps140
      go_wp2
      go_ret
      exact ⟨rfl, rfl⟩
  · have d4 : (y % 4 == 0) = false := by simpa using h4
    rw [hv, d4, Bool.false_and]
    clear hv h4
    go_enter Tryz.func140, Tryz.ntmps140
    go_wp2
    go_ret
    exact ⟨rfl, rfl⟩

theorem year_start (y : Int) (w : World) (a : 1900 ≤ y) (b : y ≤ 2100) :
    Calls Tryz.prog 128 #[.int .i64 y] w fun e w' => e = .returned (.int .i64 (Cal.ys y)) ∧ w' = w := by
  by_cases h : y = 1900
  · subst h
    rw [Cal.ys_first]
    go_enter Tryz.func128, Tryz.ntmps128
    go_wp2
    go_ret
    exact ⟨rfl, rfl⟩
  · have hv : Cal.ys y = (y - 1900) * 365 + (y - 1900 - 1) / 4 := by
      unfold Cal.ys; rw [if_neg (by omega)]; congr 2; omega
    rw [hv]
    have a1 : 1901 ≤ y := by omega
    clear hv h a
    go_enter Tryz.func128, Tryz.ntmps128
    go_wp2
    go_ret
    exact ⟨rfl, rfl⟩

theorem month_length (y m : Int) (w : World) (ht : Tab w) (a : 1900 ≤ y) (b : y ≤ 2099) (m1 : 1 ≤ m) (m2 : m ≤ 12) :
    Calls Tryz.prog 129 #[.int .i64 y, .int .i64 m] w fun e w' => e = .returned (.int .i64 (Cal.dim y m)) ∧ w' = w := by
  have hv := tb_dim y m m1 m2
  have hc := ht.at_ m m1 m2
  have hb := tb_bd (m.toNat - 1) (by omega)
  have hl := Cal.lp_01 y
  clear ht
  by_cases h2 : m = 2
  · subst h2
    rw [hv, if_pos rfl]
    clear hv
    by_cases h : Cal.lp y = 1
    · have hB : lpB y = true := by simpa [lpB] using h
      rw [h]
      clear h
      have e : (2 : Int).toNat - 1 = 1 := by decide
      rw [e] at hc hb ⊢
      clear e
      go_enter Tryz.func129, Tryz.ntmps129
      go_wp2_with (go_at_call 140; refine (is_leap _ _ a b).mono ?_; rintro e w' ⟨rfl, rfl⟩)
      go_ret
      exact ⟨rfl, rfl⟩
    · have hB : lpB y = false := by simpa [lpB] using h
      have h0 : Cal.lp y = 0 := by omega
      rw [h0]
      clear h h0
      have e : (2 : Int).toNat - 1 = 1 := by decide
      rw [e] at hc hb ⊢
      clear e
      go_enter Tryz.func129, Tryz.ntmps129
      go_wp2_with (go_at_call 140; refine (is_leap _ _ a b).mono ?_; rintro e w' ⟨rfl, rfl⟩)
      go_ret
      exact ⟨rfl, rfl⟩
  · rw [hv, if_neg h2]
    have d2 : (m == 2) = false := by simpa using h2
    clear hv h2
    go_enter Tryz.func129, Tryz.ntmps129
    go_wp2
    go_ret
    exact ⟨rfl, rfl⟩
end Go.Proofs.YtdlcoilpkelbaaaGreatDoor
