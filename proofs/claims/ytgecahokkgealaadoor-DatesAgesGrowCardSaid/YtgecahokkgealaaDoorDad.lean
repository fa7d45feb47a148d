/-
  What is proved here: what the program's Age returns for two days whose dates are known.
-/
import Derived.Test.YtgecahokkgealaaDoorDdt
import Derived.Test.YtgecahokkgealaaDoorDag
namespace Go.Proofs.YtgecahokkgealaaDoor
open Go.RowKit

theorem age_dt {b o yb mb db y m d : Int} (hb : Dt b yb mb db) (ho : Dt o y m d) (h : b ≤ o) (w : World) (ht : Tab w) :
    Calls Tryd.prog 24 #[.int .i64 b, .int .i64 o] w fun e w' => e = .returned (.tuple #[.int .i64 (ageOf yb mb db y m d), .int .i64 0]) ∧ w' = w := by
  refine (day_age b o w ht).mono ?_
  rintro e w' ⟨he, hw⟩
  obtain ⟨a1, a2, a3, _⟩ := dt_eq hb
  obtain ⟨c1, c2, c3, _⟩ := dt_eq ho
  have e1 : agE b o = 0 := by unfold agE; rw [if_pos ⟨dt_b hb, dt_b ho⟩, if_pos h]
  have e2 : agV b o = ageOf yb mb db y m d := by
    unfold agV
    rw [if_pos ⟨dt_b hb, dt_b ho, h⟩, a1, c1]
    unfold early ageOf
    rw [a2, a3, c2, c3]
    by_cases g : m < mb ∨ (m = mb ∧ d < db)
    · rw [if_pos g, if_pos (by simpa using g)]
    · rw [if_neg g, if_neg (by simpa using g)]; omega
  unfold AgEnd at he
  rw [e1, e2] at he
  exact ⟨he, hw⟩
end Go.Proofs.YtgecahokkgealaaDoor
