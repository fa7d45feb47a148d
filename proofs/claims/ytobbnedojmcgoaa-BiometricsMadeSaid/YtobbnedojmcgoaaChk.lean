/-
  What is proved here: what the program's check returns: the number of objects, or the code of the first error; for objects that lie in memory.
-/
import Derived.Test.YtobbnedojmcgoaaRows
import Derived.Test.YtobbnedojmcgoaaKit
import Derived.Test.YtobbnedojmcgoaaTag
import Derived.Test.YtobbnedojmcgoaaFo
namespace Go.Proofs.Ytobbnedojmcgoaa
open Go.RowKit

/-- the first error of an object itself -/
def chk1 (t : Int) (lv lk : Nat) (d : Int) : Int :=
  if validB t = false then 4 else if (consB t = true ∧ 0 < lv) ∨ (consB t = false ∧ 0 < lk) then 1 else if 8 < d then 7 else 0

/-- the first error of objects at a depth -/
def chkE : F → Int → Int
  | .nil, _ => 0
  | .cons t v k r, d => if chk1 t v.length k.len d ≠ 0 then chk1 t v.length k.len d else if chkE k (d + 1) ≠ 0 then chkE k (d + 1) else chkE r d
def F.under : F → Nat
  | .nil => 0
  | .cons _ _ k r => k.size + r.under
theorem F.size_eq : ∀ f : F, f.size = f.len + f.under
  | .nil => rfl
  | .cons _ _ k r => by have := r.size_eq; simp only [F.len, F.size, F.under]; omega
/-- numbers that a machine holds -/
def F.ok : F → Prop
  | .nil => True
  | .cons t v k r => (-9223372036854775808 ≤ t ∧ t ≤ 9223372036854775807) ∧ v.length ≤ 140737488351232 ∧ k.ok ∧ r.ok
theorem chk1_le {t : Int} {lv lk : Nat} {d : Int} (h : chk1 t lv lk d = 0) : d ≤ 8 := by
  unfold chk1 at h
  split at h
  · omega
  · split at h
    · omega
    · split at h <;> omega
theorem chkE_1 {t : Int} {v : List UInt8} {k r : F} {d : Int} (h : chk1 t v.length k.len d ≠ 0) : chkE (.cons t v k r) d = chk1 t v.length k.len d := by simp only [chkE]; rw [if_pos h]
theorem chkE_2 {t : Int} {v : List UInt8} {k r : F} {d : Int} (h : chk1 t v.length k.len d = 0) (h2 : chkE k (d + 1) ≠ 0) : chkE (.cons t v k r) d = chkE k (d + 1) := by simp only [chkE]; rw [if_neg (by omega), if_pos h2]
theorem chkE_3 {t : Int} {v : List UInt8} {k r : F} {d : Int} (h : chk1 t v.length k.len d = 0) (h2 : chkE k (d + 1) = 0) : chkE (.cons t v k r) d = chkE r d := by simp only [chkE]; rw [if_neg (by omega), if_neg (by omega)]

/-- what check answers -/
def ChkIs (f : F) (d : Int) (w : World) (e : Ending) (w' : World) : Prop :=
  e = .returned (.tuple #[.int .i64 (if chkE f d = 0 then (f.size : Int) else 0), .int .i64 (chkE f d)]) ∧ w' = w
theorem chk_bad {f : F} {d x : Int} {w : World} (h : chkE f d = x) (hx : x ≠ 0) : ChkIs f d w (.returned (.tuple #[.int .i64 0, .int .i64 x])) w := by
  unfold ChkIs
  rw [h, if_neg hx]
  exact ⟨rfl, rfl⟩
theorem chk_good {f : F} {d : Int} {m : Nat} {w : World} (h : chkE f d = 0) (hm : m = f.size) : ChkIs f d w (.returned (.tuple #[.int .i64 (m : Int), .int .i64 0])) w := by
  unfold ChkIs
  rw [h, if_pos rfl, hm]
  exact ⟨rfl, rfl⟩

end Go.Proofs.Ytobbnedojmcgoaa
