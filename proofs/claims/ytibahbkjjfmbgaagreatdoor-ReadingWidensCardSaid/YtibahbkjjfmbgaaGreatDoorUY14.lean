/-
  What is proved here: what the reference's right answers, for all texts; what its Shape answers.
-/
import Derived.Test.YtibahbkjjfmbgaaGreatDoorUY11
import Derived.Test.YtibahbkjjfmbgaaGreatDoorUY9
namespace Go.Proofs.YtibahbkjjfmbgaaGreatDoor
open Go.RowKit Go.Maps
set_option linter.unusedVariables false
theorem sl_lh (X : ByteArray) (a b : Nat) (h1 : a ≤ b) (h2 : b ≤ X.size) (w : World) : (Instr.sliceAt 9 (.string X) (some (.int .i64 (a : Int))) (some (.int .i64 (b : Int))) none).run Tryz.prog w = .ok (.string (X.extract a b)) w := by
 have e1 : (a : Int) ≤ (b : Int) := by omega
 have e2 : (b : Int) ≤ (X.size : Int) := by omega
 simp [go_sem, Tryz.underlying9, e1, e2]
theorem sl_h (X : ByteArray) (b : Nat) (h2 : b ≤ X.size) (w : World) : (Instr.sliceAt 9 (.string X) none (some (.int .i64 (b : Int))) none).run Tryz.prog w = .ok (.string (X.extract 0 b)) w := by
 have e2 : (b : Int) ≤ (X.size : Int) := by omega
 simp [go_sem, Tryz.underlying9, e2]
theorem sl_l (X : ByteArray) (a : Nat) (h2 : a ≤ X.size) (w : World) : (Instr.sliceAt 9 (.string X) (some (.int .i64 (a : Int))) none none).run Tryz.prog w = .ok (.string (X.extract a X.size)) w := by
 have e2 : (a : Int) ≤ (X.size : Int) := by omega
 simp [go_sem, Tryz.underlying9, e2]
def WAS (ia iz : Nat) (w : World) (L : List (Nat × List Value)) (zs us : List Value) (g : Nat) (S : Nat → Bool) (cur : World) : Prop :=
 Own w cur L ∧ (S ia = true → S iz = false → Own w cur (L ++ [(g, zs)])) ∧ (S iz = true → Own w cur (L ++ [(g, us)]))
section
variable {w cur cur' : World} {ia iz g i : Nat} {zs us : List Value} {L : List (Nat × List Value)} {S : Nat → Bool}
theorem WAS.start (h : Own w cur L) : WAS ia iz w L zs us g (fun _ => false) cur := ⟨h, fun h => (by cases h), fun h => (by cases h)⟩
theorem WAS.skip (h : WAS ia iz w L zs us g S cur) (hb : Below cur.heap.size cur cur') (h7 : i ≠ ia) (h8 : i ≠ iz) : WAS ia iz w L zs us g (fun j => S j || j == i) cur' := by
 have e7 : (S ia || (ia == i)) = S ia := by simp [Ne.symm h7]
 have e8 : (S iz || (iz == i)) = S iz := by simp [Ne.symm h8]
 exact ⟨h.1.on hb, fun a b => (h.2.1 (e7.symm.trans a) (e8.symm.trans b)).on hb, fun a => (h.2.2 (e8.symm.trans a)).on hb⟩
theorem WAS.made (hne : ia ≠ iz) (h8 : S iz = false) (h : Own w cur (L ++ [(g, zs)])) : WAS ia iz w L zs us g (fun j => S j || j == ia) cur := by
 have e8 : (S iz || (iz == ia)) = false := by rw [h8]; simp [Ne.symm hne]
 exact ⟨h.pre, fun _ _ => h, fun a => absurd (e8.symm.trans a) (by decide)⟩
theorem WAS.put (h : Own w cur (L ++ [(g, us)])) : WAS ia iz w L zs us g (fun j => S j || j == iz) cur := by
 have e8 : (S iz || (iz == iz)) = true := by simp
 exact ⟨Own.pre (L := L) h, fun _ b => absurd (e8.symm.trans b) (by decide), fun _ => h⟩
end
end Go.Proofs.YtibahbkjjfmbgaaGreatDoor
