/-
  What is proved here: what the operations of the reference's Parse do, for any activation.
-/
import Derived.Test.YtibahbkjjfmbgaaGreatDoorY9
namespace Go.Proofs.YtibahbkjjfmbgaaGreatDoor
open Go.RowKit Go.Maps
set_option linter.unusedVariables false

theorem sl_lh (X : ByteArray) (a b : Nat) (h1 : a ≤ b) (h2 : b ≤ X.size) (w : World) : (Instr.sliceAt 9 (.string X) (some (.int .i64 (a : Int))) (some (.int .i64 (b : Int))) none).run Tryz.prog w = .ok (.string (X.extract a b)) w := by
  have e1 : (a : Int) ≤ (b : Int) := by omega
  have e2 : (b : Int) ≤ (X.size : Int) := by omega
  simp [go_sem, Tryz.underlying9, e1, e2]
theorem sl_h (X : ByteArray) (b : Nat) (h2 : b ≤ X.size) (w : World) : (Instr.sliceAt 9 (.string X) none (some (.int .i64 (b : Int))) none).run Tryz.prog w = .ok (.string (X.extract 0 b)) w := by
  have e2 : (b : Int) ≤ (X.size : Int) := by omega
  simp [go_sem, Tryz.underlying9, e2]
theorem sl_l (X : ByteArray) (a : Nat) (h2 : a ≤ X.size) (w : World) : (Instr.sliceAt 9 (.string X) (some (.int .i64 (a : Int))) none none).run Tryz.prog w = .ok (.string (X.extract a X.size)) w := by
  have e2 : (a : Int) ≤ (X.size : Int) := by omega
  simp [go_sem, Tryz.underlying9, e2]
theorem run_trm (vs : Array Value) (w : World) : (callFunc 52 vs).run Tryz.prog w = .ok (.enter 52 vs) w :=
  run_enter (c := _) Tryz.func52 (by decide) rfl vs w
/-- a fresh zone with its first three fields -/
def zon3 (f : Int) (KD ST : ByteArray) : List Value := [.int .i64 f, .string KD, .string ST, .string ⟨#[]⟩, .string ⟨#[]⟩, .string ⟨#[]⟩, .string ⟨#[]⟩, .string ⟨#[]⟩, .string ⟨#[]⟩, .string ⟨#[]⟩, .string ⟨#[]⟩, .string ⟨#[]⟩]
theorem build_zp (f : Int) (KD ST : ByteArray) (w : World) : (Instr.build 44 #[(0, .int .i64 f), (1, .string KD), (2, .string ST)]).run Tryz.prog w = .ok (.agg (zon3 f KD ST).toArray) w := by kernel_rfl
theorem trm_b (X : ByteArray) (x : List UInt8) (hx : X = S x) (hm : X.size ≤ 140737488355328) (w : World) : Calls Tryz.prog 52 #[.string X] w fun e w' => e = .returned (.string (S (trimT x))) ∧ Below w.heap.size w w' :=
  (r_trim X x hx w hm).mono fun e w' h => ⟨h.1, by rw [h.2]; exact Below.refl _ _⟩
/-- a region that makes a block at operation ia and fills it at operation iz -/
def WAS (ia iz : Nat) (w : World) (L : List (Nat × List Value)) (zs us : List Value) (g : Nat) (S : Nat → Bool) (cur : World) : Prop :=
  Own w cur L ∧ (S ia = true → S iz = false → Own w cur (L ++ [(g, zs)])) ∧ (S iz = true → Own w cur (L ++ [(g, us)]))
section
variable {w cur cur' : World} {ia iz g i : Nat} {zs us : List Value} {L : List (Nat × List Value)} {S : Nat → Bool}
theorem WAS.start (h : Own w cur L) : WAS ia iz w L zs us g (fun _ => false) cur := ⟨h, fun h => (by cases h), fun h => (by cases h)⟩
theorem WAS.skip (h : WAS ia iz w L zs us g S cur) (hb : Below cur.heap.size cur cur') (h7 : i ≠ ia) (h8 : i ≠ iz) : WAS ia iz w L zs us g (fun j => S j || j == i) cur' := by
  have e7 : (S ia || (ia == i)) = S ia := by simp [Ne.symm h7]
  have e8 : (S iz || (iz == i)) = S iz := by simp [Ne.symm h8]
  exact ⟨h.1.on hb, fun a b => (h.2.1 (e7.symm.trans a) (e8.symm.trans b)).on hb, fun a => (h.2.2 (e8.symm.trans a)).on hb⟩
theorem WAS.made (hne : ia ≠ iz) (h8 : S iz = false) (h : Own w cur (L ++ [(g, zs)])) : WAS ia iz w L zs us g (fun j => S j || j == ia) cur := by
  have e8 : (S iz || (iz == ia)) = false := by rw [h8]; simp [Ne.symm hne]
  exact ⟨h.pre, fun _ _ => h, fun a => absurd (e8.symm.trans a) (by decide)⟩
theorem WAS.put (h : Own w cur (L ++ [(g, us)])) : WAS ia iz w L zs us g (fun j => S j || j == iz) cur := by
  have e8 : (S iz || (iz == iz)) = true := by simp
  exact ⟨Own.pre (L := L) h, fun _ b => absurd (e8.symm.trans b) (by decide), fun _ => h⟩
end
end Go.Proofs.YtibahbkjjfmbgaaGreatDoor
