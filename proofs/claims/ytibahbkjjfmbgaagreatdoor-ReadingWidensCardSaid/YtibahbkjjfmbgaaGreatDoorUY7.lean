/-
  What is proved here: the lines of a zone, as the program builds them.
-/
import Derived.Test.YtibahbkjjfmbgaaGreatDoorUY6
namespace Go.Proofs.YtibahbkjjfmbgaaGreatDoor
open Go.RowKit Go.Maps
set_option linter.unusedVariables false
theorem OwnM.add {w cur cur' : World} {L : List (Nat × List Value)} {b n : Nat} {T : Nat → List UInt8} (h : Own w cur L) (hb : Below cur.heap.size cur cur') (hge : cur.heap.size ≤ b) (hm : MapIs cur' b n T) : OwnM w cur' L b n T :=
 ⟨h.on hb, hm, Nat.le_trans h.1.size hge, fun i g vs e => by have := (h.row e).lt; omega⟩
theorem p_zvalidB (z : Zn) (v : Int) (hv : vE z = v) (us : List Value) (hus : zV z = us) (hz : Bears z) (w : World) (hM : Mm w) :
 Calls Tryz.prog 63 #[.agg us.toArray] w fun e w' => e = .returned (.int .i64 v) ∧ Below w.heap.size w w' := by
 rw [← hv, ← hus]; exact p_zvalid z hz w hM
def BldW (w : World) (L : List (Nat × List Value)) (b n : Nat) (T : Nat → List UInt8) (cm : List UInt8) (ls : List (List UInt8)) (A : Option Addr) (S : Nat → Bool) (cur : World) : Prop :=
 (S 6 = false → OwnM w cur L b n T) ∧ (S 6 = true → OwnM w cur L b (n + 1) (updT T 14 cm)) ∧ Own w cur L ∧ (S 4 = true → S 6 = false → Strs cur A ls)
theorem BldW.skip {w cur cur' : World} {L : List (Nat × List Value)} {b n : Nat} {T : Nat → List UInt8} {cm : List UInt8} {ls : List (List UInt8)} {A : Option Addr} {S : Nat → Bool} {i : Nat} (h : BldW w L b n T cm ls A S cur) (hb : Below cur.heap.size cur cur') (h6 : i ≠ 6) (h4 : i ≠ 4) : BldW w L b n T cm ls A (fun j => S j || j == i) cur' := by
 obtain ⟨h1, h2, h3, h5⟩ := h
 have e6 : (S 6 || (6 == i)) = S 6 := by simp [Ne.symm h6]
 have e4 : (S 4 || (4 == i)) = S 4 := by simp [Ne.symm h4]
 refine ⟨fun hs => (h1 (by rw [← e6]; exact hs)).on hb, fun hs => (h2 (by rw [← e6]; exact hs)).on hb, h3.on hb, fun hs hs2 => (h5 (by rw [← e4]; exact hs) (by rw [← e6]; exact hs2)).on hb⟩
section
variable {w cur : World} {L : List (Nat × List Value)} {b n : Nat} {T : Nat → List UInt8} {cm : List UInt8} {ls : List (List UInt8)} {A : Option Addr} {S : Nat → Bool}
theorem BldW.start (ho : OwnM w cur L b n T) : BldW w L b n T cm ls A (fun _ => false) cur := ⟨fun _ => ho, fun h => (by cases h), ho.1, fun h => (by cases h)⟩
theorem BldW.put (ho : OwnM w cur L b (n + 1) (updT T 14 cm)) : BldW w L b n T cm ls A (fun j => S j || j == 6) cur := by
 have e6 : (S 6 || (6 == 6)) = true := by simp
 exact ⟨fun h => absurd (e6.symm.trans h) (by decide), fun _ => ho, ho.1, fun _ h => absurd (e6.symm.trans h) (by decide)⟩
end
end Go.Proofs.YtibahbkjjfmbgaaGreatDoor
