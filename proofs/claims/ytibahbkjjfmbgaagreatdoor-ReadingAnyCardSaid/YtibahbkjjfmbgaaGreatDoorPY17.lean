/-
  What is proved here: the reference's Parse, for any lines.
-/
import Derived.Test.YtibahbkjjfmbgaaGreatDoorPRpn
namespace Go.Proofs.YtibahbkjjfmbgaaGreatDoor
open Go.RowKit Go.Maps
set_option linter.unusedVariables false
theorem shape_cases (ls : List (List UInt8)) : shapeL ls = 0 ∨ (1 ≤ shapeL ls ∧ shapeL ls ≤ 3) := by
 unfold shapeL
 split
 · exact .inr ⟨by decide, by decide⟩
 · split
   · exact .inr ⟨by decide, by decide⟩
   · split
     · exact .inr ⟨by decide, by decide⟩
     · exact .inl rfl
theorem r_zparse (ls : List (List UInt8)) (A : Option Addr) (n c : Nat) (hn : ls.length = n) (w : World) (hs : Strs w A ls) :
 Calls Tryz.prog 25 #[.slice A n c] w fun e w' => e = .returned (.tuple #[.agg (zV (parZ ls)).toArray, .int .i64 (parE ls)]) ∧ Below w.heap.size w w' := by
 rcases shape_cases ls with h0 | h1
 · have e : parE ls = 2 := by unfold parE; rw [if_pos h0]
   have z : zV (parZ ls) = zon0 := by unfold parZ; rw [e, if_neg (by decide)]; rfl
   rw [e, z]
   exact r_parse_no ls A n c hn h0 w hs
 · rcases hav : allV ls with _ | _
   · have e : parE ls = 12 := by unfold parE; rw [if_neg (by omega), if_pos hav]
     have z : zV (parZ ls) = zon0 := by unfold parZ; rw [e, if_neg (by decide)]; rfl
     rw [e, z]
     exact r_parse_bad ls A n c hn _ h1 rfl hav w hs
   · exact r_parse_ok _ h1 ls A n c hn rfl hav w hs
end Go.Proofs.YtibahbkjjfmbgaaGreatDoor
