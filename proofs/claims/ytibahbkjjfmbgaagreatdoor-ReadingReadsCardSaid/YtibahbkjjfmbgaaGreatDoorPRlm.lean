/-
  What is proved here: the law on the number of choices: what it answers, for each of its four readings.
-/
import Derived.Test.YtibahbkjjfmbgaaGreatDoorPX6
import Derived.Test.YtibahbkjjfmbgaaGreatDoorPY18
namespace Go.Proofs.YtibahbkjjfmbgaaGreatDoor
open Go.RowKit
set_option linter.unusedVariables false
theorem own_row {w : World} {base n c : Nat} {e : TypeId} {A : Option Addr} {vs : List Value} (h : w.ownsRow base e 1 (.slice A n c) n vs) (hn : 0 < n) : ∃ g us, A = some ⟨g, 0, none⟩ ∧ base ≤ g ∧ RowV w g (vs ++ us) := by
 rcases h.2 with ⟨h1, h2⟩ | ⟨g, cap, cur, hv, hb, hh, _, _, _, ht⟩
 · omega
 · injection hv with h1 _ _
   refine ⟨g, cur.toList.drop n, h1, hb, e, ?_⟩
   rw [hh]
   have : vs ++ cur.toList.drop n = cur.toList := by
    rw [← ht, Nat.mul_one, List.take_append_drop]
   rw [this]
end Go.Proofs.YtibahbkjjfmbgaaGreatDoor
