/-
  What is proved here: the program's tables as they lie in memory, and its Sum of a literal; no other condition.
-/
import Derived.Test.YtaikoeoabgkglaaDoorSmp
import Derived.Test.YtaikoeoabgkglaaDoorSlit
namespace Go.Proofs.YtaikoeoabgkglaaDoor
open Go.RowKit
set_option linter.unusedVariables false

/-- all of the program's tables lie in memory -/
def TabA (w : World) : Prop := TabP w ∧ TabF w ∧ 0 < w.heap.size
theorem TabA.below {w wr : World} (h : TabA w) (hb : Below w.heap.size w wr) : TabA wr :=
  ⟨h.1.below hb, fun j v hv => (hb.cell (p := ⟨_, 0 + j, none⟩) h.2.2).trans (h.2.1 j v hv), Nat.lt_of_lt_of_le h.2.2 hb.size⟩

/-- what a maker of bytes answers, as a fact on the world behind it -/
theorem mk_sees {w w' : World} {l : List UInt8} {e : Ending} (h : Mk w l e w') : ∃ A c, e = .returned (.slice A l.length c) ∧ l.length ≤ c ∧ (A = none → c = 0) ∧ SeesP w' (· < w'.heap.size) A (Us l) ∧ Below w.heap.size w w' := by
  obtain ⟨A, c, he, hc, hn, hs, hb⟩ := h
  exact ⟨A, c, he, hc, hn, hs.imp fun b hb => hb.2, hb⟩
theorem sum_small (l : List UInt8) (w : World) (t : TypeId) (fr : Nat × Nat) (h : TabA w) (hl : l.length ≤ 1000) :
    Calls Tryd.prog 40 #[.slice (some ⟨w.heap.size, 0, none⟩) l.length l.length] (w.alloc (.cells (Us l).toArray t fr)) (Mk (w.alloc (.cells (Us l).toArray t fr)) (sumL l)) := by
  have h2 := h.below ((Below.refl w.heap.size w).alloc (Nat.le_refl _) (.cells (Us l).toArray t fr))
  exact digest_sum l (some ⟨w.heap.size, 0, none⟩) l.length _ (by omega) (sees_lit w l t fr) h2.1 h2.2.1

end Go.Proofs.YtaikoeoabgkglaaDoor
