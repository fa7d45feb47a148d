/-
  What is proved here: the reference's identifier and its object of an info.
-/
import Derived.Test.YtcapbojjceeapaaDoorWJg
namespace Go.Proofs.YtcapbojjceeapaaDoor
open Go.RowKit
set_option maxRecDepth 8000
set_option linter.unusedVariables false
set_option linter.unusedSimpArgs false
theorem fa_x1 (g : Nat) (w : World) : (Instr.fieldAt 44 (.pointer (some ⟨g, 0, none⟩)) 1).run Tryd.prog w = .ok (.pointer (some ⟨g, 1, none⟩)) w := by kernel_rfl
theorem OctS.row {w0 : World} {x : List UInt8} {n : Nat} {u : Value} {c c' : World} {v : Value} (h : OctS w0 x n u c) (hg : c.grownBy c' v.ownBlock) (hv : ∀ g, v.ownBlock = some g → g < w0.heap.size) : OctS w0 x n u c' := by
  obtain ⟨A, cv, h1, h2, h3⟩ := h
  refine ⟨A, cv, h1, h2, (h3.keep fun q hq => World.cell?_of_block (hg.block _ hq.2 fun e => ?_)).imp fun b hb => ⟨hb.1, Nat.lt_of_lt_of_le hb.2 hg.size⟩⟩
  have := hv _ e.symm
  have := hq.1
  omega
theorem HoldsN.cells {w : World} {p : Nat → Prop} : ∀ {f : F} {cs : List Value}, HoldsN w p f cs → ∀ u ∈ cs, u.oneCell' = true
  | .nil, cs, h, u, hu => by
    have h : cs = [] := h
    subst h; cases hu
  | .cons _ _ _ _, cs, ⟨Av, cv, Ak, ck, ks, cs', e, h0, h1, h2, h3, h4⟩, u, hu => by
    subst e
    simp only [List.mem_cons] at hu
    rcases hu with rfl | rfl | rfl | hu
    · rfl
    · rfl
    · rfl
    · exact HoldsN.cells h4 u hu
def TwoS (w0 : World) (f : F) (u : Value) (c : World) : Prop := ∃ g ns, u = .slice (some ⟨g, 0, none⟩) 2 2 ∧ newB w0 c g ∧ RowV c g ns ∧ HoldsN c (newB w0 c) f ns
theorem TwoS.firm (w0 : World) (f : F) : Firm (TwoS w0 f) := by
  rintro u c c' ⟨g, ns, h1, h0, h4, h2⟩ hb
  exact ⟨g, ns, h1, ⟨h0.1, Nat.lt_of_lt_of_le h0.2 hb.size⟩, h4.on hb, HoldsN.imp (fun b h => ⟨h.1, Nat.lt_of_lt_of_le h.2 hb.size⟩) (HoldsN.keep (fun q hq => hb.cell hq.2) h2)⟩
theorem TwoS.row {w0 : World} {f : F} {u : Value} {c c' : World} {v : Value} (h : TwoS w0 f u c) (hg : c.grownBy c' v.ownBlock) (hv : ∀ g, v.ownBlock = some g → g < w0.heap.size) : TwoS w0 f u c' := by
  obtain ⟨g, ns, h1, h0, h4, h2⟩ := h
  have hne : ∀ k, w0.heap.size ≤ k → some k ≠ v.ownBlock := fun k hk e => by have := hv _ e.symm; omega
  exact ⟨g, ns, h1, ⟨h0.1, Nat.lt_of_lt_of_le h0.2 hg.size⟩, h4.same (hg.block _ h0.2 (hne _ h0.1)), HoldsN.imp (fun b h => ⟨h.1, Nat.lt_of_lt_of_le h.2 hg.size⟩) (HoldsN.keep (fun q hq => World.cell?_of_block (hg.block _ hq.2 (hne _ hq.1))) h2)⟩
end Go.Proofs.YtcapbojjceeapaaDoor
