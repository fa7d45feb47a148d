/-
  What is proved here: a drawn region in which one value's row is used up by a later operation; beginnings and ends of lists of infos.
-/
import Derived.Test.YtcapbojjceeapaaDoorWKf
import Derived.Test.YtcapbojjceeapaaDoorWG7
import Derived.Test.YtcapbojjceeapaaDoorWJz
namespace Go.Proofs.YtcapbojjceeapaaDoor
open Go.RowKit
set_option maxRecDepth 8000
set_option linter.unusedVariables false
set_option linter.unusedSimpArgs false
def StepS (I : World → Prop) (K s : Nat) (Y : Value → World → Prop) (X : Nat → Value → World → Prop) (S : Nat → Bool) (v : Nat → Value) (c : World) (a : Act) (o : Oper) (i : Nat) (a' : Act) (w' : World) : Prop :=
  ∃ u, a' = a.put o.dst u ∧ X i u w' ∧ (i = s → Y u w') ∧ (Below c.heap.size c w' ∨ (i = K ∧ I w' ∧ ∀ j, S j = true → X j (v j) w'))
section
variable {a : Act} {c : World} {o : Oper} {I : World → Prop} {K s : Nat} {Y : Value → World → Prop} {X : Nat → Value → World → Prop} {S : Nat → Bool} {v : Nat → Value} {i : Nat}
theorem StepS.still {x : Value} (h : X i x c) (hs : i ≠ s) : StepS I K s Y X S v c a o i (a.put o.dst x) c := ⟨x, rfl, h, fun e => absurd e hs, .inl (Below.refl _ _)⟩
theorem StepS.new {x : Value} {c' : World} (h : X i x c') (hs : i = s → Y x c') (hb : Below c.heap.size c c') : StepS I K s Y X S v c a o i (a.put o.dst x) c' := ⟨x, rfl, h, hs, .inl hb⟩
theorem StepS.turn {x : Value} {c' : World} (h : X i x c') (hs : i ≠ s) (hK : i = K) (hI : I c') (hX : ∀ j, S j = true → X j (v j) c') : StepS I K s Y X S v c a o i (a.put o.dst x) c' := ⟨x, rfl, h, fun e => absurd e hs, .inr ⟨hK, hI, hX⟩⟩
end
theorem sl_to (g n c k : Nat) (h1 : k ≤ n) (hc : n ≤ c) (w : World) : (Instr.sliceAt 22 (.slice (some ⟨g, 0, none⟩) n c) none (some (.int .i64 (k : Int))) none).run Tryd.prog w = .ok (.slice (some ⟨g, 0, none⟩) k c) w := by
  have h2 : (k : Int) ≤ (c : Int) := by omega
  have h3 : (0 : Int) ≤ (k : Int) := by omega
  have h4 : ¬ ((k : Int) < 0) := by omega
  have h5 : ¬ ((c : Int) < (k : Int)) := by omega
  by_cases h : c = 0
  · subst h
    obtain rfl : n = 0 := by omega
    obtain rfl : k = 0 := by omega
    simp [go_sem, Addr.add]
  · simp [go_sem, Addr.add, h2, h3, h4, h5, h]
end Go.Proofs.YtcapbojjceeapaaDoor
