/-
  What is proved here: a drawn region in which one value's row is used up by a later operation; beginnings and ends of lists of infos.
-/
import Derived.Test.YtmkggpgpiepjfaaDoorZKf
import Derived.Test.YtmkggpgpiepjfaaDoorZG7
import Derived.Test.YtmkggpgpiepjfaaDoorZJz
namespace Go.Proofs.YtmkggpgpiepjfaaDoor
open Go.RowKit
set_option maxRecDepth 8000
set_option linter.unusedVariables false
set_option linter.unusedSimpArgs false
def StepS (I : World → Prop) (K s : Nat) (Y : Value → World → Prop) (X : Nat → Value → World → Prop) (S : Nat → Bool) (v : Nat → Value) (c : World) (a : Act) (o : Oper) (i : Nat) (a' : Act) (w' : World) : Prop :=
  ∃ u, a' = a.put o.dst u ∧ X i u w' ∧ (i = s → Y u w') ∧ (Below c.heap.size c w' ∨ (i = K ∧ I w' ∧ ∀ j, S j = true → X j (v j) w'))
theorem region_src {P : Program} {ops : Array Oper} {Q : Exit → Act → World → Prop} {id : Nat} {w : World} (hm : P.follows .mixedOrders = true) (a0 : Act) (w1 : World) (I : World → Prop) (K s : Nat) (Y : Value → World → Prop) (X : Nat → Value → World → Prop) (hB : setB2 ops a0.tmps.size = true) (hF : ∀ i, Firm (X i)) (hY : Firm Y) (hsK : s ≠ K) (hI : ∀ c c', I c → Below c.heap.size c c' → I c')
    (h0 : Below w1.heap.size w1 w) (h1 : I w)
    (hstep : ∀ (i : Nat) (o : Oper), ops[i]? = some o → ∀ (v : Nat → Value) (S : Nat → Bool) (c : World) (a : Act), I c → (S K = false → Below w1.heap.size w1 c) → (S s = true → S K = false → Y (v s) c) → (∀ j, S j = true → X j (v j) c) → S i = false → (∀ e ∈ o.after, Region.binds .any e = true → S e.on = true) → SlotsIn ops a0 S v a → Closed ops S →
      o.wp P a c (StepS I K s Y X S v c a o i) Q)
    (hend : ∀ (v : Nat → Value) (c : World), I c → (∀ j, j < ops.size → X j (v j) c) → Q .normal (putAll v 0 ops.toList a0) c) : (Code.region id ops true).wp P Q a0 w := by
  refine region_setX2 hm a0 (fun v => v) (fun v S c => I c ∧ (S K = false → Below w1.heap.size w1 c) ∧ (S s = true → S K = false → Y (v s) c) ∧ ∀ j, S j = true → X j (v j) c) hB (fun _ => undef) ⟨hI _ _ h1 (below_drewN _ _ 1), fun _ => below_dn h0 1, fun h => (by cases h), fun j h => (by cases h)⟩ ?_ (fun v c S hall hW => hend v c hW.1 fun j hj => hW.2.2.2 j (hall j hj))
  intro i o ho v S c a hW hSi hdep hS hC
  refine Oper.wp_mono ?_ (hstep i o ho v S c a hW.1 hW.2.1 hW.2.2.1 hW.2.2.2 hSi hdep hS hC)
  rintro a' w' ⟨u, e, h2, hs, h3⟩
  refine ⟨fun j => if j = i then u else v j, fun j hj => ?_, by simpa using e, ?_, fun hK => ?_, fun hss hK => ?_, fun j hj => ?_⟩
  · have : j ≠ i := by rintro rfl; rw [hSi] at hj; cases hj
    simp [this]
  · rcases h3 with h3 | h3
    · exact hI _ _ hW.1 h3
    · exact h3.2.1
  · have hK2 : S K = false ∧ K ≠ i := by simpa using hK
    rcases h3 with h3 | h3
    · exact below_on (hW.2.1 hK2.1) h3
    · exact absurd h3.1.symm hK2.2
  · have hK2 : S K = false ∧ K ≠ i := by simpa using hK
    by_cases hsi : s = i
    · subst hsi; simpa using hs rfl
    · have hSs : S s = true := by simpa [hsi] using hss
      simp only [hsi, if_false]
      rcases h3 with h3 | h3
      · exact hY _ _ _ (hW.2.2.1 hSs hK2.1) h3
      · exact absurd h3.1.symm hK2.2
  · by_cases hji : j = i
    · subst hji; simpa using h2
    · have hSj : S j = true := by simpa [hji] using hj
      simp only [hji, if_false]
      rcases h3 with h3 | h3
      · exact hF j _ _ _ (hW.2.2.2 j hSj) h3
      · exact h3.2.2 j hSj
section
variable {a : Act} {c : World} {o : Oper} {I : World → Prop} {K s : Nat} {Y : Value → World → Prop} {X : Nat → Value → World → Prop} {S : Nat → Bool} {v : Nat → Value} {i : Nat}
theorem StepS.still {x : Value} (h : X i x c) (hs : i ≠ s) : StepS I K s Y X S v c a o i (a.put o.dst x) c := ⟨x, rfl, h, fun e => absurd e hs, .inl (Below.refl _ _)⟩
theorem StepS.new {x : Value} {c' : World} (h : X i x c') (hs : i = s → Y x c') (hb : Below c.heap.size c c') : StepS I K s Y X S v c a o i (a.put o.dst x) c' := ⟨x, rfl, h, hs, .inl hb⟩
theorem StepS.turn {x : Value} {c' : World} (h : X i x c') (hs : i ≠ s) (hK : i = K) (hI : I c') (hX : ∀ j, S j = true → X j (v j) c') : StepS I K s Y X S v c a o i (a.put o.dst x) c' := ⟨x, rfl, h, fun e => absurd e hs, .inr ⟨hK, hI, hX⟩⟩
end
theorem sl_to (g n c k : Nat) (h1 : k ≤ n) (hc : n ≤ c) (w : World) : (Instr.sliceAt 22 (.slice (some ⟨g, 0, none⟩) n c) none (some (.int .i64 (k : Int))) none).run Tryd.prog w = .ok (.slice (some ⟨g, 0, none⟩) k c) w := by
  have h2 : (k : Int) ≤ (c : Int) := by omega
  have h3 : (0 : Int) ≤ (k : Int) := by omega
  have h4 : ¬ ((k : Int) < 0) := by omega
  have h5 : ¬ ((c : Int) < (k : Int)) := by omega
  by_cases h : c = 0
  · subst h
    obtain rfl : n = 0 := by omega
    obtain rfl : k = 0 := by omega
    simp [go_sem, Addr.add]
  · simp [go_sem, Addr.add, h2, h3, h4, h5, h]
theorem sl_from (g n c k : Nat) (h1 : k ≤ n) (hc : n ≤ c) : ∃ ad : Addr, (∀ w, (Instr.sliceAt 22 (.slice (some ⟨g, 0, none⟩) n c) (some (.int .i64 (k : Int))) none none).run Tryd.prog w = .ok (.slice (some ad) (n - k) (c - k)) w) ∧ (ad = ⟨g, k * 5, none⟩ ∨ c = k) := by
  have h2 : ¬ ((n : Int) < (k : Int)) := by omega
  have h3 : ¬ ((c : Int) < (n : Int)) := by omega
  have h4 : (k : Int) ≤ (n : Int) := by omega
  have h5 : (0 : Int) ≤ (k : Int) := by omega
  have h6 : ¬ ((k : Int) < 0) := by omega
  have h7 : (n : Int) ≤ (c : Int) := by omega
  by_cases h : c = k
  · refine ⟨⟨g, 0, none⟩, fun w => ?_, .inr h⟩
    subst h
    obtain rfl : n = c := by omega
    simp [go_sem, Addr.add, h5, h6]
  · have h8 : ¬ (c - k = 0) := by omega
    refine ⟨⟨g, k * 5, none⟩, fun w => ?_, .inl rfl⟩
    simp [go_sem, Addr.add, h2, h3, h4, h5, h6, h7, h8]
    rw [if_neg h]
    by_cases hk : k * 5 = 0
    · rw [if_pos hk, hk]
    · rw [if_neg hk]
end Go.Proofs.YtmkggpgpiepjfaaDoor
