/-
  What is proved here: a region that draws its order and whose operations make memory: of each operation one fact about what it hands back, which later operations do not turn. Nothing of the program is used.
-/
import Derived.Test.YtobbnedojmcgoaaRs2
import Derived.Great.BuildSlice
import Derived.Great.Walk
import Derived.Deep.AppendLies
namespace Go.Proofs.Ytobbnedojmcgoaa
open Go.RowKit
set_option linter.unusedVariables false
set_option linter.unusedSimpArgs false

theorem region_setX2 {P : Program} {ops : Array Oper} {Q : Exit → Act → World → Prop} {id : Nat} {w : World} (hm : P.follows .mixedOrders = true) (a0 : Act) {B : Type} (v : B → Nat → Value) (W : B → (Nat → Bool) → World → Prop) (hB : setB2 ops a0.tmps.size = true)
    (b0 : B) (h0 : W b0 (fun _ => false) { w with drawn := w.drawn + 1 })
    (hstep : ∀ (i : Nat) (o : Oper), ops[i]? = some o → ∀ (b : B) (S : Nat → Bool) (w : World) (a : Act), W b S w → S i = false → (∀ e ∈ o.after, Region.binds .any e = true → S e.on = true) → SlotsIn ops a0 S (v b) a → Closed ops S →
      o.wp P a w (fun a' w' => ∃ b', (∀ j, S j = true → v b' j = v b j) ∧ a' = a.put o.dst (v b' i) ∧ W b' (fun j => S j || j == i) w') Q)
    (hend : ∀ (b : B) (w : World) (S : Nat → Bool), (∀ j, j < ops.size → S j = true) → W b S w → Q .normal (putAll (v b) 0 ops.toList a0) w) : (Code.region id ops true).wp P Q a0 w := by
  refine region_setE2 hm a0 v (fun b S w => W b S w ∧ Closed ops S) hB b0 ⟨h0, fun j oj _ h => by cases h⟩ ?_ (fun b w a S h1 h2 h3 => by rw [h2.all2 hB h1]; exact hend b w S h1 h3.1)
  intro i o ho b S w a hW hSi hdep hS
  refine Oper.wp_mono ?_ (hstep i o ho b S w a hW.1 hSi hdep hS hW.2)
  rintro a' w' ⟨b', h1, e0, h3⟩
  refine ⟨b', h1, e0, h3, fun j oj hj hSj e he hb => ?_⟩
  by_cases hji : j = i
  · subst hji
    rw [ho] at hj
    injection hj with hj
    subst hj
    show (S e.on || e.on == j) = true
    rw [hdep e he hb]; rfl
  · have : S j = true := by simpa [hji] using hSj
    show (S e.on || e.on == i) = true
    rw [hW.2 j oj hj this e he hb]; rfl

/-- a fact that what is made later does not turn -/
def Firm (X : Value → World → Prop) : Prop := ∀ u c c', X u c → Below c.heap.size c c' → X u c'
/-- what a step owes: its value, the fact of it, and that it turned nothing that was there (or, at the place K, that all facts stand all the same) -/
def Step (I : World → Prop) (K : Nat) (X : Nat → Value → World → Prop) (S : Nat → Bool) (v : Nat → Value) (c : World) (a : Act) (o : Oper) (i : Nat) (a' : Act) (w' : World) : Prop :=
  ∃ u, a' = a.put o.dst u ∧ X i u w' ∧ (Below c.heap.size c w' ∨ (i = K ∧ I w' ∧ ∀ j, S j = true → X j (v j) w'))
theorem region_facts {P : Program} {ops : Array Oper} {Q : Exit → Act → World → Prop} {id : Nat} {w : World} (hm : P.follows .mixedOrders = true) (a0 : Act) (w1 : World) (I : World → Prop) (K : Nat) (X : Nat → Value → World → Prop) (hB : setB2 ops a0.tmps.size = true) (hF : ∀ i, Firm (X i)) (hI : ∀ c c', I c → Below c.heap.size c c' → I c')
    (h0 : Below w1.heap.size w1 w) (h1 : I w)
    (hstep : ∀ (i : Nat) (o : Oper), ops[i]? = some o → ∀ (v : Nat → Value) (S : Nat → Bool) (c : World) (a : Act), I c → (S K = false → Below w1.heap.size w1 c) → (∀ j, S j = true → X j (v j) c) → S i = false → (∀ e ∈ o.after, Region.binds .any e = true → S e.on = true) → SlotsIn ops a0 S v a → Closed ops S →
      o.wp P a c (Step I K X S v c a o i) Q)
    (hend : ∀ (v : Nat → Value) (c : World), I c → (∀ j, j < ops.size → X j (v j) c) → Q .normal (putAll v 0 ops.toList a0) c) : (Code.region id ops true).wp P Q a0 w := by
  refine region_setX2 hm a0 (fun v => v) (fun v S c => I c ∧ (S K = false → Below w1.heap.size w1 c) ∧ ∀ j, S j = true → X j (v j) c) hB (fun _ => undef) ⟨hI _ _ h1 (below_drewN _ _ 1), fun _ => below_dn h0 1, fun j h => by cases h⟩ ?_ (fun v c S hall hW => hend v c hW.1 fun j hj => hW.2.2 j (hall j hj))
  intro i o ho v S c a hW hSi hdep hS hC
  refine Oper.wp_mono ?_ (hstep i o ho v S c a hW.1 hW.2.1 hW.2.2 hSi hdep hS hC)
  rintro a' w' ⟨u, e, h2, h3⟩
  refine ⟨fun j => if j = i then u else v j, fun j hj => ?_, by simpa using e, ?_, fun hK => ?_, fun j hj => ?_⟩
  · have : j ≠ i := by rintro rfl; rw [hSi] at hj; cases hj
    simp [this]
  · rcases h3 with h3 | h3
    · exact hI _ _ hW.1 h3
    · exact h3.2.1
  · have hK2 : S K = false ∧ K ≠ i := by simpa using hK
    rcases h3 with h3 | h3
    · exact below_on (hW.2.1 hK2.1) h3
    · exact absurd h3.1.symm hK2.2
  · by_cases hji : j = i
    · subst hji; simpa using h2
    · have hSj : S j = true := by simpa [hji] using hj
      simp only [hji, if_false]
      rcases h3 with h3 | h3
      · exact hF j _ _ _ (hW.2.2 j hSj) h3
      · exact h3.2.2 j hSj
/-- the facts by a list -/
def factL (L : List (Value → World → Prop)) (i : Nat) : Value → World → Prop := L.getD i (fun _ _ => True)
theorem firm_list {L : List (Value → World → Prop)} (h : ∀ X ∈ L, Firm X) (i : Nat) : Firm (factL L i) := by
  unfold factL
  rcases hi : L[i]? with _ | X
  · simp only [List.getD, hi, Option.getD_none]
    exact fun _ _ _ _ _ => trivial
  · simp only [List.getD, hi, Option.getD_some]
    exact h X (List.mem_of_getElem? hi)
theorem firm_eq (x : Value) : Firm (fun u _ => u = x) := fun _ _ _ h _ => h
theorem firm_true : Firm (fun _ _ => True) := fun _ _ _ _ _ => trivial
section
variable {a : Act} {c : World} {o : Oper} {I : World → Prop} {K : Nat} {X : Nat → Value → World → Prop} {S : Nat → Bool} {v : Nat → Value} {i : Nat}
theorem Step.still {x : Value} (h : X i x c) : Step I K X S v c a o i (a.put o.dst x) c := ⟨x, rfl, h, .inl (Below.refl _ _)⟩
theorem Step.new {x : Value} {c' : World} (h : X i x c') (hb : Below c.heap.size c c') : Step I K X S v c a o i (a.put o.dst x) c' := ⟨x, rfl, h, .inl hb⟩
theorem Step.turn {x : Value} {c' : World} (h : X i x c') (hK : i = K) (hI : I c') (hX : ∀ j, S j = true → X j (v j) c') : Step I K X S v c a o i (a.put o.dst x) c' := ⟨x, rfl, h, .inr ⟨hK, hI, hX⟩⟩
end
/-! ## operations that call or make memory, for any activation -/
section
variable {P : Program} {a : Act} {w : World} {K : Act → World → Prop} {Q : Exit → Act → World → Prop} {o : Oper}
theorem o_callV (fo : Operand) (f : FuncId) (args : Array Operand) (tys : Array TypeId) (ho : o.op = .call { callee := .value fo, args := args, argTypes := tys }) {vs : Array Value} (hf : a.eval fo = .func (.func f) #[] #[]) (hx : args.map a.eval = vs) (hr : (callFunc f vs).run P w = .ok (.enter f vs) w)
    {R : Ending → World → Prop} (h : Calls P f vs w R) (hR : ∀ e w', R e w' → ∃ v, e = .returned v ∧ K (a.put o.dst v) w') : o.wp P a w K Q := by
  have h1 : (execOp a.eval o).run P w = .ok (.enter f vs) w := by
    simp [execOp, ho, resolve, invoke, hx, hf, hr, Deferred.ofValue]
  unfold Oper.wp
  rw [h1, Oper.upon_enter]
  refine h.mono ?_
  intro e w' hq
  obtain ⟨v, rfl, hK⟩ := hR e w' hq
  exact hK
theorem o_bld (t : TypeId) (parts : Array (Nat × Operand)) (ho : o.op = .build t parts) {ps : List (Nat × Value)} (hp : (parts.map fun (i, x) => (i, a.eval x)).toList = ps) {vs : List Value} (hb : P.built t ps = some vs.toArray) (hK : K (a.put o.dst (.agg vs.toArray)) w) : o.wp P a w K Q := by
  refine wp_build t parts ho (by rw [hp, hb]; rfl) ?_
  rw [hp, hb]
  exact hK
theorem o_bsl (t e : TypeId) (len : Nat) (parts : Array (Nat × Operand)) (ho : o.op = .buildSlice t len parts) (hu : P.underlying t = some (.slice e)) {ps : List (Nat × Value)} (hp : (parts.map fun (i, x) => (i, a.eval x)).toList = ps) {vs : List Value} (hf : P.builtSlice e len ps = some vs.toArray)
    (hK : ∀ g w', Fresh w w' g → RowV w' g vs → K (a.put o.dst (.slice (some ⟨g, 0, none⟩) len len)) w') : o.wp P a w K Q := by
  unfold Program.builtSlice at hf
  cases hie : P.info? e with
  | none => simp [hie] at hf
  | some ie =>
    simp only [hie] at hf
    cases hz : ie.zero with
    | none => simp [hz] at hf
    | some z =>
      simp only [hz] at hf
      by_cases hc : len * ie.size > 2 ^ 24 ∨ len * ie.size = 0
      · simp [hc] at hf
      · rw [if_neg hc] at hf
        exact wp_buildSlice t e len parts ho vs.toArray ie z hu hie hz (fun h => hc (.inl h)) (fun h => hc (.inr h)) (by rw [hp]; exact hf) (hK _ _ ⟨rfl, _, rfl⟩ (RowV.new (by simp)))
theorem o_bin (b : BinOp) (T T2 : TypeId) (x y : Operand) (ho : o.op = .binOp b T x y T2) {v vx vy : Value} (hx : a.eval x = vx) (hy : a.eval y = vy) (hr : (do eqGuard b T x y vx vy; binOp b T vx vy).run P w = .ok v w) (hK : K (a.put o.dst v) w) : o.wp P a w K Q := by
  unfold Oper.wp execOp
  simp only [ho, hx, hy]
  rw [Sem.run_bind, hr]
  exact hK
theorem o_cv (T1 T2 : TypeId) (x : Operand) (ho : o.op = .convert T1 T2 x) {v vx : Value} (hx : a.eval x = vx) (hr : (convert T1 T2 vx).run P w = .ok v w) (hK : K (a.put o.dst v) w) : o.wp P a w K Q := by
  unfold Oper.wp execOp
  simp only [ho, hx, Sem.run_bind, hr, Result.andThen_ok, Sem.run_pure]
  exact hK
theorem o_nil (x : Operand) (ho : o.op = .nilCheck x) {ad : Addr} (hx : a.eval x = .pointer (some ad)) (hK : K (a.put o.dst (.pointer (some ad))) w) : o.wp P a w K Q := by
  unfold Oper.wp execOp
  simp only [ho, hx]
  exact hK
end
theorem wpList_bslV {P : Program} {ops : Array Oper} {rest : List Oper} {o : Oper} {a : Act} {w : World} {Q : Exit → Act → World → Prop} (hgd : o.guard = none) (t e : TypeId) (len : Nat) (parts : Array (Nat × Operand)) (ho : o.op = .buildSlice t len parts) (hu : P.underlying t = some (.slice e)) {ps : List (Nat × Value)} (hp : (parts.map fun (i, x) => (i, a.eval x)).toList = ps) {vs : List Value} (hf : P.builtSlice e len ps = some vs.toArray)
    (hK : ∀ g w', Fresh w w' g → RowV w' g vs → wpList P ops Q rest (a.put o.dst (.slice (some ⟨g, 0, none⟩) len len)) w') : wpList P ops Q (o :: rest) a w :=
  wpList_plain hgd fun _ hK2 => o_bsl t e len parts ho hu hp hf fun g w' h1 h2 => hK2 _ _ (hK g w' h1 h2)
theorem wpList_callV {P : Program} {ops : Array Oper} {rest : List Oper} {o : Oper} {a : Act} {w : World} {Q : Exit → Act → World → Prop} (hgd : o.guard = none) (fo : Operand) (f : FuncId) (args : Array Operand) (tys : Array TypeId) (ho : o.op = .call { callee := .value fo, args := args, argTypes := tys }) {vs : Array Value} (hf : a.eval fo = .func (.func f) #[] #[]) (hx : args.map a.eval = vs) (hr : (callFunc f vs).run P w = .ok (.enter f vs) w)
    {R : Ending → World → Prop} (h : Calls P f vs w R) (hR : ∀ e w', R e w' → ∃ v, e = .returned v ∧ wpList P ops Q rest (a.put o.dst v) w') : wpList P ops Q (o :: rest) a w :=
  wpList_plain hgd fun _ hK2 => o_callV fo f args tys ho hf hx hr h fun e w' hq => by
    obtain ⟨v, h1, h2⟩ := hR e w' hq
    exact ⟨v, h1, hK2 _ _ h2⟩
/-- the same, where the new block's type is to be known -/
theorem wpList_bslT {P : Program} {ops : Array Oper} {rest : List Oper} {o : Oper} {a : Act} {w : World} {Q : Exit → Act → World → Prop} (hgd : o.guard = none) (t e : TypeId) (len : Nat) (parts : Array (Nat × Operand)) (ho : o.op = .buildSlice t len parts) (hu : P.underlying t = some (.slice e)) {ps : List (Nat × Value)} (hp : (parts.map fun (i, x) => (i, a.eval x)).toList = ps) {vs : List Value} (hf : P.builtSlice e len ps = some vs.toArray)
    (hK : ∀ g w', Fresh w w' g → w'.heap[g]? = some (.cells vs.toArray e (0, 0)) → wpList P ops Q rest (a.put o.dst (.slice (some ⟨g, 0, none⟩) len len)) w') : wpList P ops Q (o :: rest) a w := by
  refine wpList_plain hgd fun K hK2 => ?_
  unfold Program.builtSlice at hf
  cases hie : P.info? e with
  | none => simp [hie] at hf
  | some ie =>
    simp only [hie] at hf
    cases hz : ie.zero with
    | none => simp [hz] at hf
    | some z =>
      simp only [hz] at hf
      by_cases hc : len * ie.size > 2 ^ 24 ∨ len * ie.size = 0
      · simp [hc] at hf
      · rw [if_neg hc] at hf
        exact wp_buildSlice t e len parts ho vs.toArray ie z hu hie hz (fun h => hc (.inl h)) (fun h => hc (.inr h)) (by rw [hp]; exact hf) (hK2 _ _ (hK _ _ ⟨rfl, _, rfl⟩ (heap_alloc_new w _)))
theorem own_lit {w : World} {base g n size : Nat} {e : TypeId} {vs : List Value} (h : w.heap[g]? = some (.cells vs.toArray e (0, 0))) (hl : vs.length = n * size) (hn : n ≤ maxLen) (hb : base ≤ g) : w.ownsRow base e size (.slice (some ⟨g, 0, none⟩) n n) n vs :=
  ⟨hl, .inr ⟨g, n, vs.toArray, rfl, hb, h, Nat.le_refl _, hn, by simpa using hl, by rw [List.take_of_length_le (by simp [hl])]⟩⟩
end Go.Proofs.Ytobbnedojmcgoaa
