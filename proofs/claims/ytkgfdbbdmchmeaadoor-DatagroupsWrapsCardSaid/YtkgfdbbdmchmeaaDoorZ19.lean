/-
  What is proved here: the first error of templates that the program finds; which of them may be used, by the program and by the reference.
-/
import Derived.Test.YtkgfdbbdmchmeaaDoorZ18
import Derived.Deep.DeepMust
import Derived.Test.YtkgfdbbdmchmeaaDoorZ17
import Derived.Great.BuildSlice
import Derived.Great.Walk
import Derived.Deep.AppendLies
namespace Go.Proofs.YtkgfdbbdmchmeaaDoor
open Go.RowKit
set_option linter.unusedVariables false
set_option linter.unusedSimpArgs false
theorem at_any_ {P : Program} {ops : Array Oper} {rest : List Oper} {a : Act} {w : World} {Q : Exit → Act → World → Prop} {d : Nat} {op : Op} {t : TypeId} {ps : String} {af : Array Edge} {gd : Option (Nat × Bool)} (h : wpList P ops Q (⟨some d, op, t, ps, af, gd⟩ :: rest) a w) : wpList P ops Q (⟨some d, op, t, ps, af, gd⟩ :: rest) a w := h
theorem at_call_ {P : Program} {ops : Array Oper} {rest : List Oper} {a : Act} {w : World} {Q : Exit → Act → World → Prop} {d : Nat} {x : Call} {t : TypeId} {ps : String} {af : Array Edge} {gd : Option (Nat × Bool)} (h : wpList P ops Q (⟨some d, .call x, t, ps, af, gd⟩ :: rest) a w) : wpList P ops Q (⟨some d, .call x, t, ps, af, gd⟩ :: rest) a w := h
def zerT : List Value := [.int .i64 0, .int .i64 0, .int .i64 0, .int .i64 0, .int .i64 0, .int .i64 0, .slice none 0 0]
theorem cs_one (x : Tm) (A : Option Addr) (c : Nat) : ∀ u ∈ x.cs A c, u.oneCell' = true := by
  intro u hu
  simp only [Tm.cs, List.mem_cons, List.not_mem_nil, or_false] at hu
  rcases hu with rfl | rfl | rfl | rfl | rfl | rfl | rfl <;> rfl
end Go.Proofs.YtkgfdbbdmchmeaaDoor
namespace Go.Proofs.YtkgfdbbdmchmeaaDoor
open Go.RowKit
set_option linter.unusedVariables false
set_option linter.unusedSimpArgs false
def Is (l : List Int) : List Value := l.map (Value.int .i64)
theorem Is_len (l : List Int) : (Is l).length = l.length := by simp [Is]
def IntR (w : World) (A : Option Addr) (m c : Nat) (l : List Int) (cur : World) : Prop := cur.ownsRow w.heap.size 3 1 (.slice A m c) m (Is l) ∧ Below w.heap.size w cur
theorem IntR.start (w : World) : IntR w none 0 0 [] w := ⟨World.ownsRow_nil w _ _ 1, Below.refl _ _⟩
theorem IntR.on {w cur cur' : World} {A : Option Addr} {m c : Nat} {l : List Int} (h : IntR w A m c l cur) (hb : Below cur.heap.size cur cur') : IntR w A m c l cur' := ⟨own3_on h.1 hb, below_on h.2 hb⟩
theorem IntR.sees {w cur : World} {A : Option Addr} {m c : Nat} {l : List Int} (h : IntR w A m c l cur) : SeesP cur (· < cur.heap.size) A (Is l) ∧ l.length = m := by
  obtain ⟨h1, h2⟩ := h
  refine ⟨?_, by have := h1.1; simpa [Is_len] using this⟩
  rcases h1.2 with ⟨h0, hn⟩ | ⟨g, cap, cur2, hv, hg, hh, hn, hm, hs, ht⟩
  · left
    have := h1.1
    rw [hn] at this
    exact List.eq_nil_of_length_eq_zero (by simpa using this)
  · injection hv with hv
    refine .inr ⟨g, 0, hv, lt_of_block hh, fun j hj => ?_⟩
    have hl := h1.1
    rw [Nat.zero_add, cell_of_row cur g j cur2 _ (0, 0) hh, ← ht, List.getElem?_take, if_pos (by omega), Array.getElem?_toList]
def UseIs (l : List Int) (w : World) (e : Ending) (w' : World) : Prop := ∃ A c, e = .returned (.slice A l.length c) ∧ SeesP w' (· < w'.heap.size) A (Is l) ∧ Below w.heap.size w w'
theorem IntR.done {w cur : World} {A : Option Addr} {m c : Nat} {l : List Int} (h : IntR w A m c l cur) : UseIs l w (.returned (.slice A m c)) cur := by
  obtain ⟨h1, h2⟩ := h.sees
  exact ⟨A, c, by rw [h2], h1, h.2⟩
end Go.Proofs.YtkgfdbbdmchmeaaDoor
namespace Go.Proofs.YtkgfdbbdmchmeaaDoor
open Go.RowKit
set_option linter.unusedVariables false
set_option linter.unusedSimpArgs false
theorem region_setX2 {P : Program} {ops : Array Oper} {Q : Exit → Act → World → Prop} {id : Nat} {w : World} (hm : P.follows .mixedOrders = true) (a0 : Act) {B : Type} (v : B → Nat → Value) (W : B → (Nat → Bool) → World → Prop) (hB : setB2 ops a0.tmps.size = true)
    (b0 : B) (h0 : W b0 (fun _ => false) { w with drawn := w.drawn + 1 })
    (hstep : ∀ (i : Nat) (o : Oper), ops[i]? = some o → ∀ (b : B) (S : Nat → Bool) (w : World) (a : Act), W b S w → S i = false → (∀ e ∈ o.after, Region.binds .any e = true → S e.on = true) → SlotsIn ops a0 S (v b) a → Closed ops S →
      o.wp P a w (fun a' w' => ∃ b', (∀ j, S j = true → v b' j = v b j) ∧ a' = a.put o.dst (v b' i) ∧ W b' (fun j => S j || j == i) w') Q)
    (hend : ∀ (b : B) (w : World) (S : Nat → Bool), (∀ j, j < ops.size → S j = true) → W b S w → Q .normal (putAll (v b) 0 ops.toList a0) w) : (Code.region id ops true).wp P Q a0 w := by
  refine region_setE2 hm a0 v (fun b S w => W b S w ∧ Closed ops S) hB b0 ⟨h0, fun j oj _ h => by cases h⟩ ?_ (fun b w a S h1 h2 h3 => by rw [h2.all2 hB h1]; exact hend b w S h1 h3.1)
  intro i o ho b S w a hW hSi hdep hS
  refine Oper.wp_mono ?_ (hstep i o ho b S w a hW.1 hSi hdep hS hW.2)
  rintro a' w' ⟨b', h1, e0, h3⟩
  refine ⟨b', h1, e0, h3, fun j oj hj hSj e he hb => ?_⟩
  by_cases hji : j = i
  · subst hji
    rw [ho] at hj
    injection hj with hj
    subst hj
    show (S e.on || e.on == j) = true
    rw [hdep e he hb]; rfl
  · have : S j = true := by simpa [hji] using hSj
    show (S e.on || e.on == i) = true
    rw [hW.2 j oj hj this e he hb]; rfl
def Firm (X : Value → World → Prop) : Prop := ∀ u c c', X u c → Below c.heap.size c c' → X u c'
def Step (I : World → Prop) (K : Nat) (X : Nat → Value → World → Prop) (S : Nat → Bool) (v : Nat → Value) (c : World) (a : Act) (o : Oper) (i : Nat) (a' : Act) (w' : World) : Prop :=
  ∃ u, a' = a.put o.dst u ∧ X i u w' ∧ (Below c.heap.size c w' ∨ (i = K ∧ I w' ∧ ∀ j, S j = true → X j (v j) w'))
theorem region_facts {P : Program} {ops : Array Oper} {Q : Exit → Act → World → Prop} {id : Nat} {w : World} (hm : P.follows .mixedOrders = true) (a0 : Act) (w1 : World) (I : World → Prop) (K : Nat) (X : Nat → Value → World → Prop) (hB : setB2 ops a0.tmps.size = true) (hF : ∀ i, Firm (X i)) (hI : ∀ c c', I c → Below c.heap.size c c' → I c')
    (h0 : Below w1.heap.size w1 w) (h1 : I w)
    (hstep : ∀ (i : Nat) (o : Oper), ops[i]? = some o → ∀ (v : Nat → Value) (S : Nat → Bool) (c : World) (a : Act), I c → (S K = false → Below w1.heap.size w1 c) → (∀ j, S j = true → X j (v j) c) → S i = false → (∀ e ∈ o.after, Region.binds .any e = true → S e.on = true) → SlotsIn ops a0 S v a → Closed ops S →
      o.wp P a c (Step I K X S v c a o i) Q)
    (hend : ∀ (v : Nat → Value) (c : World), I c → (∀ j, j < ops.size → X j (v j) c) → Q .normal (putAll v 0 ops.toList a0) c) : (Code.region id ops true).wp P Q a0 w := by
  refine region_setX2 hm a0 (fun v => v) (fun v S c => I c ∧ (S K = false → Below w1.heap.size w1 c) ∧ ∀ j, S j = true → X j (v j) c) hB (fun _ => undef) ⟨hI _ _ h1 (below_drewN _ _ 1), fun _ => below_dn h0 1, fun j h => by cases h⟩ ?_ (fun v c S hall hW => hend v c hW.1 fun j hj => hW.2.2 j (hall j hj))
  intro i o ho v S c a hW hSi hdep hS hC
  refine Oper.wp_mono ?_ (hstep i o ho v S c a hW.1 hW.2.1 hW.2.2 hSi hdep hS hC)
  rintro a' w' ⟨u, e, h2, h3⟩
  refine ⟨fun j => if j = i then u else v j, fun j hj => ?_, by simpa using e, ?_, fun hK => ?_, fun j hj => ?_⟩
  · have : j ≠ i := by rintro rfl; rw [hSi] at hj; cases hj
    simp [this]
  · rcases h3 with h3 | h3
    · exact hI _ _ hW.1 h3
    · exact h3.2.1
  · have hK2 : S K = false ∧ K ≠ i := by simpa using hK
    rcases h3 with h3 | h3
    · exact below_on (hW.2.1 hK2.1) h3
    · exact absurd h3.1.symm hK2.2
  · by_cases hji : j = i
    · subst hji; simpa using h2
    · have hSj : S j = true := by simpa [hji] using hj
      simp only [hji, if_false]
      rcases h3 with h3 | h3
      · exact hF j _ _ _ (hW.2.2 j hSj) h3
      · exact h3.2.2 j hSj
def factL (L : List (Value → World → Prop)) (i : Nat) : Value → World → Prop := L.getD i (fun _ _ => True)
theorem firm_list {L : List (Value → World → Prop)} (h : ∀ X ∈ L, Firm X) (i : Nat) : Firm (factL L i) := by
  unfold factL
  rcases hi : L[i]? with _ | X
  · simp only [List.getD, hi, Option.getD_none]
    exact fun _ _ _ _ _ => trivial
  · simp only [List.getD, hi, Option.getD_some]
    exact h X (List.mem_of_getElem? hi)
theorem firm_eq (x : Value) : Firm (fun u _ => u = x) := fun _ _ _ h _ => h
section
variable {a : Act} {c : World} {o : Oper} {I : World → Prop} {K : Nat} {X : Nat → Value → World → Prop} {S : Nat → Bool} {v : Nat → Value} {i : Nat}
theorem Step.still {x : Value} (h : X i x c) : Step I K X S v c a o i (a.put o.dst x) c := ⟨x, rfl, h, .inl (Below.refl _ _)⟩
theorem Step.new {x : Value} {c' : World} (h : X i x c') (hb : Below c.heap.size c c') : Step I K X S v c a o i (a.put o.dst x) c' := ⟨x, rfl, h, .inl hb⟩
end
section
variable {P : Program} {a : Act} {w : World} {K : Act → World → Prop} {Q : Exit → Act → World → Prop} {o : Oper}
theorem o_callV (fo : Operand) (f : FuncId) (args : Array Operand) (tys : Array TypeId) (ho : o.op = .call { callee := .value fo, args := args, argTypes := tys }) {vs : Array Value} (hf : a.eval fo = .func (.func f) #[] #[]) (hx : args.map a.eval = vs) (hr : (callFunc f vs).run P w = .ok (.enter f vs) w)
    {R : Ending → World → Prop} (h : Calls P f vs w R) (hR : ∀ e w', R e w' → ∃ v, e = .returned v ∧ K (a.put o.dst v) w') : o.wp P a w K Q := by
  have h1 : (execOp a.eval o).run P w = .ok (.enter f vs) w := by
    simp [execOp, ho, resolve, invoke, hx, hf, hr, Deferred.ofValue]
  unfold Oper.wp
  rw [h1, Oper.upon_enter]
  refine h.mono ?_
  intro e w' hq
  obtain ⟨v, rfl, hK⟩ := hR e w' hq
  exact hK
theorem o_bld (t : TypeId) (parts : Array (Nat × Operand)) (ho : o.op = .build t parts) {ps : List (Nat × Value)} (hp : (parts.map fun (i, x) => (i, a.eval x)).toList = ps) {vs : List Value} (hb : P.built t ps = some vs.toArray) (hK : K (a.put o.dst (.agg vs.toArray)) w) : o.wp P a w K Q := by
  refine wp_build t parts ho (by rw [hp, hb]; rfl) ?_
  rw [hp, hb]
  exact hK
theorem o_bsl (t e : TypeId) (len : Nat) (parts : Array (Nat × Operand)) (ho : o.op = .buildSlice t len parts) (hu : P.underlying t = some (.slice e)) {ps : List (Nat × Value)} (hp : (parts.map fun (i, x) => (i, a.eval x)).toList = ps) {vs : List Value} (hf : P.builtSlice e len ps = some vs.toArray)
    (hK : ∀ g w', Fresh w w' g → RowV w' g vs → K (a.put o.dst (.slice (some ⟨g, 0, none⟩) len len)) w') : o.wp P a w K Q := by
  unfold Program.builtSlice at hf
  cases hie : P.info? e with
  | none => simp [hie] at hf
  | some ie =>
    simp only [hie] at hf
    cases hz : ie.zero with
    | none => simp [hz] at hf
    | some z =>
      simp only [hz] at hf
      by_cases hc : len * ie.size > 2 ^ 24 ∨ len * ie.size = 0
      · simp [hc] at hf
      · rw [if_neg hc] at hf
        exact wp_buildSlice t e len parts ho vs.toArray ie z hu hie hz (fun h => hc (.inl h)) (fun h => hc (.inr h)) (by rw [hp]; exact hf) (hK _ _ ⟨rfl, _, rfl⟩ (RowV.new (by simp)))
theorem o_cv (T1 T2 : TypeId) (x : Operand) (ho : o.op = .convert T1 T2 x) {v vx : Value} (hx : a.eval x = vx) (hr : (convert T1 T2 vx).run P w = .ok v w) (hK : K (a.put o.dst v) w) : o.wp P a w K Q := by
  unfold Oper.wp execOp
  simp only [ho, hx, Sem.run_bind, hr, Result.andThen_ok, Sem.run_pure]
  exact hK
end
theorem wpList_bslV {P : Program} {ops : Array Oper} {rest : List Oper} {o : Oper} {a : Act} {w : World} {Q : Exit → Act → World → Prop} (hgd : o.guard = none) (t e : TypeId) (len : Nat) (parts : Array (Nat × Operand)) (ho : o.op = .buildSlice t len parts) (hu : P.underlying t = some (.slice e)) {ps : List (Nat × Value)} (hp : (parts.map fun (i, x) => (i, a.eval x)).toList = ps) {vs : List Value} (hf : P.builtSlice e len ps = some vs.toArray)
    (hK : ∀ g w', Fresh w w' g → RowV w' g vs → wpList P ops Q rest (a.put o.dst (.slice (some ⟨g, 0, none⟩) len len)) w') : wpList P ops Q (o :: rest) a w :=
  wpList_plain hgd fun _ hK2 => o_bsl t e len parts ho hu hp hf fun g w' h1 h2 => hK2 _ _ (hK g w' h1 h2)
end Go.Proofs.YtkgfdbbdmchmeaaDoor
namespace Go.Proofs.YtkgfdbbdmchmeaaDoor
open Go.RowKit
set_option linter.unusedVariables false
set_option linter.unusedSimpArgs false
theorem grown_new {w w' : World} (h : w.grownBy w' none) : Below w.heap.size w w' := ⟨h.os, h.tape, h.output, h.size, fun k hk => h.block k hk (by intro e; cases e)⟩
def PrimIs (w : World) (t : Int) (v : List UInt8) (n : Nat) (e : Ending) (w' : World) : Prop := ∃ A c, e = .returned (.agg (nodV t A n c none 0 0).toArray) ∧ ((A = none → c = 0) ∧ n ≤ c) ∧ SeesP w' (newB w w') A (Us v) ∧ Below w.heap.size w w'
def zerN : List Value := [.int .i64 0, .slice none 0 0, .slice none 0 0]
theorem info_n_B5 : (Tryd.prog.info? 50).map (·.zero) = some (some (.agg zerN.toArray)) := by kernel_rfl
theorem size_n : (Tryd.prog.info? 50).map (·.size) = some 3 := by kernel_rfl
theorem nodV_one (t : Int) (Av : Option Addr) (lv cv : Nat) (Ak : Option Addr) (lk ck : Nat) : ∀ u ∈ nodV t Av lv cv Ak lk ck, u.oneCell' = true := by
  intro u hu
  simp only [nodV, List.mem_cons, List.not_mem_nil, or_false] at hu
  rcases hu with rfl | rfl | rfl <;> rfl
end Go.Proofs.YtkgfdbbdmchmeaaDoor
namespace Go.Proofs.YtkgfdbbdmchmeaaDoor
open Go.RowKit
set_option linter.unusedVariables false
set_option linter.unusedSimpArgs false
theorem ag_i : ∀ w, (isAgg 3).run Tryd.prog w = .ok false w := fun w => by kernel_rfl
theorem ev3 {a : Act} {x y z : Operand} {u v t : Value} (h : a.eval x = u) (h2 : a.eval y = v) (h3 : a.eval z = t) : (#[x, y, z] : Array Operand).map a.eval = #[u, v, t] := by simp [h, h2, h3]
theorem bs1 (u1 u2 u3 : Value) : Tryd.prog.builtSlice 50 1 [(0, .agg #[u1, u2, u3])] = some #[u1, u2, u3] := by kernel_rfl
theorem pe1 {a : Act} {x : Operand} {u : Value} (h : a.eval x = u) : ((#[(0, x)] : Array (Nat × Operand)).map fun (i, x) => (i, a.eval x)).toList = [(0, u)] := by simp [h]
theorem HeldN.parts {w wr : World} {v : Value} {f : F} (h : HeldN w wr v f) : ∃ cs, wr.ownsRow w.heap.size 50 3 v f.len cs ∧ HoldsN wr (fun b => newB w wr b ∧ v.ownBlock ≠ some b) f cs := h
def NodF (wr : World) (t : Int) (x : List UInt8) (n : Nat) (u : Value) (c : World) : Prop := ∃ A cv, u = .agg (nodV t A n cv none 0 0).toArray ∧ ((A = none → cv = 0) ∧ n ≤ cv) ∧ SeesP c (newB wr c) A (Us x)
def NodS (wr : World) (t : Int) (x : List UInt8) (n : Nat) (u : Value) (c : World) : Prop := ∃ A cv g, u = .slice (some ⟨g, 0, none⟩) 1 1 ∧ newB wr c g ∧ RowV c g (nodV t A n cv none 0 0) ∧ ((A = none → cv = 0) ∧ n ≤ cv) ∧ SeesP c (newB wr c) A (Us x)
theorem NodF.row {wr : World} {t : Int} {x : List UInt8} {n : Nat} {u : Value} {c c' : World} {v : Value} (h : NodF wr t x n u c) (hg : c.grownBy c' v.ownBlock) (hv : ∀ g, v.ownBlock = some g → g < wr.heap.size) : NodF wr t x n u c' := by
  obtain ⟨A, cv, h1, h2, h3⟩ := h
  refine ⟨A, cv, h1, h2, (h3.keep fun q hq => World.cell?_of_block (hg.block _ hq.2 fun e => ?_)).imp fun b hb => ⟨hb.1, Nat.lt_of_lt_of_le hb.2 hg.size⟩⟩
  have := hv _ e.symm
  have := hq.1
  omega
theorem NodS.row {wr : World} {t : Int} {x : List UInt8} {n : Nat} {u : Value} {c c' : World} {v : Value} (h : NodS wr t x n u c) (hg : c.grownBy c' v.ownBlock) (hv : ∀ g, v.ownBlock = some g → g < wr.heap.size) : NodS wr t x n u c' := by
  obtain ⟨A, cv, g, h1, h0, h4, h2, h3⟩ := h
  refine ⟨A, cv, g, h1, ⟨h0.1, Nat.lt_of_lt_of_le h0.2 hg.size⟩, h4.same (hg.block _ h0.2 fun e => ?_), h2, (h3.keep fun q hq => World.cell?_of_block (hg.block _ hq.2 fun e => ?_)).imp fun b hb => ⟨hb.1, Nat.lt_of_lt_of_le hb.2 hg.size⟩⟩
  · have := hv _ e.symm
    have := h0.1
    omega
  · have := hv _ e.symm
    have := hq.1
    omega
theorem row_below {w c c' : World} {v : Value} (h : Below w.heap.size w c) (hg : c.grownBy c' v.ownBlock) (hv : ∀ g, v.ownBlock = some g → w.heap.size ≤ g) : Below w.heap.size w c' := h.grown hg h.size (fun k e => hv k e)
end Go.Proofs.YtkgfdbbdmchmeaaDoor
namespace Go.Proofs.YtkgfdbbdmchmeaaDoor
open Go.RowKit
set_option linter.unusedVariables false
set_option linter.unusedSimpArgs false
theorem SeesN.put {w w3 w9 w10 : World} {g2 : Nat} {A : Option Addr} {f : F} (h : SeesN w9 (newB w3 w9) A f) (hw : Wr w9 w10 g2) (hg2 : g2 < w3.heap.size) (hww : w.heap.size ≤ w3.heap.size) : SeesN w10 (newB w w10) A f := by
  have hp : ∀ b, newB w3 w9 b → newB w w10 b ∧ b ≠ g2 := fun b hb => ⟨⟨Nat.le_trans hww hb.1, by rw [hw.2.2.2.1]; exact hb.2⟩, by have := hb.1; omega⟩
  exact (h.keep fun q hq => World.cell?_of_block (hw.2.2.2.2 _ (hp _ hq).2)).imp fun b hb => (hp b hb).1
theorem RowV.src {w : World} {g : Nat} {vs : List Value} (h : RowV w g vs) : ∀ j u, vs[j]? = some u → w.cell? ((⟨g, 0, none⟩ : Addr).add j) = some u := fun j u hu => by
  have hj : (⟨g, 0, none⟩ : Addr).add j = ⟨g, j, none⟩ := by unfold Addr.add; split <;> simp_all
  rw [hj, h.cell]; exact hu
end Go.Proofs.YtkgfdbbdmchmeaaDoor
