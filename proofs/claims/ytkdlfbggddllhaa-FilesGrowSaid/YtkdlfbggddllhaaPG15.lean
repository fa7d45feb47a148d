/-
  What is proved here: which templates may be used, by the program and by the reference; whether two lists of numbers are equal.
-/
import Derived.Test.YtkdlfbggddllhaaPG14
import Derived.Deep.DeepMust
import Derived.Test.YtkdlfbggddllhaaPG12
import Derived.Great.BuildSlice
import Derived.Great.Walk
import Derived.Deep.AppendLies
set_option linter.unusedVariables false
set_option linter.unusedSimpArgs false
namespace Go.Proofs.Ytkdlfbggddllhaa
open Go.RowKit
def Is (l:List Int):List Value:=l.map (Value.int .i64)
theorem Is_len (l:List Int):(Is l).length=l.length:=by simp [Is]
def IntR (w:World) (A:Option Addr) (m c:Nat) (l:List Int) (cur:World):Prop:=cur.ownsRow w.heap.size 3 1 (.slice A m c) m (Is l)∧Below w.heap.size w cur
theorem IntR.start (w:World):IntR w none 0 0 [] w:=⟨World.ownsRow_nil w _ _ 1,Below.refl _ _⟩
theorem IntR.on {w cur cur':World} {A:Option Addr} {m c:Nat} {l:List Int} (h:IntR w A m c l cur) (hb:Below cur.heap.size cur cur'):IntR w A m c l cur':=⟨own3_on h.1 hb,zad h.2 hb⟩
theorem IntR.sees {w cur : World} {A : Option Addr} {m c : Nat} {l : List Int} (h : IntR w A m c l cur) : SeesP cur (· < cur.heap.size) A (Is l) ∧ l.length = m := by
 obtain ⟨h1,h2⟩:=h
 refine ⟨?_,by have:=h1.1;simpa [Is_len] using this⟩
 rcases h1.2 with ⟨h0,hn⟩ | ⟨g,cap,cur2,hv,hg,hh,hn,hm,hs,ht⟩
 · left
   have:=h1.1
   rw [hn] at this
   exact List.eq_nil_of_length_eq_zero (by simpa using this)
 · injection hv with hv
   refine .inr ⟨g,0,hv,lt_of_block hh,fun j hj=>?_⟩
   have hl:=h1.1
   rw [Nat.zero_add,cell_of_row cur g j cur2 _ (0,0) hh,←ht,List.getElem?_take,if_pos (by omega),Array.getElem?_toList]
def UseIs (l:List Int) (w:World) (e:Ending) (w':World):Prop:=∃A c,e=.returned (.slice A l.length c)∧SeesP w' (· < w'.heap.size) A (Is l)∧Below w.heap.size w w'
theorem IntR.done {w cur : World} {A : Option Addr} {m c : Nat} {l : List Int} (h : IntR w A m c l cur) : UseIs l w (.returned (.slice A m c)) cur := by
 obtain ⟨h1,h2⟩:=h.sees
 exact ⟨A,c,by rw [h2],h1,h.2⟩
end Go.Proofs.Ytkdlfbggddllhaa
namespace Go.Proofs.Ytkdlfbggddllhaa
open Go.RowKit
theorem zaX {P : Program} {ops : Array Oper} {Q : Exit → Act → World → Prop} {id : Nat} {w : World} (hm : P.follows .mixedOrders = true) (a0 : Act) {B : Type} (v : B → Nat → Value) (W : B → (Nat → Bool) → World → Prop) (hB : setB2 ops a0.tmps.size = true)
 (b0:B) (h0:W b0 (fun _=>false) { w with drawn:=w.drawn+1 })
 (hstep : ∀ (i : Nat) (o : Oper), ops[i]? = some o → ∀ (b : B) (S : Nat → Bool) (w : World) (a : Act), W b S w → S i = false → (∀ e ∈ o.after, Region.binds .any e = true → S e.on = true) → SlotsIn ops a0 S (v b) a → Closed ops S →
  o.wp P a w (fun a' w'=>∃b',(∀j,S j=true→v b' j=v b j)∧a'=a.put o.dst (v b' i)∧W b' (fun j=>S j || j==i) w') Q)
 (hend:∀(b:B) (w:World) (S:Nat→Bool),(∀j,j < ops.size→S j=true)→W b S w→Q .normal (zaF (v b) 0 ops.toList a0) w):(Code.region id ops true).wp P Q a0 w:=by
 refine region_setE2 hm a0 v (fun b S w=>W b S w∧Closed ops S) hB b0 ⟨h0,fun j oj _ h=>by cases h⟩ ?_ (fun b w a S h1 h2 h3=>by rw [h2.all2 hB h1];exact hend b w S h1 h3.1)
 intro i o ho b S w a hW hSi hdep hS
 refine Oper.wp_mono ?_ (hstep i o ho b S w a hW.1 hSi hdep hS hW.2)
 rintro a' w' ⟨b',h1,e0,h3⟩
 refine ⟨b',h1,e0,h3,fun j oj hj hSj e he hb=>?_⟩
 by_cases hji:j=i
 · subst hji
   rw [ho] at hj
   injection hj with hj
   subst hj
   show (S e.on || e.on==j)=true
   rw [hdep e he hb];rfl
 · have : S j = true := by simpa [hji] using hSj
   show (S e.on || e.on==i)=true
   rw [hW.2 j oj hj this e he hb];rfl
def Step (I : World → Prop) (K : Nat) (X : Nat → Value → World → Prop) (S : Nat → Bool) (v : Nat → Value) (c : World) (a : Act) (o : Oper) (i : Nat) (a' : Act) (w' : World) : Prop :=
 ∃u,a'=a.put o.dst u∧X i u w'∧(Below c.heap.size c w'∨(i=K∧I w'∧∀j,S j=true→X j (v j) w'))
section
variable {a:Act} {c:World} {o:Oper} {I:World→Prop} {K:Nat} {X:Nat→Value→World→Prop} {S:Nat→Bool} {v:Nat→Value} {i:Nat}
theorem Step.new {x:Value} {c':World} (h:X i x c') (hb:Below c.heap.size c c'):Step I K X S v c a o i (a.put o.dst x) c':=⟨x,rfl,h,.inl hb⟩
end
section
variable {P:Program} {a:Act} {w:World} {K:Act→World→Prop} {Q:Exit→Act→World→Prop} {o:Oper}
theorem o_callV (fo : Operand) (f : FuncId) (args : Array Operand) (tys : Array TypeId) (ho : o.op = .call { callee := .value fo, args := args, argTypes := tys }) {vs : Array Value} (hf : a.eval fo = .func (.func f) #[] #[]) (hx : args.map a.eval = vs) (hr : (callFunc f vs).run P w = .ok (.enter f vs) w)
 {R:Ending→World→Prop} (h:Calls P f vs w R) (hR:∀e w',R e w'→∃v,e=.returned v∧K (a.put o.dst v) w'):o.wp P a w K Q:=by
 have h1 : (execOp a.eval o).run P w = .ok (.enter f vs) w := by
  simp [execOp,ho,resolve,invoke,hx,hf,hr,Deferred.ofValue]
 unfold Oper.wp
 rw [h1,Oper.upon_enter]
 refine h.mono ?_
 intro e w' hq
 obtain ⟨v,rfl,hK⟩:=hR e w' hq
 exact hK
theorem o_bld (t : TypeId) (parts : Array (Nat × Operand)) (ho : o.op = .build t parts) {ps : List (Nat × Value)} (hp : (parts.map fun (i, x) => (i, a.eval x)).toList = ps) {vs : List Value} (hb : P.built t ps = some vs.toArray) (hK : K (a.put o.dst (.agg vs.toArray)) w) : o.wp P a w K Q := by
 refine wp_build t parts ho (by rw [hp,hb];rfl) ?_
 rw [hp,hb]
 exact hK
theorem o_bsl (t e : TypeId) (len : Nat) (parts : Array (Nat × Operand)) (ho : o.op = .buildSlice t len parts) (hu : P.underlying t = some (.slice e)) {ps : List (Nat × Value)} (hp : (parts.map fun (i, x) => (i, a.eval x)).toList = ps) {vs : List Value} (hf : P.builtSlice e len ps = some vs.toArray)
 (hK:∀g w',Fresh w w' g→RowV w' g vs→K (a.put o.dst (.slice (some ⟨g,0,none⟩) len len)) w'):o.wp P a w K Q:=by
 unfold Program.builtSlice at hf
 cases hie:P.info? e with
 | none=>simp [hie] at hf
 | some ie =>
   simp only [hie] at hf
   cases hz:ie.zero with
   | none=>simp [hz] at hf
   | some z =>
     simp only [hz] at hf
     by_cases hc:len*ie.size > 2 ^ 24∨len*ie.size=0
     · simp [hc] at hf
     · rw [if_neg hc] at hf
       exact wp_buildSlice t e len parts ho vs.toArray ie z hu hie hz (fun h=>hc (.inl h)) (fun h=>hc (.inr h)) (by rw [hp];exact hf) (hK _ _ ⟨rfl,_,rfl⟩ (RowV.new (by simp)))
theorem o_bin (b : BinOp) (T T2 : TypeId) (x y : Operand) (ho : o.op = .binOp b T x y T2) {v vx vy : Value} (hx : a.eval x = vx) (hy : a.eval y = vy) (hr : (do eqGuard b T x y vx vy; binOp b T vx vy).run P w = .ok v w) (hK : K (a.put o.dst v) w) : o.wp P a w K Q := by
 unfold Oper.wp execOp
 simp only [ho,hx,hy]
 rw [Sem.run_bind,hr]
 exact hK
theorem o_cv (T1 T2 : TypeId) (x : Operand) (ho : o.op = .convert T1 T2 x) {v vx : Value} (hx : a.eval x = vx) (hr : (convert T1 T2 vx).run P w = .ok v w) (hK : K (a.put o.dst v) w) : o.wp P a w K Q := by
 unfold Oper.wp execOp
 simp only [ho,hx,Sem.run_bind,hr,Result.andThen_ok,Sem.run_pure]
 exact hK
end
theorem zbg {P : Program} {ops : Array Oper} {rest : List Oper} {o : Oper} {a : Act} {w : World} {Q : Exit → Act → World → Prop} (hgd : o.guard = none) (t e : TypeId) (len : Nat) (parts : Array (Nat × Operand)) (ho : o.op = .buildSlice t len parts) (hu : P.underlying t = some (.slice e)) {ps : List (Nat × Value)} (hp : (parts.map fun (i, x) => (i, a.eval x)).toList = ps) {vs : List Value} (hf : P.builtSlice e len ps = some vs.toArray)
 (hK:∀g w',Fresh w w' g→RowV w' g vs→wpList P ops Q rest (a.put o.dst (.slice (some ⟨g,0,none⟩) len len)) w'):wpList P ops Q (o::rest) a w :=
 wpList_plain hgd fun _ hK2=>o_bsl t e len parts ho hu hp hf fun g w' h1 h2=>hK2 _ _ (hK g w' h1 h2)
end Go.Proofs.Ytkdlfbggddllhaa
