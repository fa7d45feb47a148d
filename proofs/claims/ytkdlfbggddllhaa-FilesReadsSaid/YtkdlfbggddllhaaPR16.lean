/-
  What is proved here: the first error of templates that the program finds; which of them may be used, by the program and by the reference.
-/
import Derived.Test.YtkdlfbggddllhaaPR15
import Derived.Deep.DeepMust
import Derived.Test.YtkdlfbggddllhaaPR12
import Derived.Great.BuildSlice
import Derived.Great.Walk
import Derived.Deep.AppendLies
set_option linter.unusedVariables false
set_option linter.unusedSimpArgs false
namespace Go.Proofs.Ytkdlfbggddllhaa
open Go.RowKit
theorem zai {P:Program} {ops:Array Oper} {rest:List Oper} {a:Act} {w:World} {Q:Exit→Act→World→Prop} {d:Nat} {op:Op} {t:TypeId} {ps:String} {af:Array Edge} {gd:Option (Nat×Bool)} (h:wpList P ops Q (⟨some d,op,t,ps,af,gd⟩::rest) a w):wpList P ops Q (⟨some d,op,t,ps,af,gd⟩::rest) a w:=h
theorem at_call_ {P:Program} {ops:Array Oper} {rest:List Oper} {a:Act} {w:World} {Q:Exit→Act→World→Prop} {d:Nat} {x:Call} {t:TypeId} {ps:String} {af:Array Edge} {gd:Option (Nat×Bool)} (h:wpList P ops Q (⟨some d,.call x,t,ps,af,gd⟩::rest) a w):wpList P ops Q (⟨some d,.call x,t,ps,af,gd⟩::rest) a w:=h
theorem cs_one (x : Tm) (A : Option Addr) (c : Nat) : ∀ u ∈ x.cs A c, u.oneCell' = true := by
 intro u hu
 simp only [Tm.cs,List.mem_cons,List.not_mem_nil,or_false] at hu
 rcases hu with rfl | rfl | rfl | rfl | rfl | rfl | rfl <;> rfl
end Go.Proofs.Ytkdlfbggddllhaa
namespace Go.Proofs.Ytkdlfbggddllhaa
open Go.RowKit
def Is (l:List Int):List Value:=l.map (Value.int .i64)
theorem Is_len (l:List Int):(Is l).length=l.length:=by simp [Is]
def IntR (w:World) (A:Option Addr) (m c:Nat) (l:List Int) (cur:World):Prop:=cur.ownsRow w.heap.size 3 1 (.slice A m c) m (Is l)∧Below w.heap.size w cur
theorem IntR.start (w:World):IntR w none 0 0 [] w:=⟨World.ownsRow_nil w _ _ 1,Below.refl _ _⟩
theorem IntR.on {w cur cur':World} {A:Option Addr} {m c:Nat} {l:List Int} (h:IntR w A m c l cur) (hb:Below cur.heap.size cur cur'):IntR w A m c l cur':=⟨own3_on h.1 hb,zac h.2 hb⟩
theorem IntR.sees {w cur : World} {A : Option Addr} {m c : Nat} {l : List Int} (h : IntR w A m c l cur) : SeesP cur (· < cur.heap.size) A (Is l) ∧ l.length = m := by
 obtain ⟨h1,h2⟩:=h
 refine ⟨?_,by have:=h1.1;simpa [Is_len] using this⟩
 rcases h1.2 with ⟨h0,hn⟩ | ⟨g,cap,cur2,hv,hg,hh,hn,hm,hs,ht⟩
 · left
   have:=h1.1
   rw [hn] at this
   exact List.eq_nil_of_length_eq_zero (by simpa using this)
 · injection hv with hv
   refine .inr ⟨g,0,hv,lt_of_block hh,fun j hj=>?_⟩
   have hl:=h1.1
   rw [Nat.zero_add,cell_of_row cur g j cur2 _ (0,0) hh,←ht,List.getElem?_take,if_pos (by omega),Array.getElem?_toList]
def UseIs (l:List Int) (w:World) (e:Ending) (w':World):Prop:=∃A c,e=.returned (.slice A l.length c)∧SeesP w' (· < w'.heap.size) A (Is l)∧Below w.heap.size w w'
theorem IntR.done {w cur : World} {A : Option Addr} {m c : Nat} {l : List Int} (h : IntR w A m c l cur) : UseIs l w (.returned (.slice A m c)) cur := by
 obtain ⟨h1,h2⟩:=h.sees
 exact ⟨A,c,by rw [h2],h1,h.2⟩
end Go.Proofs.Ytkdlfbggddllhaa
namespace Go.Proofs.Ytkdlfbggddllhaa
open Go.RowKit
def Step (I : World → Prop) (K : Nat) (X : Nat → Value → World → Prop) (S : Nat → Bool) (v : Nat → Value) (c : World) (a : Act) (o : Oper) (i : Nat) (a' : Act) (w' : World) : Prop :=
 ∃u,a'=a.put o.dst u∧X i u w'∧(Below c.heap.size c w'∨(i=K∧I w'∧∀j,S j=true→X j (v j) w'))
section
variable {a:Act} {c:World} {o:Oper} {I:World→Prop} {K:Nat} {X:Nat→Value→World→Prop} {S:Nat→Bool} {v:Nat→Value} {i:Nat}
theorem Step.new {x:Value} {c':World} (h:X i x c') (hb:Below c.heap.size c c'):Step I K X S v c a o i (a.put o.dst x) c':=⟨x,rfl,h,.inl hb⟩
end
section
variable {P:Program} {a:Act} {w:World} {K:Act→World→Prop} {Q:Exit→Act→World→Prop} {o:Oper}
theorem o_bld (t : TypeId) (parts : Array (Nat × Operand)) (ho : o.op = .build t parts) {ps : List (Nat × Value)} (hp : (parts.map fun (i, x) => (i, a.eval x)).toList = ps) {vs : List Value} (hb : P.built t ps = some vs.toArray) (hK : K (a.put o.dst (.agg vs.toArray)) w) : o.wp P a w K Q := by
 refine wp_build t parts ho (by rw [hp,hb];rfl) ?_
 rw [hp,hb]
 exact hK
theorem o_bsl (t e : TypeId) (len : Nat) (parts : Array (Nat × Operand)) (ho : o.op = .buildSlice t len parts) (hu : P.underlying t = some (.slice e)) {ps : List (Nat × Value)} (hp : (parts.map fun (i, x) => (i, a.eval x)).toList = ps) {vs : List Value} (hf : P.builtSlice e len ps = some vs.toArray)
 (hK:∀g w',Fresh w w' g→RowV w' g vs→K (a.put o.dst (.slice (some ⟨g,0,none⟩) len len)) w'):o.wp P a w K Q:=by
 unfold Program.builtSlice at hf
 cases hie:P.info? e with
 | none=>simp [hie] at hf
 | some ie =>
   simp only [hie] at hf
   cases hz:ie.zero with
   | none=>simp [hz] at hf
   | some z =>
     simp only [hz] at hf
     by_cases hc:len*ie.size > 2 ^ 24∨len*ie.size=0
     · simp [hc] at hf
     · rw [if_neg hc] at hf
       exact wp_buildSlice t e len parts ho vs.toArray ie z hu hie hz (fun h=>hc (.inl h)) (fun h=>hc (.inr h)) (by rw [hp];exact hf) (hK _ _ ⟨rfl,_,rfl⟩ (RowV.new (by simp)))
theorem o_bin (b : BinOp) (T T2 : TypeId) (x y : Operand) (ho : o.op = .binOp b T x y T2) {v vx vy : Value} (hx : a.eval x = vx) (hy : a.eval y = vy) (hr : (do eqGuard b T x y vx vy; binOp b T vx vy).run P w = .ok v w) (hK : K (a.put o.dst v) w) : o.wp P a w K Q := by
 unfold Oper.wp execOp
 simp only [ho,hx,hy]
 rw [Sem.run_bind,hr]
 exact hK
end
theorem zaD {P : Program} {ops : Array Oper} {rest : List Oper} {o : Oper} {a : Act} {w : World} {Q : Exit → Act → World → Prop} (hgd : o.guard = none) (t e : TypeId) (len : Nat) (parts : Array (Nat × Operand)) (ho : o.op = .buildSlice t len parts) (hu : P.underlying t = some (.slice e)) {ps : List (Nat × Value)} (hp : (parts.map fun (i, x) => (i, a.eval x)).toList = ps) {vs : List Value} (hf : P.builtSlice e len ps = some vs.toArray)
 (hK:∀g w',Fresh w w' g→RowV w' g vs→wpList P ops Q rest (a.put o.dst (.slice (some ⟨g,0,none⟩) len len)) w'):wpList P ops Q (o::rest) a w :=
 wpList_plain hgd fun _ hK2=>o_bsl t e len parts ho hu hp hf fun g w' h1 h2=>hK2 _ _ (hK g w' h1 h2)
end Go.Proofs.Ytkdlfbggddllhaa
