/-
  What is proved here: a region that draws its order and whose operations turn memory at more places than one; the maker Template.
-/
import Derived.Test.YtkdlfbggddllhaaPG17
set_option linter.unusedVariables false
set_option linter.unusedSimpArgs false
namespace Go.Proofs.Ytkdlfbggddllhaa
open Go.RowKit
def StepT (I : World → Prop) (X : Nat → Value → World → Prop) (S : Nat → Bool) (v : Nat → Value) (c : World) (a : Act) (o : Oper) (i : Nat) (a' : Act) (w' : World) : Prop :=
 ∃u,a'=a.put o.dst u∧X i u w'∧(Below c.heap.size c w'∨(I w'∧∀j,S j=true→X j (v j) w'))
section
variable {a:Act} {c:World} {o:Oper} {I:World→Prop} {X:Nat→Value→World→Prop} {S:Nat→Bool} {v:Nat→Value} {i:Nat}
theorem StepT.new {x:Value} {c':World} (h:X i x c') (hb:Below c.heap.size c c'):StepT I X S v c a o i (a.put o.dst x) c':=⟨x,rfl,h,.inl hb⟩
end
theorem o_stA {P : Program} {a : Act} {w : World} {K : Act → World → Prop} {Q : Exit → Act → World → Prop} {o : Oper} (ty : TypeId) (x y : Operand) (ho : o.op = .store ty x y) (g i : Nat) (vs : List Value) (u : Value)
 (hx:a.eval x=.pointer (some ⟨g,i,none⟩)) (hy:a.eval y=u) (h:RowV w g vs) (hlt:i < vs.length) (h1:u.oneCell'=true) (hc:u.cells=#[u]) (hi:(P.info? ty).map (·.size)=some 1)
 (hK:∀w',Wr w w' g→RowV w' g (vs.set i u)→K (a.put o.dst undef) w'):o.wp P a w K Q:=by
 obtain ⟨t,h⟩:=h
 have hst:=run_storeCells_at P g i t [u] 0 _ w h (by simp;omega) (by simpa using h1)
 have hr : (storeVar ty ⟨g, i, none⟩ u).run P w = .ok () (w.setRow g (vs.set i u).toArray) := by
  cases hq:P.info? ty with
  | none=>simp [hq] at hi
  | some i0 =>
    have hs:i0.size=1:=by simpa [hq] using hi
    have e:vs.take i++u::vs.drop (i+1)=vs.set i u:=(List.set_eq_take_append_cons_drop ..).trans (if_pos hlt) |>.symm
    simp only [Nat.add_zero] at hst
    simp [storeVar,sizeOf,typeInfo,hq,hc,hs,hst,e]
 unfold Oper.wp execOp
 simp only [ho,hx,hy,Instr.storeAt,Instr.sureAddr,Sem.run_bind,Sem.run_pure,Result.andThen_ok,hr]
 exact hK _ (Wr.row _ _ _) ⟨t,setRow_heap w g _ _ t (0,0) h⟩
theorem Fresh.grown {w w' : World} {g : Nat} (hf : Fresh w w' g) (row : Option Nat) : w.grownBy w' row := by
 obtain ⟨_,o,rfl⟩:=hf
 exact zaG _ _ _
theorem wr_grown {w w':World} {g:Nat} (hw:Wr w w' g):w.grownBy w' (some g):=⟨hw.1,hw.2.1,hw.2.2.1,by rw [hw.2.2.2.1];exact Nat.le_refl _,fun k _ hn=>hw.2.2.2.2 k fun e=>hn (by rw [e])⟩
theorem _root_.Go.World.grownBy.on {w a b : World} {row : Option Nat} (h : w.grownBy a row) (hb : Below a.heap.size a b) : w.grownBy b row :=
 ⟨hb.os.trans h.os,hb.tape.trans h.tape,hb.output.trans h.output,Nat.le_trans h.size hb.size,fun k hk hn=>(hb.block k (Nat.lt_of_lt_of_le hk h.size)).trans (h.block k hk hn)⟩
theorem _root_.Go.World.grownBy.wrote {w a b : World} {D g : Nat} (h : w.grownBy a (some D)) (hw : Wr a b g) (hg : w.heap.size ≤ g) : w.grownBy b (some D) :=
 grown_row h (wr_grown hw) fun k e=>by injection e with e;omega
theorem DiceOk.wrote {a b:World} {D g:Nat} (h:DiceOk a D) (hw:Wr a b g) (hg:D < g):DiceOk b D:=h.grown (wr_grown hw) fun k e=>by injection e with e;omega
theorem RowV.dice {w w':World} {g D:Nat} {vs:List Value} (h:RowV w g vs) (hg:w.grownBy w' (some D)) (hne:g≠D):RowV w' g vs:=h.same (hg.block g h.lt fun e=>hne (by injection e))
theorem SeesP.dice {w0 w w' : World} {D : Nat} {A : Option Addr} {cs : List Value} (h : SeesP w (newB w0 w) A cs) (hg : w.grownBy w' (some D)) (hD : D < w0.heap.size) : SeesP w' (newB w0 w') A cs :=
 (h.keep fun q hq=>World.cell?_of_block (hg.block _ hq.2 fun e=>by injection e with e;have:=hq.1;omega)).imp fun b hb=>⟨hb.1,Nat.lt_of_lt_of_le hb.2 hg.size⟩
theorem SeesP.wrote {w0 w w' : World} {g : Nat} {A : Option Addr} {cs : List Value} (h : SeesP w (newB w0 w) A cs) (hw : Wr w w' g) (hg : g < w0.heap.size) : SeesP w' (newB w0 w') A cs :=
 (h.keep fun q hq=>World.cell?_of_block (hw.2.2.2.2 _ fun e=>by have:=hq.1;omega)).imp fun b hb=>⟨hb.1,by rw [hw.2.2.2.1];exact hb.2⟩
theorem ne_dice {w:World} {g D:Nat} (h:w.heap.size≤g) (hD:D < w.heap.size):g≠D:=by omega
end Go.Proofs.Ytkdlfbggddllhaa
namespace Go.Proofs.Ytkdlfbggddllhaa
open Go.RowKit
def IntN (w:World) (A:Option Addr) (m c:Nat) (l:List Int) (cur:World):Prop:=(cur.ownsRow w.heap.size 3 1 (.slice A m c) m (Is l)∧(m=0→A=none∧c=0))∧Below w.heap.size w cur
theorem IntN.start (w:World):IntN w none 0 0 [] w:=⟨⟨World.ownsRow_nil w _ _ 1,fun _=>⟨rfl,rfl⟩⟩,Below.refl _ _⟩
theorem IntN.on {w cur cur':World} {A:Option Addr} {m c:Nat} {l:List Int} (h:IntN w A m c l cur) (hb:Below cur.heap.size cur cur'):IntN w A m c l cur':=⟨⟨own3_on h.1.1 hb,h.1.2⟩,zad h.2 hb⟩
def UseN (l:List Int) (w:World) (e:Ending) (w':World):Prop:=∃A c,e=.returned (.slice A l.length c)∧(l.length=0→A=none∧c=0)∧Below w.heap.size w w'
theorem IntN.done {w cur : World} {A : Option Addr} {m c : Nat} {l : List Int} (h : IntN w A m c l cur) : UseN l w (.returned (.slice A m c)) cur := by
 have hl:l.length=m:=by have:=h.1.1.1;simpa [Is_len] using this
 exact ⟨A,c,by rw [hl],by rw [hl];exact h.1.2,h.2⟩
end Go.Proofs.Ytkdlfbggddllhaa
