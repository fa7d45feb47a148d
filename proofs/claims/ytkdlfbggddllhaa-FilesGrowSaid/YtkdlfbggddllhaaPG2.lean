/-
  What is proved here: values that fill a block of memory of their own, whole: structs and arrays made, boxed, read, written and handed back by value. Nothing of the program is used.
-/
import Derived.Test.YtkdlfbggddllhaaPG0
import Derived.Test.YtkdlfbggddllhaaPG1
import Derived.Laws.CopyOwn
import Derived.Laws.CopyRow
import Derived.Laws.Tables
import Derived.Laws.ResultCell
import Derived.Laws.Rows
import Derived.Deep.MidRow
import Derived.StillTailTactics
set_option linter.unusedVariables false
set_option linter.unusedSimpArgs false
namespace Go.Proofs.Ytkdlfbggddllhaa
open Go.RowKit
def Fresh (w w':World) (g:Nat):Prop:=g=w.heap.size∧∃o,w'=w.alloc o
def Wr (w w':World) (g:Nat):Prop:=w'.os=w.os∧w'.tape=w.tape∧w'.output=w.output∧w'.heap.size=w.heap.size∧∀k,k≠g→w'.heap[k]? = w.heap[k]?
theorem Wr.row (w:World) (g:Nat) (cs:Array Value):Wr w (w.setRow g cs) g:=⟨rfl,rfl,rfl,by simp,fun k h=>setRow_other w g k cs h⟩
theorem Wr.cell (w:World) (a:Addr) (u:Value):Wr w (w.setCell a u) a.block:=⟨rfl,rfl,rfl,by simp [World.setCell],fun k h=>heap_setCell_other w a k u h⟩
section
variable {W w w':World} {B g k:Nat}
theorem Fresh.bl (hb : Below W.heap.size W w) (hf : Fresh w w' g) : Below W.heap.size W w' := by
 obtain ⟨_,o,rfl⟩:=hf
 exact hb.alloc hb.size o
theorem Fresh.bw (hf:Fresh w w' g):Below w.heap.size w w':=hf.bl (Below.refl _ _)
theorem Fresh.ge (hb:Below W.heap.size W w) (hf:Fresh w w' g):W.heap.size≤g:=by rw [hf.1];exact hb.size
theorem Wr.bl (hb : Below B W w) (hw : Wr w w' g) (h : B ≤ g) : Below B W w' :=
 hb.trans ⟨hw.1,hw.2.1,hw.2.2.1,by rw [hw.2.2.2.1];exact Nat.le_refl _,fun k hk=>hw.2.2.2.2 k (by omega)⟩
end
def RowV (w:World) (g:Nat) (vs:List Value):Prop:=∃ty,w.heap[g]? = some (.cells vs.toArray ty (0,0))
section
variable {w w':World} {g:Nat} {vs:List Value}
theorem RowV.lt (h : RowV w g vs) : g < w.heap.size := by
 obtain ⟨ty,h⟩:=h
 exact (Array.getElem?_eq_some_iff.1 h).1
theorem RowV.same (h : RowV w g vs) (e : w'.heap[g]? = w.heap[g]?) : RowV w' g vs := by
 obtain ⟨ty,h⟩:=h
 exact ⟨ty,e.trans h⟩
theorem RowV.on (h:RowV w g vs) (hb:Below w.heap.size w w'):RowV w' g vs:=h.same (hb.block g h.lt)
theorem RowV.cell (h : RowV w g vs) (k : Nat) : w.cell? ⟨g, k, none⟩ = vs[k]? := by
 obtain ⟨ty,h⟩:=h
 rw [cell_of_row w g k _ ty (0,0) h,←Array.getElem?_toList]
theorem RowV.set (h : RowV w g vs) (i : Nat) (v : Value) : RowV (w.setCell ⟨g, i, none⟩ v) g (vs.set i v) := by
 obtain ⟨ty,h⟩:=h
 refine ⟨ty,?_⟩
 rw [heap_setCell_same w g i _ ty _ h]
 congr 2
 apply Array.ext'
 simp
theorem RowV.new {c : Array Value} {t : TypeId} (h : c.toList = vs) : RowV (w.alloc (.cells c t)) w.heap.size vs := by
 refine ⟨t,?_⟩
 rw [heap_alloc_new]
 congr 2
 rw [←h]
theorem RowV.below {B:Nat} (h:RowV w g vs) (hb:Below B w w') (hg:g < B):RowV w' g vs:=h.same (hb.block g hg)
theorem RowV.fresh {k:Nat} (h:RowV w k vs) (hf:Fresh w w' g):RowV w' k vs:=h.on hf.bw
theorem RowV.ne {k:Nat} (h:RowV w k vs) (hf:Fresh w w' g):k≠g:=by have:=h.lt;rw [hf.1];omega
theorem RowV.wr {k:Nat} (h:RowV w k vs) (hw:Wr w w' g) (hne:k≠g):RowV w' k vs:=h.same (hw.2.2.2.2 k hne)
theorem RowV.drewN (h:RowV w g vs) (n:Nat):RowV (w.drewN n) g vs:=h
theorem RowV.range (h : RowV w g vs) (o n : Nat) (hn : o + n ≤ vs.length) : w.rangeAt g o ((vs.drop o).take n) := by
 intro j v hv
 rw [h.cell,←hv]
 have hj : j < n := by
  have:=(List.getElem?_eq_some_iff.1 hv).1
  rw [List.length_take] at this
  omega
 rw [List.getElem?_take,if_pos hj,List.getElem?_drop]
theorem RowV.whole (h : RowV w g vs) : w.rangeAt g 0 vs := by
 intro j v hv
 rw [h.cell,Nat.zero_add,hv]
end
section
variable {P:Program} {ops:Array Oper} {rest:List Oper} {op:Oper} {a:Act} {w:World} {Q:Exit→Act→World→Prop}
theorem zaj {d:Nat} {ty t:TypeId} {ps:String} {af:Array Edge} {gd:Option (Nat×Bool)} (h:wpList P ops Q (⟨some d,.alloc ty,t,ps,af,gd⟩::rest) a w):wpList P ops Q (⟨some d,.alloc ty,t,ps,af,gd⟩::rest) a w:=h
theorem zac {d:Nat} {x:Operand} {ty t:TypeId} {ps:String} {af:Array Edge} {gd:Option (Nat×Bool)} (h:wpList P ops Q (⟨some d,.load ty x,t,ps,af,gd⟩::rest) a w):wpList P ops Q (⟨some d,.load ty x,t,ps,af,gd⟩::rest) a w:=h
theorem zah {i:Nat} {y:Operand} {ty t:TypeId} {ps:String} {af:Array Edge} {gd:Option (Nat×Bool)} (h:wpList P ops Q (⟨none,.store ty (.tmp i) y,t,ps,af,gd⟩::rest) a w):wpList P ops Q (⟨none,.store ty (.tmp i) y,t,ps,af,gd⟩::rest) a w:=h
theorem zae (hgd : op.guard = none) (ty : TypeId) (ho : op.op = .alloc ty) (zs : List Value)
 (hz:(P.info? ty).map (·.zero)=some (some (.agg zs.toArray)))
 (hK:∀g w',Fresh w w' g→RowV w' g zs→wpList P ops Q rest (a.put op.dst (.pointer (some ⟨g,0,none⟩))) w'):wpList P ops Q (op::rest) a w:=by
 refine wpList_plain hgd fun K hK2=>?_
 have hz2 : ∀ w, (zeroValue ty).run P w = .ok (.agg zs.toArray) w := by
  intro w
  cases hq:P.info? ty with
  | none=>simp [hq] at hz
  | some i =>
    simp [hq] at hz
    simp [zeroValue,typeInfo,hq,hz]
 have hr : (Instr.alloc ty true (.tuple #[])).run P w = .ok (.pointer (some ⟨w.heap.size, 0, none⟩)) (w.alloc (.cells zs.toArray ty)) := by
  simp [Instr.alloc,Sem.run_bind,hz2,newVar,newRow,newObj,Value.cells]
  rfl
 unfold Oper.wp execOp
 simp only [ho,Sem.run_bind,hr,Result.andThen_ok]
 exact hK2 _ _ (hK _ _ ⟨rfl,_,rfl⟩ (RowV.new (by simp)))
theorem zaa (hgd : op.guard = none) (ty : TypeId) (x : Operand) (ho : op.op = .box ty x) (vs : List Value) (hx : a.eval x = .agg vs.toArray)
 (hK:∀g w',Fresh w w' g→RowV w' g vs→wpList P ops Q rest (a.put op.dst (.pointer (some ⟨g,0,none⟩))) w'):wpList P ops Q (op::rest) a w:=by
 refine wpList_plain hgd fun K hK2=>?_
 have hr : (Instr.box ty (.agg vs.toArray)).run P w = .ok (.pointer (some ⟨w.heap.size, 0, none⟩)) (w.alloc (.cells vs.toArray ty)) := by
  simp [Instr.box,newVar,newRow,newObj,Value.cells]
  rfl
 unfold Oper.wp execOp
 simp only [ho,hx,Sem.run_bind,hr,Result.andThen_ok]
 exact hK2 _ _ (hK _ _ ⟨rfl,_,rfl⟩ (RowV.new (by simp)))
theorem zaf (hgd : op.guard = none) (ty : TypeId) (x y : Operand) (ho : op.op = .store ty x y) (g : Nat) (vs us : List Value)
 (hx:a.eval x=.pointer (some ⟨g,0,none⟩)) (hy:a.eval y=.agg us.toArray) (h:RowV w g vs) (hl:us.length=vs.length) (h1:∀u∈us,u.oneCell'=true) (hi:(P.info? ty).map (·.size)=some us.length)
 (hK:∀w',Wr w w' g→RowV w' g us→wpList P ops Q rest (a.put op.dst undef) w'):wpList P ops Q (op::rest) a w:=by
 obtain ⟨t,h⟩:=h
 refine wpList_plain hgd fun K hK2=>?_
 have hst:=run_storeCells_at P g 0 t us 0 _ w h (by simp;omega) h1
 have hr : (storeVar ty ⟨g, 0, none⟩ (.agg us.toArray)).run P w = .ok () (w.setRow g us.toArray) := by
  cases hq:P.info? ty with
  | none=>simp [hq] at hi
  | some i =>
    have hs:i.size=us.length:=by simpa [hq] using hi
    have e:vs.drop us.length=[]:=List.drop_eq_nil_of_le (by omega)
    simp only [Nat.add_zero,Nat.zero_add,List.take_zero,List.nil_append,e,List.append_nil] at hst
    simp [storeVar,sizeOf,typeInfo,hq,Value.cells,hs,hst]
 unfold Oper.wp execOp
 simp only [ho,hx,hy,Instr.storeAt,Instr.sureAddr,Sem.run_bind,Sem.run_pure,Result.andThen_ok,hr]
 exact hK2 _ _ (hK _ (Wr.row _ _ _) ⟨t,setRow_heap w g _ _ t (0,0) h⟩)
theorem zax (hgd : op.guard = none) (ty : TypeId) (x y : Operand) (ho : op.op = .store ty x y) (g i : Nat) (vs : List Value) (u : Value)
 (hx:a.eval x=.pointer (some ⟨g,i,none⟩)) (hy:a.eval y=u) (h:RowV w g vs) (hlt:i < vs.length) (h1:u.oneCell'=true) (hc:u.cells=#[u]) (hi:(P.info? ty).map (·.size)=some 1)
 (hK:∀w',Wr w w' g→RowV w' g (vs.set i u)→wpList P ops Q rest (a.put op.dst undef) w'):wpList P ops Q (op::rest) a w:=by
 obtain ⟨t,h⟩:=h
 refine wpList_plain hgd fun K hK2=>?_
 have hst:=run_storeCells_at P g i t [u] 0 _ w h (by simp;omega) (by simpa using h1)
 have hr : (storeVar ty ⟨g, i, none⟩ u).run P w = .ok () (w.setRow g (vs.set i u).toArray) := by
  cases hq:P.info? ty with
  | none=>simp [hq] at hi
  | some i0 =>
    have hs:i0.size=1:=by simpa [hq] using hi
    have e:vs.take i++u::vs.drop (i+1)=vs.set i u:=(List.set_eq_take_append_cons_drop ..).trans (if_pos hlt) |>.symm
    simp only [Nat.add_zero] at hst
    simp [storeVar,sizeOf,typeInfo,hq,hc,hs,hst,e]
 unfold Oper.wp execOp
 simp only [ho,hx,hy,Instr.storeAt,Instr.sureAddr,Sem.run_bind,Sem.run_pure,Result.andThen_ok,hr]
 exact hK2 _ _ (hK _ (Wr.row _ _ _) ⟨t,setRow_heap w g _ _ t (0,0) h⟩)
theorem zab (hgd : op.guard = none) (ty : TypeId) (x : Operand) (ho : op.op = .load ty x) (g : Nat) (hx : a.eval x = .pointer (some ⟨g, 0, none⟩)) (vs : List Value) (d : TypeDesc)
 (h:RowV w g vs) (hu:P.underlying ty=some d) (hd:d.isRow=true) (hi:(P.info? ty).map (·.size)=some vs.length)
 (hK:wpList P ops Q rest (a.put op.dst (.agg vs.toArray)) w):wpList P ops Q (op::rest) a w :=
 wpList_load_mid hgd ty x ho g 0 hx vs d h.whole hu hd hi hK
theorem zaO {K : Act → World → Prop} (ty : TypeId) (ho : op.op = .alloc ty) (zs : List Value)
 (hz:(P.info? ty).map (·.zero)=some (some (.agg zs.toArray)))
 (hK:∀g w',Fresh w w' g→RowV w' g zs→K (a.put op.dst (.pointer (some ⟨g,0,none⟩))) w'):op.wp P a w K Q:=by
 have hz2 : ∀ w, (zeroValue ty).run P w = .ok (.agg zs.toArray) w := by
  intro w
  cases hq:P.info? ty with
  | none=>simp [hq] at hz
  | some i =>
    simp [hq] at hz
    simp [zeroValue,typeInfo,hq,hz]
 have hr : (Instr.alloc ty true (.tuple #[])).run P w = .ok (.pointer (some ⟨w.heap.size, 0, none⟩)) (w.alloc (.cells zs.toArray ty)) := by
  simp [Instr.alloc,Sem.run_bind,hz2,newVar,newRow,newObj,Value.cells]
  rfl
 unfold Oper.wp execOp
 simp only [ho,Sem.run_bind,hr,Result.andThen_ok]
 exact hK _ _ ⟨rfl,_,rfl⟩ (RowV.new (by simp))
theorem zaR {K : Act → World → Prop} (ty : TypeId) (x y : Operand) (ho : op.op = .store ty x y) (g : Nat) (vs us : List Value)
 (hx:a.eval x=.pointer (some ⟨g,0,none⟩)) (hy:a.eval y=.agg us.toArray) (h:RowV w g vs) (hl:us.length=vs.length) (h1:∀u∈us,u.oneCell'=true) (hi:(P.info? ty).map (·.size)=some us.length)
 (hK:∀w',Wr w w' g→RowV w' g us→K (a.put op.dst undef) w'):op.wp P a w K Q:=by
 obtain ⟨t,h⟩:=h
 have hst:=run_storeCells_at P g 0 t us 0 _ w h (by simp;omega) h1
 have hr : (storeVar ty ⟨g, 0, none⟩ (.agg us.toArray)).run P w = .ok () (w.setRow g us.toArray) := by
  cases hq:P.info? ty with
  | none=>simp [hq] at hi
  | some i =>
    have hs:i.size=us.length:=by simpa [hq] using hi
    have e:vs.drop us.length=[]:=List.drop_eq_nil_of_le (by omega)
    simp only [Nat.add_zero,Nat.zero_add,List.take_zero,List.nil_append,e,List.append_nil] at hst
    simp [storeVar,sizeOf,typeInfo,hq,Value.cells,hs,hst]
 unfold Oper.wp execOp
 simp only [ho,hx,hy,Instr.storeAt,Instr.sureAddr,Sem.run_bind,Sem.run_pure,Result.andThen_ok,hr]
 exact hK _ (Wr.row _ _ _) ⟨t,setRow_heap w g _ _ t (0,0) h⟩
end
section
variable {P:Program} {fn:Func} {p u v:Tmp} {ty:TypeId}
theorem results_v (h : fn.results = #[.cell p ty]) (tmps : Array Value) (w : World) (g : Nat) (vs : List Value) (d : TypeDesc)
 (hp:tmps.getD p undef=.pointer (some ⟨g,0,none⟩)) (hg:RowV w g vs) (hu:P.underlying ty=some d) (hd:(match d with | .struct _ | .array _ _=>true | _=>false)=true) (hi:(P.info? ty).map (·.size)=some vs.length):(results fn tmps).run P w=.ok (.agg vs.toArray) w:=by
 obtain ⟨t,hg⟩:=hg
 exact results_cell_row h tmps w g t _ (0,0) d hp hg hu hd (by simpa using hi)
theorem zau (h : fn.results = #[.cell p ty, .tmp u]) (tmps : Array Value) (w : World) (g : Nat) (vs : List Value) (d : TypeDesc)
 (hp:tmps.getD p undef=.pointer (some ⟨g,0,none⟩)) (hg:RowV w g vs) (hu:P.underlying ty=some d) (hd:(match d with | .struct _ | .array _ _=>true | _=>false)=true) (hi:(P.info? ty).map (·.size)=some vs.length):(results fn tmps).run P w=.ok (.tuple #[.agg vs.toArray,tmps.getD u undef]) w:=by
 obtain ⟨t,hg⟩:=hg
 have hp':tmps[p]?.getD undef=.pointer (some ⟨g,0,none⟩):=by simpa using hp
 rw [results_cell_tmp h]
 simp [hp',asAddr,run_loadVar_row w g t ty _ (0,0) d hg hu hd (by simpa using hi),Result.andThen]
end
end Go.Proofs.Ytkdlfbggddllhaa
