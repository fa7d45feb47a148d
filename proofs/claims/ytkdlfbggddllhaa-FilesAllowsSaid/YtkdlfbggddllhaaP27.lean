/-
  What is proved here: templates and objects that came in, as memory holds them; no bound but what a machine's memory has.
-/
import Derived.Test.YtkdlfbggddllhaaP12
import Derived.SizedLaws
import Derived.Deep.Slices
set_option linter.unusedVariables false
set_option linter.unusedSimpArgs false
namespace Go.Proofs.Ytkdlfbggddllhaa
open Go.ChangeShapes Go.WideShapes Go.ChangeAt Go.RowKit
theorem zaJ:Try.prog.cellsOf 3=1:=by kernel_rfl
theorem zbv:Try.prog.cellsOf 45=1:=by kernel_rfl
theorem cell_lt_Bo {w : World} {a : Addr} {v : Value} (h : w.cell? a = some v) : a.block < w.heap.size := by
 rcases Nat.lt_or_ge a.block w.heap.size with g | g
 · exact g
 · unfold World.cell? at h
   rw [Array.getElem?_eq_none g] at h
   cases h
theorem list_of {α : Type} (d : α) : ∀ (n : Nat) (P : Nat → α → Prop), (∀ i, i < n → ∃ x, P i x) → ∃ L : List α, L.length = n ∧ ∀ i, i < n → P i (L.getD i d)
 | 0,_,_=>⟨[],rfl,fun i h=>by omega⟩
 | n + 1, P, h => by
   obtain ⟨L,h1,h2⟩:=list_of d n (fun i=>P (i+1)) (fun i hi=>h (i+1) (by omega))
   obtain ⟨x,hx⟩:=h 0 (by omega)
   refine ⟨x::L,by simp [h1],fun i hi=>?_⟩
   rcases i with _ | i
   · exact hx
   · exact h2 i (by omega)
section
variable {H:Type} {enc:TypeId×Value→H} {W:World}
theorem zaO (t : TypeId) : ∀ (ds : List (DataW H)) (d : DataW H), d ∈ ds → ∀ k ∈ d.weights Try.prog t, k ∈ DataW.weightsAll Try.prog t ds
 | x :: ds, d, h, k, hk => by
   show k∈x.weights Try.prog t++DataW.weightsAll Try.prog t ds
   rcases List.mem_cons.1 h with rfl | h
   · exact List.mem_append_left _ hk
   · exact List.mem_append_right _ (zaO t ds d h k hk)
theorem reach_in {ts : List TypeId} {ds : List (DataW H)} (h : (DataW.weightsEach Try.prog ts ds).all (· ≤ reachBytes) = true) {j : Nat} {t : TypeId} {d : DataW H} (ht : ts[j]? = some t) (hd : ds[j]? = some d) : ∀ k ∈ d.weights Try.prog t, k ≤ reachBytes := fun k hk => by
 have:=List.all_eq_true.1 h _ (DataW.weights_mem_each ht hd k hk)
 simpa using this
theorem zaU {t e : TypeId} (hu : Try.prog.underlying t = some (.slice e)) (es sp : List (DataW H)) : (DataW.slice es sp).weights Try.prog t = (es.length + sp.length) * Try.prog.bytesOf e :: (DataW.weightsAll Try.prog e es ++ DataW.weightsAll Try.prog e sp) := by
 simp only [DataW.weights,hu]
theorem zaF {t : TypeId} {fs : Array Field} (hu : Try.prog.underlying t = some (.struct fs)) (ps : List (DataW H)) : (DataW.agg ps).weights Try.prog t = DataW.weightsEach Try.prog (fs.toList.map (·.type)) ps := by
 simp only [DataW.weights,hu]
theorem zbw {m : Nat} {c1 : Value} {d1 : DataW H} {p1 : List MemPlace} (h : DataW.trod enc Try.prog W 0 (fun _ => true) true m 45 [c1] = some (d1, p1)) (hw : ∀ k ∈ d1.weights Try.prog 45, k ≤ reachBytes) :
 ∃(A:Option Addr) (v:List UInt8) (cap:Nat),c1=.slice A v.length cap∧((A=none→cap=0)∧v.length≤cap)∧SeesP W (· < W.heap.size) A (Us v)∧v.length≤140737488351232:=by
 have lt:∀q∈p1,q.block < W.heap.size:=DataW.trod_lt m _ _ _ h
 have key : ∀ A len cap, c1 = .slice A len cap → ∃ v : List UInt8, len = v.length ∧ SeesP W (· < W.heap.size) A (Us v) ∧ ((A = none → cap = 0) ∧ len ≤ cap) ∧ len ≤ 140737488351232 := by
  intro A len cap e
  subst e
  obtain ⟨v,h1,h2,h3,h4,h5⟩:=open_u8s_Op5 (A:=A) (len:=len) (cap:=cap) (d:=d1) (p:=p1) ⟨m,h⟩ lt
  refine ⟨v,h1,SeesP.iff_sees.2 h2,⟨h4,h3⟩,?_⟩
  rcases h5 with rfl | ⟨es,sp,rfl,h5⟩
  · omega
  · have := hw _ (by rw [zaU Try.underlying45]; exact List.mem_cons_self ..)
    rw [bytes_u8] at this
    simp only [reachBytes] at this
    omega
 rcases DataW.trod_slice Try.underlying45 h with ⟨e,_⟩ | ⟨a,len,cap,elems,rest,n,_,e,_⟩
 · simp at e
   obtain ⟨v,h1,h2,h3,h4⟩:=key _ _ _ e
   exact ⟨none,v,0,by rw [e,h1],by rw [←h1];exact h3,h2,by rw [←h1];exact h4⟩
 · simp at e
   obtain ⟨v,h1,h2,h3,h4⟩:=key _ _ _ e
   exact ⟨some a,v,cap,by rw [e,h1],by rw [←h1];exact h3,h2,by rw [←h1];exact h4⟩
end
end Go.Proofs.Ytkdlfbggddllhaa
