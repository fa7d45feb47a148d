/-
  What is proved here: files, a place, a condition and a state that came in by value, as memory holds them; no bound but what a machine's memory has.
-/
import Derived.Test.YtkdlfbggddllhaaP26
import Derived.Test.YtkdlfbggddllhaaP27
import Derived.ProofKit
import Derived.OpenShut
import Derived.WalkKit
import Derived.Lib.SmallJoins
set_option linter.unusedVariables false
set_option linter.unusedSimpArgs false
namespace Go.Proofs.Ytkdlfbggddllhaa
open Go.ChangeShapes Go.WideShapes Go.ChangeAt Go.RowKit Go.Joins Go.Deep
theorem cells_fw:Try.prog.cellsOf 60=5:=by kernel_rfl
theorem cells_aw:Try.prog.cellsOf 71=2:=by kernel_rfl
theorem cells_cn:Try.prog.cellsOf 54=2:=by kernel_rfl
theorem cells_fws1:Try.prog.cellsOf 22=1:=by kernel_rfl
theorem cells_bool1:Try.prog.cellsOf 4=1:=by kernel_rfl
section
variable {H:Type} {enc:TypeId×Value→H} {W:World}
theorem open_rows {α : Type} [Inhabited α] (f : α → List Value) (k : Nat) (hk : 0 < k) (hf : ∀ x, (f x).length = k) (Q : α → Prop) {T e : TypeId} (hu : Try.prog.underlying T = some (.slice e)) (hce : Try.prog.cellsOf e = k)
 (hel:∀(n:Nat) (cs:List Value) (x:DataW H×List MemPlace),DataW.trod enc Try.prog W 0 (fun _=>true) true n e cs=some x→(∀k∈x.1.weights Try.prog e,k≤reachBytes)→∃y,cs=f y∧Q y)
 {fuel:Nat} {A:Option Addr} {len cap:Nat} {d:DataW H} {p:List MemPlace} (hh:DataW.trod enc Try.prog W 0 (fun _=>true) true fuel T [.slice A len cap]=some (d,p)) (hw:∀k∈d.weights Try.prog T,k≤reachBytes) :
 ∃L:List α,len=L.length∧SeesP W (· < W.heap.size) A (zaQ f L)∧(∀y∈L,Q y)∧len≤cap∧(A=none→cap=0):=by
 rcases DataW.trod_slice hu hh with ⟨hcs,_⟩ | ⟨a,l,c,elems,rest,n,_,hcs,hx,hl0,hl,hm,hlen,hele,hsp,_⟩
 · simp at hcs
   obtain ⟨rfl,rfl,rfl⟩:=hcs
   exact ⟨[],rfl,.inl rfl,(fun y h=>by cases h),Nat.le_refl _,fun _=>rfl⟩
 · simp at hcs
   obtain ⟨rfl,rfl,rfl⟩:=hcs
   simp only [Prod.mk.injEq] at hx
   obtain ⟨rfl,hp⟩:=hx
   rw [zaU hu] at hw
   have hrow : ∀ i, i < len → ∃ y : α, Q y ∧ ∀ j, j < k → W.cell? (a.add (i * k + j)) = (f y)[j]? := fun i hi => by
    have hie:i < elems.length:=by omega
    have h1:=hele i hi
    rw [hce,List.getElem?_eq_getElem hie,Option.bind_eq_some_iff] at h1
    obtain ⟨cs',hc1,hc2⟩:=h1
    obtain ⟨y,rfl,h2⟩:=hel _ _ _ hc2 (fun k hk=>hw k (List.mem_cons_of_mem _ (List.mem_append_left _ (zaO _ _ _ (List.mem_map.2 ⟨elems[i],List.getElem_mem hie,rfl⟩) k hk))))
    obtain ⟨_,_,hcc⟩:=World.cells?_some hc1
    refine ⟨y,h2,fun j hj=>?_⟩
    have:=hcc j hj
    rwa [Go.Deep.add_add] at this
   obtain ⟨L,hL1,hL2⟩:=list_of (default:α) len _ hrow
   refine ⟨L,hL1.symm,?_,fun y hy=>?_,by omega,fun h=>by cases h⟩
   · rcases Nat.eq_zero_or_pos len with h0 | h0
     · have : L = [] := List.eq_nil_of_length_eq_zero (by omega)
       subst this
       exact .inl rfl
     · obtain ⟨_, hcell⟩ := hL2 0 h0
       obtain ⟨v0,hv0⟩ : ∃v0,(f (L.getD 0 default))[0]? = some v0:=⟨_,List.getElem?_eq_getElem (by rw [hf];exact hk)⟩
       have hc0:=(hcell 0 hk).trans hv0
       have hspot : a.spot = none := by
        have:=World.cell?_spot hc0
        simpa [Addr.add] using this
       have hlt:=cell_lt_Bo hc0
       obtain ⟨b,off,spot⟩:=a
       have hspot:spot=none:=hspot
       subst hspot
       have hadd:∀j,(⟨b,off,none⟩ : Addr).add j=⟨b,off+j,none⟩:=fun j=>by unfold Addr.add;split <;> simp_all
       rw [hadd] at hlt
       refine .inr ⟨b,off,rfl,hlt,fun j hj=>?_⟩
       rw [zbj hf,hL1] at hj
       have hdm:j / k < len:=(Nat.div_lt_iff_lt_mul hk).2 (by rw [Nat.mul_comm];exact hj)
       obtain ⟨_,h5⟩:=hL2 (j / k) hdm
       have h6:=h5 (j % k) (Nat.mod_lt _ hk)
       have hjj:j / k*k+j % k=j:=by rw [Nat.mul_comm];exact Nat.div_add_mod j k
       rw [hadd,hjj] at h6
       have hx:L[j / k]? = some (L.getD (j / k) default):=by simp [List.getD,List.getElem?_eq_getElem (show j / k < L.length by omega)]
       rw [h6,←rows_get hf hx (j % k) (Nat.mod_lt _ hk),hjj]
   · obtain ⟨i, hi, rfl⟩ := List.getElem_of_mem hy
     have h:=(hL2 i (by omega)).1
     have er:L.getD i default=L[i]:=by simp [List.getD,List.getElem?_eq_getElem hi]
     rwa [er] at h
theorem open_acc {n : Nat} {cs : List Value} {x : DataW H × List MemPlace} (h : DataW.trod enc Try.prog W 0 (fun _ => true) true n 54 cs = some x) : ∃ a b : Int, cs = cnV a b := by
 obtain ⟨xs,m,hm,rfl,hl,hlen,hf⟩:=DataW.trod_struct Try.underlying54 h
 rw [cells_cn] at hl
 obtain ⟨c0, c1, rfl⟩ : ∃ a b, cs = [a, b] := by
  match cs,hl with
  | [a,b],_=>exact ⟨a,b,rfl⟩
 obtain ⟨y0, y1, rfl⟩ : ∃ a b, xs = [a, b] := by
  match xs,hlen with
  | [a,b],_=>exact ⟨a,b,rfl⟩
 have h0:DataW.trod enc Try.prog W 0 (fun _=>true) true m 3 (([c0,c1].drop 0).take (Try.prog.cellsOf 3))=some y0:=hf 0 _ rfl
 have h1:DataW.trod enc Try.prog W 0 (fun _=>true) true m 3 (([c0,c1].drop 1).take (Try.prog.cellsOf 3))=some y1:=hf 1 _ rfl
 rw [zaJ] at h0 h1
 obtain ⟨t0,e0,_,_⟩:=DataW.trod_int Try.underlying3 h0
 obtain ⟨t1,e1,_,_⟩:=DataW.trod_int Try.underlying3 h1
 simp at e0 e1
 subst e0;subst e1
 exact ⟨t0,t1,rfl⟩
theorem open_fw {n : Nat} {cs : List Value} {x : DataW H × List MemPlace} (h : DataW.trod enc Try.prog W 0 (fun _ => true) true n 60 cs = some x) (hw : ∀ k ∈ x.1.weights Try.prog 60, k ≤ reachBytes) :
 ∃y:Fw,cs=y.cs∧FwIn W (· < W.heap.size) y:=by
 obtain ⟨xs,m,hm,rfl,hl,hlen,hf⟩:=DataW.trod_struct Try.underlying60 h
 rw [cells_fw] at hl
 obtain ⟨c0, c1, c2, c3, c4, rfl⟩ : ∃ a b c d e, cs = [a, b, c, d, e] := by
  match cs,hl with
  | [a,b,c,d,e],_=>exact ⟨a,b,c,d,e,rfl⟩
 obtain ⟨y0, y1, y2, y3, rfl⟩ : ∃ a b c d, xs = [a, b, c, d] := by
  match xs,hlen with
  | [a,b,c,d],_=>exact ⟨a,b,c,d,rfl⟩
 have h0:DataW.trod enc Try.prog W 0 (fun _=>true) true m 3 (([c0,c1,c2,c3,c4].drop 0).take (Try.prog.cellsOf 3))=some y0:=hf 0 _ rfl
 have h1:DataW.trod enc Try.prog W 0 (fun _=>true) true m 3 (([c0,c1,c2,c3,c4].drop 1).take (Try.prog.cellsOf 3))=some y1:=hf 1 _ rfl
 have h2:DataW.trod enc Try.prog W 0 (fun _=>true) true m 45 (([c0,c1,c2,c3,c4].drop 2).take (Try.prog.cellsOf 45))=some y2:=hf 2 _ rfl
 have h3:DataW.trod enc Try.prog W 0 (fun _=>true) true m 54 (([c0,c1,c2,c3,c4].drop 3).take (Try.prog.cellsOf 54))=some y3:=hf 3 _ rfl
 rw [zaJ] at h0 h1
 rw [zbv] at h2
 rw [cells_cn] at h3
 obtain ⟨t0,e0,_,_⟩:=DataW.trod_int Try.underlying3 h0
 obtain ⟨t1,e1,_,_⟩:=DataW.trod_int Try.underlying3 h1
 simp at e0 e1
 subst e0;subst e1
 have hw2 : ∀ k ∈ y2.1.weights Try.prog 45, k ≤ reachBytes := fun k hk => hw k (by
  rw [zaF Try.underlying60]
  exact DataW.weights_mem_each (j:=2) rfl rfl k hk)
 obtain ⟨A,v,cap,rfl,h7,h8,h9⟩:=zbw (d1:=y2.1) (p1:=y2.2) (by simpa using h2) hw2
 obtain ⟨lv,rt,e3⟩:=open_acc (by simpa using h3)
 simp only [cnV,List.cons.injEq,and_true] at e3
 obtain ⟨rfl,rfl⟩:=e3
 exact ⟨⟨t0,t1,A,cap,lv,rt,v⟩,rfl,h8,h7.2,h7.1⟩
theorem open_fws {fuel : Nat} {A : Option Addr} {len cap : Nat} {d : DataW H} {p : List MemPlace} (h : DataW.trod enc Try.prog W 0 (fun _ => true) true fuel 22 [.slice A len cap] = some (d, p)) (hw : ∀ k ∈ d.weights Try.prog 22, k ≤ reachBytes) :
 ∃L:List Fw,len=L.length∧SeesU W (· < W.heap.size) A cap L:=by
 obtain ⟨L,h1,h2,h3,h4,h5⟩:=open_rows Fw.cs 5 (by decide) Fw.cs_len (FwIn W (· < W.heap.size)) Try.underlying22 cells_fw (fun n cs x hx hw=>open_fw hx hw) h hw
 exact ⟨L,h1,h2,h3,by omega,h5⟩
theorem zba {fuel : Nat} {T e : TypeId} (hu : Try.prog.underlying T = some (.slice e)) {c : Value} {d : DataW H} {p : List MemPlace} (h : DataW.trod enc Try.prog W 0 (fun _ => true) true fuel T [c] = some (d, p)) : ∃ A len cap, c = .slice A len cap := by
 rcases DataW.trod_slice hu h with ⟨hcs,_⟩ | ⟨a,l,c',_,_,_,_,hcs,_⟩
 · simp at hcs;exact ⟨_,_,_,hcs⟩
 · simp at hcs;exact ⟨_,_,_,hcs⟩
theorem open_aw {n : Nat} {cs : List Value} {x : DataW H × List MemPlace} (h : DataW.trod enc Try.prog W 0 (fun _ => true) true n 71 cs = some x) (hw : ∀ k ∈ x.1.weights Try.prog 71, k ≤ reachBytes) :
 ∃y:Aw,cs=y.cs∧AwIn W (· < W.heap.size) y:=by
 obtain ⟨xs,m,hm,rfl,hl,hlen,hf⟩:=DataW.trod_struct Try.underlying71 h
 rw [cells_aw] at hl
 obtain ⟨c0, c1, rfl⟩ : ∃ a b, cs = [a, b] := by
  match cs,hl with
  | [a,b],_=>exact ⟨a,b,rfl⟩
 obtain ⟨y0, y1, rfl⟩ : ∃ a b, xs = [a, b] := by
  match xs,hlen with
  | [a,b],_=>exact ⟨a,b,rfl⟩
 have h0:DataW.trod enc Try.prog W 0 (fun _=>true) true m 45 (([c0,c1].drop 0).take (Try.prog.cellsOf 45))=some y0:=hf 0 _ rfl
 have h1:DataW.trod enc Try.prog W 0 (fun _=>true) true m 22 (([c0,c1].drop 1).take (Try.prog.cellsOf 22))=some y1:=hf 1 _ rfl
 rw [zbv] at h0
 rw [cells_fws1] at h1
 have hw0 : ∀ k ∈ y0.1.weights Try.prog 45, k ≤ reachBytes := fun k hk => hw k (by
  rw [zaF Try.underlying71]
  exact DataW.weights_mem_each (j:=0) rfl rfl k hk)
 have hw1 : ∀ k ∈ y1.1.weights Try.prog 22, k ≤ reachBytes := fun k hk => hw k (by
  rw [zaF Try.underlying71]
  exact DataW.weights_mem_each (j:=1) rfl rfl k hk)
 obtain ⟨A,v,cap,rfl,h7,h8,h9⟩:=zbw (d1:=y0.1) (p1:=y0.2) (by simpa using h0) hw0
 have h1':DataW.trod enc Try.prog W 0 (fun _=>true) true m 22 [c1]=some (y1.1,y1.2):=by simpa using h1
 obtain ⟨FA,fl,fc,rfl⟩:=zba Try.underlying22 h1'
 obtain ⟨L,rfl,hL⟩:=open_fws h1' hw1
 exact ⟨⟨A,cap,v,FA,fc,L⟩,rfl,⟨h8,h7.2,h7.1⟩,hL⟩
theorem open_aws {fuel : Nat} {A : Option Addr} {len cap : Nat} {d : DataW H} {p : List MemPlace} (h : DataW.trod enc Try.prog W 0 (fun _ => true) true fuel 23 [.slice A len cap] = some (d, p)) (hw : ∀ k ∈ d.weights Try.prog 23, k ≤ reachBytes) :
 ∃L:List Aw,len=L.length∧SeesK W (· < W.heap.size) A cap L:=by
 obtain ⟨L,h1,h2,h3,h4,h5⟩:=open_rows Aw.cs 2 (by decide) Aw.cs_len (AwIn W (· < W.heap.size)) Try.underlying23 cells_aw (fun n cs x hx hw=>open_aw hx hw) h hw
 exact ⟨L,h1,h2,h3,by omega,h5⟩
theorem open_gw {r : Reach} {b0 : Nat} {v : Value} {d : DataW H} {p : List MemPlace} (hv : Value.okWide Try.prog W r b0 25 v) (h : DataW.Trod enc Try.prog W 0 (fun _ => true) true 25 v d p) (hw : ∀ k ∈ d.weights Try.prog 25, k ≤ reachBytes) :
 ∃G:Gw,v=.agg G.cs.toArray∧SeesW W (· < W.heap.size) G:=by
 obtain ⟨v0,v1,y0,y1,n,rfl,rfl,rfl,h0,h1⟩:=open_agg2 Try.underlying25 (by kernel_rfl) (by kernel_rfl) hv h
 have hw0 : ∀ k ∈ y0.1.weights Try.prog 22, k ≤ reachBytes := fun k hk => hw k (by
  rw [zaF Try.underlying25]
  exact DataW.weights_mem_each (j:=0) rfl rfl k hk)
 have hw1 : ∀ k ∈ y1.1.weights Try.prog 23, k ≤ reachBytes := fun k hk => hw k (by
  rw [zaF Try.underlying25]
  exact DataW.weights_mem_each (j:=1) rfl rfl k hk)
 have h0':DataW.trod enc Try.prog W 0 (fun _=>true) true n 22 [v0]=some (y0.1,y0.2):=h0
 have h1':DataW.trod enc Try.prog W 0 (fun _=>true) true n 23 [v1]=some (y1.1,y1.2):=h1
 obtain ⟨RA,rl,rc,rfl⟩:=zba Try.underlying22 h0'
 obtain ⟨AA,al,ac,rfl⟩:=zba Try.underlying23 h1'
 obtain ⟨R,rfl,hR⟩:=open_fws h0' hw0
 obtain ⟨K,rfl,hK⟩:=open_aws h1' hw1
 exact ⟨⟨RA,rc,R,AA,ac,K⟩,rfl,hR,hK⟩
theorem open_sta {n : Nat} {cs : List Value} {x : DataW H × List MemPlace} (h : DataW.trod enc Try.prog W 0 (fun _ => true) true n 29 cs = some x) : ∃ s : Sta, cs = s.cs ∧ (Lit.int .i64 s.rs).wf = true := by
 obtain ⟨xs,m,hm,rfl,hl,hlen,hf⟩:=DataW.trod_struct Try.underlying29 h
 rw [show Try.prog.cellsOf 29=5 by kernel_rfl] at hl
 obtain ⟨c0, c1, c2, c3, c4, rfl⟩ : ∃ a b c d e, cs = [a, b, c, d, e] := by
  match cs,hl with
  | [a,b,c,d,e],_=>exact ⟨a,b,c,d,e,rfl⟩
 obtain ⟨y0, y1, y2, y3, y4, rfl⟩ : ∃ a b c d e, xs = [a, b, c, d, e] := by
  match xs,hlen with
  | [a,b,c,d,e],_=>exact ⟨a,b,c,d,e,rfl⟩
 have h0:DataW.trod enc Try.prog W 0 (fun _=>true) true m 3 (([c0,c1,c2,c3,c4].drop 0).take (Try.prog.cellsOf 3))=some y0:=hf 0 _ rfl
 have h1:DataW.trod enc Try.prog W 0 (fun _=>true) true m 4 (([c0,c1,c2,c3,c4].drop 1).take (Try.prog.cellsOf 4))=some y1:=hf 1 _ rfl
 have h2:DataW.trod enc Try.prog W 0 (fun _=>true) true m 4 (([c0,c1,c2,c3,c4].drop 2).take (Try.prog.cellsOf 4))=some y2:=hf 2 _ rfl
 have h3:DataW.trod enc Try.prog W 0 (fun _=>true) true m 4 (([c0,c1,c2,c3,c4].drop 3).take (Try.prog.cellsOf 4))=some y3:=hf 3 _ rfl
 have h4:DataW.trod enc Try.prog W 0 (fun _=>true) true m 3 (([c0,c1,c2,c3,c4].drop 4).take (Try.prog.cellsOf 3))=some y4:=hf 4 _ rfl
 rw [zaJ] at h0 h4
 rw [cells_bool1] at h1 h2 h3
 obtain ⟨t0,e0,_,_⟩:=DataW.trod_int Try.underlying3 h0
 obtain ⟨b1,e1,_⟩:=DataW.trod_bool Try.underlying4 h1
 obtain ⟨b2,e2,_⟩:=DataW.trod_bool Try.underlying4 h2
 obtain ⟨b3,e3,_⟩:=DataW.trod_bool Try.underlying4 h3
 obtain ⟨t4,e4,_,w4⟩:=DataW.trod_int Try.underlying3 h4
 simp at e0 e1 e2 e3 e4
 subst e0;subst e1;subst e2;subst e3;subst e4
 exact ⟨⟨t0,b1,b2,b3,t4⟩,rfl,w4⟩
theorem open_plc {n : Nat} {cs : List Value} {x : DataW H × List MemPlace} (h : DataW.trod enc Try.prog W 0 (fun _ => true) true n 27 cs = some x) : ∃ a b : Int, cs = plV a b := by
 obtain ⟨xs,m,hm,rfl,hl,hlen,hf⟩:=DataW.trod_struct Try.underlying27 h
 rw [show Try.prog.cellsOf 27=2 by kernel_rfl] at hl
 obtain ⟨c0, c1, rfl⟩ : ∃ a b, cs = [a, b] := by
  match cs,hl with
  | [a,b],_=>exact ⟨a,b,rfl⟩
 obtain ⟨y0, y1, rfl⟩ : ∃ a b, xs = [a, b] := by
  match xs,hlen with
  | [a,b],_=>exact ⟨a,b,rfl⟩
 have h0:DataW.trod enc Try.prog W 0 (fun _=>true) true m 3 (([c0,c1].drop 0).take (Try.prog.cellsOf 3))=some y0:=hf 0 _ rfl
 have h1:DataW.trod enc Try.prog W 0 (fun _=>true) true m 3 (([c0,c1].drop 1).take (Try.prog.cellsOf 3))=some y1:=hf 1 _ rfl
 rw [zaJ] at h0 h1
 obtain ⟨t0,e0,_,_⟩:=DataW.trod_int Try.underlying3 h0
 obtain ⟨t1,e1,_,_⟩:=DataW.trod_int Try.underlying3 h1
 simp at e0 e1
 subst e0;subst e1
 exact ⟨t0,t1,rfl⟩
def lkV (a b:Int) (s:Sta) (n:Int):List Value:=plV a b++s.cs++[.int .i64 n]
theorem open_look {r : Reach} {b0 : Nat} {v : Value} {d : DataW H} {p : List MemPlace} (hv : Value.okWide Try.prog W r b0 31 v) (h : DataW.Trod enc Try.prog W 0 (fun _ => true) true 31 v d p) :
 ∃(a b:Int) (s:Sta) (n:Int),v=.agg (lkV a b s n).toArray∧(Lit.int .i64 s.rs).wf=true:=by
 obtain ⟨cs,rfl,hsz⟩:=okWide_struct Try.underlying31 hv
 obtain ⟨fuel,hf0⟩:=h
 obtain ⟨xs,m,hm,hx,hl,hlen,hf⟩:=DataW.trod_struct Try.underlying31 hf0
 obtain ⟨l⟩:=cs
 rw [show Try.prog.cellsOf 31=8 by kernel_rfl] at hsz
 have hl8:l.length=8:=by simpa using hsz
 obtain ⟨c0, c1, c2, c3, c4, c5, c6, c7, rfl⟩ : ∃ a b c d e f g h, l = [a, b, c, d, e, f, g, h] := by
  match l,hl8 with
  | [a,b,c,d,e,f,g,h],_=>exact ⟨a,b,c,d,e,f,g,h,rfl⟩
 obtain ⟨y0, y1, y2, rfl⟩ : ∃ a b c, xs = [a, b, c] := by
  match xs,hlen with
  | [a,b,c],_=>exact ⟨a,b,c,rfl⟩
 have h0:DataW.trod enc Try.prog W 0 (fun _=>true) true m 27 (([c0,c1,c2,c3,c4,c5,c6,c7].drop 0).take (Try.prog.cellsOf 27))=some y0:=hf 0 _ rfl
 have h1:DataW.trod enc Try.prog W 0 (fun _=>true) true m 29 (([c0,c1,c2,c3,c4,c5,c6,c7].drop 2).take (Try.prog.cellsOf 29))=some y1:=hf 1 _ rfl
 have h2:DataW.trod enc Try.prog W 0 (fun _=>true) true m 3 (([c0,c1,c2,c3,c4,c5,c6,c7].drop 7).take (Try.prog.cellsOf 3))=some y2:=hf 2 _ rfl
 rw [show Try.prog.cellsOf 27=2 by kernel_rfl] at h0
 rw [show Try.prog.cellsOf 29=5 by kernel_rfl] at h1
 rw [zaJ] at h2
 obtain ⟨a,b,e0⟩:=open_plc h0
 obtain ⟨s,e1,w1⟩:=open_sta h1
 obtain ⟨n,e2,_,_⟩:=DataW.trod_int Try.underlying3 h2
 refine ⟨a,b,s,n,?_,w1⟩
 have e0:[c0,c1]=[Value.int .i64 a,.int .i64 b]:=e0
 have e1:[c2,c3,c4,c5,c6]=[Value.int .i64 s.pw,.bool s.ba,.bool s.ch,.bool s.te,.int .i64 s.rs]:=e1
 have e3:c7=Value.int .i64 n:=by simpa using e2
 clear e2
 simp only [List.cons.injEq,and_true] at e0 e1
 obtain ⟨rfl,rfl⟩:=e0
 obtain ⟨rfl,rfl,rfl,rfl,rfl⟩:=e1
 subst e3
 rfl
theorem open_state {r : Reach} {b0 : Nat} {v : Value} {d : DataW H} {p : List MemPlace} (hv : Value.okWide Try.prog W r b0 29 v) (h : DataW.Trod enc Try.prog W 0 (fun _ => true) true 29 v d p) :
 ∃s:Sta,v=.agg s.cs.toArray∧(Lit.int .i64 s.rs).wf=true:=by
 obtain ⟨cs,rfl,hsz⟩:=okWide_struct Try.underlying29 hv
 obtain ⟨fuel,hf0⟩:=h
 obtain ⟨s,e,w⟩:=open_sta hf0
 have e:cs.toList=s.cs:=e
 exact ⟨s,by rw [←e],w⟩
theorem open_access {r : Reach} {b0 : Nat} {v : Value} {d : DataW H} {p : List MemPlace} (hv : Value.okWide Try.prog W r b0 54 v) (h : DataW.Trod enc Try.prog W 0 (fun _ => true) true 54 v d p) :
 ∃a b:Int,v=.agg (cnV a b).toArray:=by
 obtain ⟨cs,rfl,hsz⟩:=okWide_struct Try.underlying54 hv
 obtain ⟨fuel,hf0⟩:=h
 obtain ⟨a,b,e⟩:=open_acc hf0
 have e:cs.toList=cnV a b:=e
 exact ⟨a,b,by rw [←e]⟩
end
end Go.Proofs.Ytkdlfbggddllhaa
