/-
  What is proved here: the reference's identifier and its object of an info.
-/
import Derived.Test.YtnlhbknajdpnbaaGreatDoorF13
import Derived.Test.YtnlhbknajdpnbaaGreatDoorF17
set_option linter.unusedVariables false
set_option linter.unusedSimpArgs false
namespace Go.Proofs.YtnlhbknajdpnbaaGreatDoor
open Go.RowKit
set_option maxRecDepth 8000
theorem some_no (a:Addr) (c:Nat):some a=none→c=0:=fun h=>by cases h
def id7:List UInt8:=[4,0,127,0,7,2,2]
theorem bsu7:Tryz.prog.builtSlice 5 7 [(0,.int .u8 4),(1,.int .u8 0),(2,.int .u8 127),(3,.int .u8 0),(4,.int .u8 7),(5,.int .u8 2),(6,.int .u8 2)]=some (Us id7).toArray:=by kernel_rfl
theorem bsu2c (a b : Int) (x y : UInt8) (hx : (x.toNat : Int) = a) (hy : (y.toNat : Int) = b) : Tryz.prog.builtSlice 5 2 [(0, .int .u8 a), (1, .int .u8 b)] = some (Us [x, y]).toArray := by
 subst hx hy
 exact bsu2 x y
theorem pe7 {a:Act} {x0 x1 x2 x3 x4 x5 x6:Operand} {u0 u1 u2 u3 u4 u5 u6:Value} (h0:a.eval x0=u0) (h1:a.eval x1=u1) (h2:a.eval x2=u2) (h3:a.eval x3=u3) (h4:a.eval x4=u4) (h5:a.eval x5=u5) (h6:a.eval x6=u6):((#[(0,x0),(1,x1),(2,x2),(3,x3),(4,x4),(5,x5),(6,x6)]:Array (Nat×Operand)).map fun (i,x)=>(i,a.eval x)).toList=[(0,u0),(1,u1),(2,u2),(3,u3),(4,u4),(5,u5),(6,u6)]:=by simp [h0,h1,h2,h3,h4,h5,h6]
theorem zcn {w : World} {e : TypeId} {g n c : Nat} {base : Nat} {l : List UInt8} (h : w.ownsRow base e 1 (.slice (some ⟨g, 0, none⟩) n c) n (Us l)) : n ≤ c ∧ base ≤ g ∧ SeesP w (fun b => base ≤ b ∧ b < w.heap.size) (some ⟨g, 0, none⟩) (Us l) := by
 rcases h.2 with ⟨h0,_⟩ | ⟨g',cap,cur,hv,hg,hh,hn,hm,hs,ht⟩
 · simp at h0
 · simp only [Value.slice.injEq, Option.some.injEq, Addr.mk.injEq, and_true, true_and] at hv
   obtain ⟨rfl,rfl⟩:=hv
   refine ⟨hn,hg,.inr ⟨g,0,rfl,⟨hg,lt_of_block hh⟩,fun j hj=>?_⟩⟩
   have hl:=h.1
   rw [Nat.zero_add,cell_of_row w g j cur _ (0,0) hh,←ht,List.getElem?_take,if_pos (by omega),Array.getElem?_toList]
theorem r_ident (p : Int) (w : World) : Calls Tryz.prog 101 #[.int .i64 p] w (NewI4 w (idL p) 9) := by
 obtain ⟨i0,hi,hz0,hz1,hz2⟩:=info_parts zaW
 have HB:=Lib.hid (Below.refl w.heap.size w)
 by_cases h2:p=2
 · subst h2
   have hv:idL 2=id7++[4,1]:=rfl
   rw [hv];clear hv
   go_enter Tryz.func101,Tryz.ntmps101
   go_wp2_with (first
    | ((with_reducible refine zal (d:=4) ?_);go_must (refine zcl rfl 27 5 7 _ rfl Tryz.underlying27 (pe7 rfl rfl rfl rfl rfl rfl rfl) bsu7 ?_);intro g1 w1 hf hh;have H1:=Lib.hid (show w1.ownsRow w.heap.size 5 1 (.slice (some ⟨g1,0,none⟩) 7 7) 7 (Us id7)∧Below w.heap.size w w1 from ⟨zdX hh rfl (by decide) (hf.ge HB.out),hf.bl HB.out⟩);clear hf hh)
    | ((with_reducible refine zal (d:=9) ?_);go_must (refine zap rfl 27 5 2 _ rfl Tryz.underlying27 (pe2 rfl rfl) (bsu2c _ _ 4 1 rfl rfl) ?_);intro g2 w2 hf hr;have H2:=Lib.hid (show _∧_ from ⟨hf,hr⟩);clear hf hr)
    | ((with_reducible refine zaS (d:=10) ?_);go_must (refine wpList_append_lies _ rfl (.tmp 8) (.tmp 9) 27 rfl w.heap.size 5 i0 _ 1 1 Tryz.underlying27 hi hz0 hz1 hz2 rfl (by decide) _ 7 _ rfl (zaI H1.out.1 H2.out.1.bw) ⟨g2,0,none⟩ 2 2 (Us [4,1]) rfl rfl (RowV.src H2.out.2) (zcE _) (by decide) (by unfold maxLen;omega) (by omega) (Nat.le_trans H1.out.2.size H2.out.1.bw.size) _ rfl ?_);intro g3 c3 w3 ho hg hl hlt;have H3:=Lib.hid (show w3.ownsRow w.heap.size 5 1 (.slice (some ⟨g3,0,none⟩) 9 c3) 9 (Us (id7++[4,1]))∧Below w.heap.size w w3 from ⟨by rw [zaP];exact ho,zbo (zaf H1.out.2 H2.out.1.bw) hg fun k e=>(zas H1.out.1 k e).1⟩);clear ho hg hl hlt))
   go_ret
   exact ⟨some ⟨g3,0,none⟩,c3,rfl,⟨fun h=>(by cases h),(zcn H3.out.1).1⟩,(zcn H3.out.1).2.2,H3.out.2⟩
 by_cases h3:p=3
 · subst h3
   have hv:idL 3=id7++[4,2]:=rfl
   rw [hv];clear hv h2
   go_enter Tryz.func101,Tryz.ntmps101
   go_wp2_with (first
    | ((with_reducible refine zal (d:=4) ?_);go_must (refine zcl rfl 27 5 7 _ rfl Tryz.underlying27 (pe7 rfl rfl rfl rfl rfl rfl rfl) bsu7 ?_);intro g1 w1 hf hh;have H1:=Lib.hid (show w1.ownsRow w.heap.size 5 1 (.slice (some ⟨g1,0,none⟩) 7 7) 7 (Us id7)∧Below w.heap.size w w1 from ⟨zdX hh rfl (by decide) (hf.ge HB.out),hf.bl HB.out⟩);clear hf hh)
    | ((with_reducible refine zal (d:=14) ?_);go_must (refine zap rfl 27 5 2 _ rfl Tryz.underlying27 (pe2 rfl rfl) (bsu2c _ _ 4 2 rfl rfl) ?_);intro g2 w2 hf hr;have H2:=Lib.hid (show _∧_ from ⟨hf,hr⟩);clear hf hr)
    | ((with_reducible refine zaS (d:=15) ?_);go_must (refine wpList_append_lies _ rfl (.tmp 13) (.tmp 14) 27 rfl w.heap.size 5 i0 _ 1 1 Tryz.underlying27 hi hz0 hz1 hz2 rfl (by decide) _ 7 _ rfl (zaI H1.out.1 H2.out.1.bw) ⟨g2,0,none⟩ 2 2 (Us [4,2]) rfl rfl (RowV.src H2.out.2) (zcE _) (by decide) (by unfold maxLen;omega) (by omega) (Nat.le_trans H1.out.2.size H2.out.1.bw.size) _ rfl ?_);intro g3 c3 w3 ho hg hl hlt;have H3:=Lib.hid (show w3.ownsRow w.heap.size 5 1 (.slice (some ⟨g3,0,none⟩) 9 c3) 9 (Us (id7++[4,2]))∧Below w.heap.size w w3 from ⟨by rw [zaP];exact ho,zbo (zaf H1.out.2 H2.out.1.bw) hg fun k e=>(zas H1.out.1 k e).1⟩);clear ho hg hl hlt))
   go_ret
   exact ⟨some ⟨g3,0,none⟩,c3,rfl,⟨fun h=>(by cases h),(zcn H3.out.1).1⟩,(zcn H3.out.1).2.2,H3.out.2⟩
 by_cases h4:p=4
 · subst h4
   have hv:idL 4=id7++[3,1]:=rfl
   rw [hv];clear hv h2 h3
   go_enter Tryz.func101,Tryz.ntmps101
   go_wp2_with (first
    | ((with_reducible refine zal (d:=4) ?_);go_must (refine zcl rfl 27 5 7 _ rfl Tryz.underlying27 (pe7 rfl rfl rfl rfl rfl rfl rfl) bsu7 ?_);intro g1 w1 hf hh;have H1:=Lib.hid (show w1.ownsRow w.heap.size 5 1 (.slice (some ⟨g1,0,none⟩) 7 7) 7 (Us id7)∧Below w.heap.size w w1 from ⟨zdX hh rfl (by decide) (hf.ge HB.out),hf.bl HB.out⟩);clear hf hh)
    | ((with_reducible refine zal (d:=19) ?_);go_must (refine zap rfl 27 5 2 _ rfl Tryz.underlying27 (pe2 rfl rfl) (bsu2c _ _ 3 1 rfl rfl) ?_);intro g2 w2 hf hr;have H2:=Lib.hid (show _∧_ from ⟨hf,hr⟩);clear hf hr)
    | ((with_reducible refine zaS (d:=20) ?_);go_must (refine wpList_append_lies _ rfl (.tmp 18) (.tmp 19) 27 rfl w.heap.size 5 i0 _ 1 1 Tryz.underlying27 hi hz0 hz1 hz2 rfl (by decide) _ 7 _ rfl (zaI H1.out.1 H2.out.1.bw) ⟨g2,0,none⟩ 2 2 (Us [3,1]) rfl rfl (RowV.src H2.out.2) (zcE _) (by decide) (by unfold maxLen;omega) (by omega) (Nat.le_trans H1.out.2.size H2.out.1.bw.size) _ rfl ?_);intro g3 c3 w3 ho hg hl hlt;have H3:=Lib.hid (show w3.ownsRow w.heap.size 5 1 (.slice (some ⟨g3,0,none⟩) 9 c3) 9 (Us (id7++[3,1]))∧Below w.heap.size w w3 from ⟨by rw [zaP];exact ho,zbo (zaf H1.out.2 H2.out.1.bw) hg fun k e=>(zas H1.out.1 k e).1⟩);clear ho hg hl hlt))
   go_ret
   exact ⟨some ⟨g3,0,none⟩,c3,rfl,⟨fun h=>(by cases h),(zcn H3.out.1).1⟩,(zcn H3.out.1).2.2,H3.out.2⟩
 by_cases h5:p=5
 · subst h5
   have hv:idL 5=id7++[2,1]:=rfl
   rw [hv];clear hv h2 h3 h4
   go_enter Tryz.func101,Tryz.ntmps101
   go_wp2_with (first
    | ((with_reducible refine zal (d:=4) ?_);go_must (refine zcl rfl 27 5 7 _ rfl Tryz.underlying27 (pe7 rfl rfl rfl rfl rfl rfl rfl) bsu7 ?_);intro g1 w1 hf hh;have H1:=Lib.hid (show w1.ownsRow w.heap.size 5 1 (.slice (some ⟨g1,0,none⟩) 7 7) 7 (Us id7)∧Below w.heap.size w w1 from ⟨zdX hh rfl (by decide) (hf.ge HB.out),hf.bl HB.out⟩);clear hf hh)
    | ((with_reducible refine zal (d:=24) ?_);go_must (refine zap rfl 27 5 2 _ rfl Tryz.underlying27 (pe2 rfl rfl) (bsu2c _ _ 2 1 rfl rfl) ?_);intro g2 w2 hf hr;have H2:=Lib.hid (show _∧_ from ⟨hf,hr⟩);clear hf hr)
    | ((with_reducible refine zaS (d:=25) ?_);go_must (refine wpList_append_lies _ rfl (.tmp 23) (.tmp 24) 27 rfl w.heap.size 5 i0 _ 1 1 Tryz.underlying27 hi hz0 hz1 hz2 rfl (by decide) _ 7 _ rfl (zaI H1.out.1 H2.out.1.bw) ⟨g2,0,none⟩ 2 2 (Us [2,1]) rfl rfl (RowV.src H2.out.2) (zcE _) (by decide) (by unfold maxLen;omega) (by omega) (Nat.le_trans H1.out.2.size H2.out.1.bw.size) _ rfl ?_);intro g3 c3 w3 ho hg hl hlt;have H3:=Lib.hid (show w3.ownsRow w.heap.size 5 1 (.slice (some ⟨g3,0,none⟩) 9 c3) 9 (Us (id7++[2,1]))∧Below w.heap.size w w3 from ⟨by rw [zaP];exact ho,zbo (zaf H1.out.2 H2.out.1.bw) hg fun k e=>(zas H1.out.1 k e).1⟩);clear ho hg hl hlt))
   go_ret
   exact ⟨some ⟨g3,0,none⟩,c3,rfl,⟨fun h=>(by cases h),(zcn H3.out.1).1⟩,(zcn H3.out.1).2.2,H3.out.2⟩
 · have hv : idL p = id7 ++ [5, 1] := by unfold idL; rw [if_neg h2, if_neg h3, if_neg h4, if_neg h5]; rfl
   rw [hv]
   have d2:(p==2)=false:=by simpa using h2
   have d3:(p==3)=false:=by simpa using h3
   have d4:(p==4)=false:=by simpa using h4
   have d5:(p==5)=false:=by simpa using h5
   clear hv h2 h3 h4 h5
   go_enter Tryz.func101,Tryz.ntmps101
   go_wp2_with (first
    | ((with_reducible refine zal (d:=4) ?_);go_must (refine zcl rfl 27 5 7 _ rfl Tryz.underlying27 (pe7 rfl rfl rfl rfl rfl rfl rfl) bsu7 ?_);intro g1 w1 hf hh;have H1:=Lib.hid (show w1.ownsRow w.heap.size 5 1 (.slice (some ⟨g1,0,none⟩) 7 7) 7 (Us id7)∧Below w.heap.size w w1 from ⟨zdX hh rfl (by decide) (hf.ge HB.out),hf.bl HB.out⟩);clear hf hh)
    | ((with_reducible refine zal (d:=27) ?_);go_must (refine zap rfl 27 5 2 _ rfl Tryz.underlying27 (pe2 rfl rfl) (bsu2c _ _ 5 1 rfl rfl) ?_);intro g2 w2 hf hr;have H2:=Lib.hid (show _∧_ from ⟨hf,hr⟩);clear hf hr)
    | ((with_reducible refine zaS (d:=28) ?_);go_must (refine wpList_append_lies _ rfl (.tmp 26) (.tmp 27) 27 rfl w.heap.size 5 i0 _ 1 1 Tryz.underlying27 hi hz0 hz1 hz2 rfl (by decide) _ 7 _ rfl (zaI H1.out.1 H2.out.1.bw) ⟨g2,0,none⟩ 2 2 (Us [5,1]) rfl rfl (RowV.src H2.out.2) (zcE _) (by decide) (by unfold maxLen;omega) (by omega) (Nat.le_trans H1.out.2.size H2.out.1.bw.size) _ rfl ?_);intro g3 c3 w3 ho hg hl hlt;have H3:=Lib.hid (show w3.ownsRow w.heap.size 5 1 (.slice (some ⟨g3,0,none⟩) 9 c3) 9 (Us (id7++[5,1]))∧Below w.heap.size w w3 from ⟨by rw [zaP];exact ho,zbo (zaf H1.out.2 H2.out.1.bw) hg fun k e=>(zas H1.out.1 k e).1⟩);clear ho hg hl hlt))
   go_ret
   exact ⟨some ⟨g3,0,none⟩,c3,rfl,⟨fun h=>(by cases h),(zcn H3.out.1).1⟩,(zcn H3.out.1).2.2,H3.out.2⟩
theorem fa_x1 (g:Nat) (w:World):(Instr.fieldAt 93 (.pointer (some ⟨g,0,none⟩)) 1).run Tryz.prog w=.ok (.pointer (some ⟨g,1,none⟩)) w:=by kernel_rfl
theorem OctS.lit1 {w0 c c' : World} {g n : Nat} (hf : Fresh c c' g) (hr : RowV c' g [U (UInt8.ofNat n)]) (hs : w0.heap.size ≤ c.heap.size) : OctS w0 (octL n 1) 1 (.slice (some ⟨g, 0, none⟩) 1 1) c' :=
 ⟨_,1,rfl,⟨fun h=>(by cases h),Nat.le_refl _⟩,.inr ⟨g,0,rfl,⟨by rw [hf.1];exact hs,hr.lt⟩,fun j hj=>by rw [Nat.zero_add,hr.cell,octL1];rfl⟩⟩
theorem OctS.row {w0 : World} {x : List UInt8} {n : Nat} {u : Value} {c c' : World} {v : Value} (h : OctS w0 x n u c) (hg : c.grownBy c' v.ownBlock) (hv : ∀ g, v.ownBlock = some g → g < w0.heap.size) : OctS w0 x n u c' := by
 obtain ⟨A,cv,h1,h2,h3⟩:=h
 refine ⟨A,cv,h1,h2,(h3.keep fun q hq=>World.cell?_of_block (hg.block _ hq.2 fun e=>?_)).imp fun b hb=>⟨hb.1,Nat.lt_of_lt_of_le hb.2 hg.size⟩⟩
 have:=hv _ e.symm
 have:=hq.1
 omega
theorem o_bslT {P : Program} {a : Act} {w : World} {K : Act → World → Prop} {Q : Exit → Act → World → Prop} {o : Oper} (t e : TypeId) (len : Nat) (parts : Array (Nat × Operand)) (ho : o.op = .buildSlice t len parts) (hu : P.underlying t = some (.slice e)) {ps : List (Nat × Value)} (hp : (parts.map fun (i, x) => (i, a.eval x)).toList = ps) {vs : List Value} (hf : P.builtSlice e len ps = some vs.toArray)
 (hK:∀g w',Fresh w w' g→w'.heap[g]? = some (.cells vs.toArray e (0,0))→K (a.put o.dst (.slice (some ⟨g,0,none⟩) len len)) w'):o.wp P a w K Q:=by
 unfold Program.builtSlice at hf
 cases hie:P.info? e with
 | none=>simp [hie] at hf
 | some ie =>
   simp only [hie] at hf
   cases hz:ie.zero with
   | none=>simp [hz] at hf
   | some z =>
     simp only [hz] at hf
     by_cases hc:len*ie.size > 2 ^ 24∨len*ie.size=0
     · simp [hc] at hf
     · rw [if_neg hc] at hf
       exact wp_buildSlice t e len parts ho vs.toArray ie z hu hie hz (fun h=>hc (.inl h)) (fun h=>hc (.inr h)) (by rw [hp];exact hf) (hK _ _ ⟨rfl,_,rfl⟩ (heap_alloc_new w _))
theorem HoldsN.two {w : World} {p : Nat → Prop} {t1 t2 : Int} {x1 x2 : List UInt8} {n1 n2 c1 c2 : Nat} {A1 A2 : Option Addr} (e1 : x1.length = n1) (e2 : x2.length = n2) (h1 : (A1 = none → c1 = 0) ∧ n1 ≤ c1) (h2 : (A2 = none → c2 = 0) ∧ n2 ≤ c2) (s1 : SeesP w p A1 (Us x1)) (s2 : SeesP w p A2 (Us x2)) :
 HoldsN w p (.cons t1 x1 .nil (.cons t2 x2 .nil .nil)) (nodV t1 A1 n1 c1 none 0 0++nodV t2 A2 n2 c2 none 0 0):=by
 subst e1 e2
 exact ⟨A1,c1,none,0,[],_,rfl,⟨h1.1,h1.2,Nat.le_refl _⟩,s1,.inl rfl,rfl,A2,c2,none,0,[],[],rfl,⟨h2.1,h2.2,Nat.le_refl _⟩,s2,.inl rfl,rfl,rfl⟩
theorem HoldsN.cells {w : World} {p : Nat → Prop} : ∀ {f : F} {cs : List Value}, HoldsN w p f cs → ∀ u ∈ cs, u.oneCell' = true
 | .nil, cs, h, u, hu => by
   have h:cs=[]:=h
   subst h;cases hu
 | .cons _ _ _ _, cs, ⟨Av, cv, Ak, ck, ks, cs', e, h0, h1, h2, h3, h4⟩, u, hu => by
   subst e
   simp only [List.mem_cons] at hu
   rcases hu with rfl | rfl | rfl | hu
   · rfl
   · rfl
   · rfl
   · exact HoldsN.cells h4 u hu
def idF2 (p:Int) (nv:Nat):F:=.cons 6 (idL p) .nil (.cons 2 (octL nv 1) .nil .nil)
def twoF (nk ni:Nat):F:=.cons 4 (octL nk 4) .nil (.cons 2 (octL ni 1) .nil .nil)
theorem HeldN.lit2 {w0 c c' : World} {g : Nat} {t1 t2 : Int} {x1 x2 : List UInt8} {n1 n2 c1 c2 : Nat} {A1 A2 : Option Addr} (hs : w0.heap.size ≤ c.heap.size) (hf : Fresh c c' g) (hh : c'.heap[g]? = some (.cells (nodV t1 A1 n1 c1 none 0 0 ++ nodV t2 A2 n2 c2 none 0 0).toArray 64 (0, 0))) (e1 : x1.length = n1) (e2 : x2.length = n2)
 (h1:(A1=none→c1=0)∧n1≤c1) (h2:(A2=none→c2=0)∧n2≤c2) (s1:SeesP c (newB w0 c) A1 (Us x1)) (s2:SeesP c (newB w0 c) A2 (Us x2)):HeldN w0 c' (.slice (some ⟨g,0,none⟩) 2 2) (.cons t1 x1 .nil (.cons t2 x2 .nil .nil)):=by
 have im : ∀ b, newB w0 c b → newB w0 c' b ∧ (Value.slice (some ⟨g, 0, none⟩) 2 2).ownBlock ≠ some b := fun b hb => ⟨⟨hb.1, Nat.lt_of_lt_of_le hb.2 hf.bw.size⟩, fun e => by
  have e:g=b:=by simpa [Value.ownBlock] using e
  have:=hf.1
  have:=hb.2
  omega⟩
 exact ⟨_,zdX hh rfl (by decide) (by rw [hf.1];exact hs),HoldsN.two e1 e2 h1 h2 ((s1.keep fun q hq=>hf.bw.cell hq.2).imp im) ((s2.keep fun q hq=>hf.bw.cell hq.2).imp im)⟩
theorem HeldN.joinF {w wr w1 wa w2 : World} {v : Value} {f h : F} {ns : List Value} {g cap n : Nat} (h01 : Below wr.heap.size wr w1) (ha : Below w1.heap.size w1 wa)
 (hh:HoldsN w1 (newB wr w1) h ns) (hww:w.heap.size≤wr.heap.size)
 (cs:List Value) (hc1:wr.ownsRow w.heap.size 64 3 v f.len cs) (hc2:HoldsN wr (fun b=>newB w wr b∧v.ownBlock≠some b) f cs) (hn:n=f.len+h.len)
 (ho:w2.ownsRow w.heap.size 64 3 (.slice (some ⟨g,0,none⟩) n cap) n (cs++ns)) (hg:wa.grownBy w2 v.ownBlock)
 (hl:v.ownBlock=some g∨g=wa.heap.size):HeldN w w2 (.slice (some ⟨g,0,none⟩) n cap) (f.app h):=by
 subst hn
 have hold:=zas hc1
 have keep : ∀ q : Addr, q.block < w1.heap.size → v.ownBlock ≠ some q.block → w2.cell? q = w1.cell? q := fun q h1 h2 =>
  (World.cell?_of_block (w:=wa) (hg.block q.block (Nat.lt_of_lt_of_le h1 ha.size) (fun e=>h2 e.symm))).trans (ha.cell h1)
 have hsz:w1.heap.size≤w2.heap.size:=Nat.le_trans ha.size hg.size
 have hwa:=ha.size
 have h01s:=h01.size
 refine ⟨_,by rw [F.len_app];exact ho,HoldsN.app ?_ ?_⟩
 · refine HoldsN.imp ?_ (HoldsN.keep (w' := w2) (fun q hq => (keep q (Nat.lt_of_lt_of_le hq.1.2 h01s) hq.2).trans (h01.cell hq.1.2)) hc2)
   intro b hb
   have h4:=hb.1.2
   refine ⟨⟨hb.1.1,by omega⟩,?_⟩
   intro e
   injection e with e
   simp only at e
   rcases hl with h3 | h3
   · exact hb.2 (h3.trans (by rw [e]))
   · omega
 · have hp : ∀ b, newB wr w1 b → newB w w2 b ∧ (Value.slice (some ⟨g, 0, none⟩) (f.len + h.len) cap).ownBlock ≠ some b := by
    intro b hb
    have h5:=hb.1
    have h6:=hb.2
    refine ⟨⟨by omega,by omega⟩,?_⟩
    intro e
    injection e with e
    simp only at e
    rcases hl with h3 | h3
    · have:=(hold g h3).2;omega
    · omega
   have kp : ∀ q : Addr, newB wr w1 q.block → w2.cell? q = w1.cell? q := by
    intro q hq
    refine keep q hq.2 ?_
    have h5:=hq.1
    intro e
    have:=(hold _ e).2
    omega
   exact HoldsN.imp hp (HoldsN.keep kp hh)
def TwoS (w0:World) (f:F) (u:Value) (c:World):Prop:=∃g ns,u=.slice (some ⟨g,0,none⟩) 2 2∧newB w0 c g∧RowV c g ns∧HoldsN c (newB w0 c) f ns
theorem TwoS.firm (w0 : World) (f : F) : Firm (TwoS w0 f) := by
 rintro u c c' ⟨g,ns,h1,h0,h4,h2⟩ hb
 exact ⟨g,ns,h1,⟨h0.1,Nat.lt_of_lt_of_le h0.2 hb.size⟩,h4.on hb,HoldsN.imp (fun b h=>⟨h.1,Nat.lt_of_lt_of_le h.2 hb.size⟩) (HoldsN.keep (fun q hq=>hb.cell hq.2) h2)⟩
theorem TwoS.row {w0 : World} {f : F} {u : Value} {c c' : World} {v : Value} (h : TwoS w0 f u c) (hg : c.grownBy c' v.ownBlock) (hv : ∀ g, v.ownBlock = some g → g < w0.heap.size) : TwoS w0 f u c' := by
 obtain ⟨g,ns,h1,h0,h4,h2⟩:=h
 have hne:∀k,w0.heap.size≤k→some k≠v.ownBlock:=fun k hk e=>by have:=hv _ e.symm;omega
 exact ⟨g,ns,h1,⟨h0.1,Nat.lt_of_lt_of_le h0.2 hg.size⟩,h4.same (hg.block _ h0.2 (hne _ h0.1)),HoldsN.imp (fun b h=>⟨h.1,Nat.lt_of_lt_of_le h.2 hg.size⟩) (HoldsN.keep (fun q hq=>World.cell?_of_block (hg.block _ hq.2 (hne _ hq.1))) h2)⟩
theorem kidF_pw {x:Im} (h:pwB x.p=true):kidF x=(idF2 x.p x.v.toNat).app (.cons 2 (octL x.a.toNat 1) .nil .nil):=by unfold kidF zgi;rw [if_pos h];rfl
theorem kidF_chip {x : Im} (h : x.p = 4) : kidF x = (idF2 x.p x.v.toNat).app (twoF x.k.toNat x.i.toNat) := by
 unfold kidF zgi
 rw [h,if_neg (by decide),if_pos rfl];rfl
theorem kidF_else {x : Im} (h : pwB x.p = false) (h4 : x.p ≠ 4) : kidF x = idF2 x.p x.v.toNat := by
 unfold kidF zgi
 rw [h,if_neg (by decide),if_neg h4];rfl
set_option maxHeartbeats 6400000 in
set_option maxRecDepth 20000 in
theorem r_info_obj (x : Im) (hv : oneI x = 0) (w : World) : Calls Tryz.prog 78 #[.agg x.cs.toArray] w (InfoIs x w) := by
 obtain ⟨i0,hi,hz0,hz1,hz2⟩:=info_parts zcq
 obtain ⟨us,hus⟩ : ∃us,x.cs=us:=⟨_,rfl⟩
 have hb:=oneI_bd hv
 obtain ⟨p,hp⟩ : ∃p,x.p=p:=⟨_,rfl⟩
 obtain ⟨nv,hnv⟩ : ∃n,x.v.toNat=n:=⟨_,rfl⟩
 obtain ⟨na,hna⟩ : ∃n,x.a.toNat=n:=⟨_,rfl⟩
 obtain ⟨nk,hnk⟩ : ∃n,x.k.toNat=n:=⟨_,rfl⟩
 obtain ⟨ni,hni⟩ : ∃n,x.i.toNat=n:=⟨_,rfl⟩
 have HU := Lib.hid (show us.length = 5 ∧ us[0]? = some (.int .i64 p) ∧ us[1]? = some (.int .i64 (nv : Int)) ∧ us[2]? = some (.int .i64 (na : Int)) from by
  rw [←hus]
  exact ⟨rfl,by rw [←hp];rfl,by rw [←hnv,Int.toNat_of_nonneg (by omega)];rfl,by rw [←hna,Int.toNat_of_nonneg (by omega)];rfl⟩)
 have HK4 := Lib.hid (show us[3]? = some (.int .i64 (nk : Int)) ∧ us[4]? = some (.int .i64 (ni : Int)) ∧ nk < 4294967296 from by
  rw [←hus]
  exact ⟨by rw [←hnk,Int.toNat_of_nonneg (by omega)];rfl,by rw [←hni,Int.toNat_of_nonneg (by omega)];rfl,by omega⟩)
 have hkpw:=kidF_pw (x:=x)
 have hkch:=kidF_chip (x:=x)
 have hkel:=kidF_else (x:=x)
 rw [hp,hnv,hna] at hkpw
 rw [hp,hnv,hnk,hni] at hkch
 rw [hp,hnv] at hkel
 have hpp:=hb.1
 rw [hp] at hpp
 rw [hus]
 have HB:=Lib.hid (Below.refl w.heap.size w)
 obtain ⟨kf,hkf⟩ : ∃kf,kidF x=kf:=⟨_,rfl⟩
 have HIS:Hid (∀e w',(∃A2 c2,e=.returned (.agg (nodV 48 none 0 0 A2 kf.len c2).toArray)∧kf.len≤c2∧SeesN w' (newB w w') A2 kf∧Below w.heap.size w w')→InfoIs x w e w'):=Lib.hid (by unfold InfoIs;rw [hkf];exact fun e w' h=>h)
 rw [hkf] at hkpw hkch hkel
 clear hkf hus hb hv hp hnv hna hnk hni
 have hways:(p=2∨p=3)∨p=4∨(p=5∨p=6):=by omega
 rcases hways with hp | hp | hp
 · have HK := Lib.hid (hkpw (by rcases hp with rfl | rfl <;> rfl))
   have hd:(p==2)=true∨((p==2)=false∧(p==3)=true):=by rcases hp with rfl | rfl <;> decide
   clear hkpw hkch hkel hpp hp
   rcases hd with d2 | ⟨d2,d3⟩
   all_goals
    go_enter Tryz.func78,Tryz.ntmps78
    go_wp2_with (first
    | ((with_reducible refine zbl (d:=1) ?_);refine zax (op:=⟨some 1,_,_,_,_,_⟩) rfl 93 _ rfl us rfl ?_;intro g1 w1 hf hr;have H1:=Lib.hid (show _∧_∧_ from ⟨hf.bl HB.out,hr,hf.ge HB.out⟩);clear hf hr)
    | ((with_reducible refine zaG (d:=2) ?_);refine zam (op:=⟨some 2,_,_,_,_,_⟩) rfl 64 rfl zerN zcc ?_;intro g2 w2 hf hr;have H2:=Lib.hid (show _∧_∧_∧_∧_ from ⟨hf.bl H1.out.1,H1.out.2.1.fresh hf,hr,hf.ge H1.out.1,H1.out.2.1.ne hf⟩);clear hf hr))
    refine zbG (by kernel_rfl) _ w2 (fun c=>Below w2.heap.size w2 c∧RowV c g1 us) 100 (zef [fun u _=>u=.pointer (some ⟨g1,0,none⟩),fun u _=>u=.int .i64 p,OctS w2 (idL p) 9,NodF w2 6 (idL p) 9,fun u _=>u=.pointer (some ⟨g1,1,none⟩),fun u _=>u=.int .i64 (nv:Int),fun u _=>u=U (UInt8.ofNat nv),OctS w2 (octL nv 1) 1,NodF w2 2 (octL nv 1) 1,HelF w2 (idF2 p nv),HelF w2 (idF2 p nv)]) (by kernel_rfl) (zbR (by simp only [List.forall_mem_cons];exact ⟨zaq _,zaq _,OctS.firm _ _ _,NodF.firm _ _ _ _,zaq _,zaq _,zaq _,OctS.firm _ _ _,NodF.firm _ _ _ _,HelF.firm _ _,HelF.firm _ _,fun X h=>by cases h⟩)) (fun c c2 h hb=>⟨zaf h.1 hb,h.2.on hb⟩) (Below.refl _ _) ⟨Below.refl _ _,H2.out.2.1⟩ ?_ ?_
    · refine zch (allI.cons ?_ (allI.cons ?_ (allI.cons ?_ (allI.cons ?_ (allI.cons ?_ (allI.cons ?_ (allI.cons ?_ (allI.cons ?_ (allI.cons ?_ (allI.cons ?_ (allI.cons ?_ allI.nil))))))))))) <;> intro v S c a hI hw1 hX hSi hdep hS hC
      · exact o_fa _ (.tmp 1) 0 rfl (hS.old 1 rfl) (fa_x0 g1 _) (Step.still rfl)
      · exact o_ld _ (.tmp 4) rfl ((hS.get 0 (zad hdep 0 rfl) rfl rfl).trans (hX 0 (zad hdep 0 rfl))) ((hI.2.cell 0).trans HU.out.2.1) ag_i (Step.still rfl)
      · refine zaR (.func 101) 101 #[.tmp 5] _ rfl rfl (ev1 ((hS.get 1 (zad hdep 1 rfl) rfl rfl).trans (hX 1 (zad hdep 1 rfl)))) (by kernel_rfl) (r_ident p c) (fun e w9 h => ?_)
        obtain ⟨A2,c2,rfl,h2,h3,h4⟩:=h
        exact ⟨_,rfl,Step.new ⟨A2,c2,rfl,h2,h3.imp fun b hb=>zaH (w:=w2) hb hI.1.size (Nat.le_refl _)⟩ h4⟩
      · obtain ⟨A1, c1, e1, h1, hs1⟩ := (hX 2 (zad hdep 2 rfl))
        refine zaR (.func 39) 39 #[.const (.int .i64 6),.tmp 6] _ rfl rfl (ev2 rfl ((hS.get 2 (zad hdep 2 rfl) rfl rfl).trans e1)) (by kernel_rfl) (zca 6 (idL p) 9 (zdv p) (by decide) A1 c1 h1.1 c (hs1.imp fun b hb=>hb.2)) (fun e w9 h=>?_)
        obtain ⟨A2,c2,rfl,h2,h3,h4⟩:=h
        exact ⟨_,rfl,Step.new ⟨A2,c2,rfl,h2,h3.imp fun b hb=>zaH (w:=w2) hb hI.1.size (Nat.le_refl _)⟩ h4⟩
      · exact o_fa _ (.tmp 1) 1 rfl (hS.old 1 rfl) (fa_x1 g1 _) (Step.still rfl)
      · exact o_ld _ (.tmp 8) rfl ((hS.get 4 (zad hdep 4 rfl) rfl rfl).trans (hX 4 (zad hdep 4 rfl))) ((hI.2.cell 1).trans HU.out.2.2.1) ag_i (Step.still rfl)
      · exact o_cv _ _ (.tmp 9) rfl ((hS.get 5 (zad hdep 5 rfl) rfl rfl).trans (hX 5 (zad hdep 5 rfl))) (zeL nv _) (Step.still rfl)
      · refine zeI _ 5 1 _ rfl Tryz.underlying27 (pe1 ((hS.get 6 (zad hdep 6 rfl) rfl rfl).trans (hX 6 (zad hdep 6 rfl)))) (bsu1 _) ?_
        intro g w9 hf hr
        exact Step.new (OctS.lit1 hf hr hI.1.size) hf.bw
      · obtain ⟨A1, c1, e1, h1, hs1⟩ := (hX 7 (zad hdep 7 rfl))
        refine zaR (.func 39) 39 #[.const (.int .i64 2),.tmp 11] _ rfl rfl (ev2 rfl ((hS.get 7 (zad hdep 7 rfl) rfl rfl).trans e1)) (by kernel_rfl) (zca 2 (octL nv 1) 1 (zav _ _) (by decide) A1 c1 h1.1 c (hs1.imp fun b hb=>hb.2)) (fun e w9 h=>?_)
        obtain ⟨A2,c2,rfl,h2,h3,h4⟩:=h
        exact ⟨_,rfl,Step.new ⟨A2,c2,rfl,h2,h3.imp fun b hb=>zaH (w:=w2) hb hI.1.size (Nat.le_refl _)⟩ h4⟩
      · obtain ⟨A1, c1, e1, h1, hs1⟩ := (hX 3 (zad hdep 3 rfl))
        obtain ⟨A2,c2,e2,h2,hs2⟩:=(hX 8 (zad hdep 8 rfl))
        refine o_bslT _ 64 2 _ rfl Tryz.underlying30 (pe2 ((hS.get 3 (zad hdep 3 rfl) rfl rfl).trans e1) ((hS.get 8 (zad hdep 8 rfl) rfl rfl).trans e2)) (bs2 _ _ _ _ _ _) ?_
        intro g w9 hf hh
        exact Step.new (HeldN.lit2 hI.1.size hf hh (zdv p) (zav _ _) h1 h2 hs1 hs2) hf.bw
      · exact o_as _ rfl (hS.get 9 (zad hdep 9 rfl) rfl rfl) (Step.still (hX 9 (zad hdep 9 rfl)))
    · intro v w5 hI hX
      simp only [zbz,Act.put]
      simp
      obtain ⟨v3,hv3⟩ : ∃q,v 10=q:=⟨_,rfl⟩
      have hx3:=hX 10 (by decide)
      change HeldN w2 w5 (v 10) _ at hx3
      rw [hv3] at hx3 ⊢
      have H5:=Lib.hid (show HeldN w2 w5 v3 _∧Below w2.heap.size w2 w5∧RowV w5 g1 us from ⟨hx3,hI.1,hI.2⟩)
      have H5g := Lib.hid (show ∀ g, v3.ownBlock = some g → g1 ≠ g from by
       obtain ⟨cs,hc1,_⟩:=hx3
       intro g e
       have:=(zas hc1 g e).1
       have:=H2.out.2.1.lt
       omega)
      have c0:=(hI.2.cell 0).trans HU.out.2.1
      have c2:=(hI.2.cell 2).trans HU.out.2.2.2
      clear hI hX hv3 hx3
      go_wp2_with (first
       | ((with_reducible refine zal (d := 23) ?_); go_must (refine zap rfl 27 5 1 _ rfl Tryz.underlying27 (pe1 (show Act.eval _ _ = U (UInt8.ofNat na) from by rw [← u8_wrap]; rfl)) (bsu1 _) ?_); intro g6 w6 hf hr; have H6 := Lib.hid (show SeesP w6 (newB w5 w6) (some ⟨g6, 0, none⟩) (Us (octL na 1)) ∧ Below w5.heap.size w5 w6 from by
           obtain ⟨A1,c1,e1,h1,hs1⟩:=OctS.lit1 (w0:=w5) hf hr (Nat.le_refl _)
           cases e1
           exact ⟨hs1,hf.bw⟩);clear hf hr)
       | (go_at_call 39;((with_reducible refine (zca 2 (octL na 1) 1 (zav _ _) (by decide) (some ⟨g6,0,none⟩) 1 (some_no _ _) _ (H6.out.1.imp fun b hb=>newB_lt hb)).mono ?_);rintro e w7 ⟨A7,c7,rfl,h1,h2,h3⟩);have H7:=Lib.hid (show _∧SeesP w7 (newB w5 w7) A7 (Us (octL na 1))∧_ from ⟨h1,h2.imp fun b hb=>zaH (w:=w5) hb H6.out.2.size (Nat.le_refl _),zaf H6.out.2 h3⟩);clear h1 h2 h3)
       | ((with_reducible refine zal (d:=25) ?_);go_must (refine zap rfl 30 64 1 _ rfl Tryz.underlying30 (pe1 rfl) (bs1 _ _ _) ?_);intro g8 w8 hf hr;have H8:=Lib.hid (show _∧_ from ⟨hf,hr⟩);clear hf hr)
       | ((with_reducible refine zaS (d := 26) ?_); obtain ⟨cs, hc1, hc2⟩ := H5.out.1; go_must (refine wpList_append_lies _ rfl (.tmp 19) (.tmp 25) 30 rfl w2.heap.size 64 i0 _ 3 56 Tryz.underlying30 hi hz0 hz1 hz2 rfl (by decide) v3 2 cs rfl (zaI (zaI hc1 H7.out.2.2) H8.out.1.bw) ⟨g8, 0, none⟩ 1 1 (nodV 2 A7 1 c7 none 0 0) rfl rfl H8.out.2.src (zbK _ _ _ _ _ _ _) (by decide) (by unfold maxLen; omega) (by omega) (Nat.le_trans H5.out.2.1.size (Nat.le_trans H7.out.2.2.size H8.out.1.bw.size)) _ rfl ?_); intro g9 c9 w9 ho hg hl hlt9; have H9 := Lib.hid (show HeldN w2 w9 (.slice (some ⟨g9, 0, none⟩) 3 c9) kf ∧ Below w2.heap.size w2 w9 from by
           rw [HK.out]
           exact ⟨HeldN.joinF (wr:=w5) (w1:=w7) (wa:=w8) H7.out.2.2 H8.out.1.bw ⟨A7,c7,none,0,[],[],by rw [zav];rfl,⟨H7.out.1.1,by rw [zav];exact H7.out.1.2,Nat.le_refl _⟩,H7.out.2.1,.inl rfl,rfl,rfl⟩ H5.out.2.1.size cs hc1 hc2 rfl ho hg hl,zbo (zaf (zaf H5.out.2.1 H7.out.2.2) H8.out.1.bw) hg fun k e=>(zas hc1 k e).1⟩);clear ho hg hl hlt9 hc1 hc2)
       | (go_at_call 56;((with_reducible refine (zeO 48 _ _ _ _).mono ?_);rintro e w10 ⟨rfl,hb⟩);have H10:=Lib.hid hb;clear hb)
       | ((with_reducible refine zak (i:=2) ?_);obtain ⟨Aq,cq,eq9,hl9,hs9⟩:=HeldN.slice H9.out.1;go_must (refine zan rfl 64 (.tmp 2) (.tmp 42) rfl g2 zerN (nodV 48 none 0 0 Aq kf.len cq) rfl (by first | rfl | (injection eq9 with q1 q2 q3;rw [←q1,←q2,←q3];rfl) | (injection eq9 with q1 q2 q3;subst q1 q3;rfl)) ((H2.out.2.2.1.on H9.out.2).on H10.out) rfl (zbK _ _ _ _ _ _ _) zbV ?_);intro w12 hw hr;have H12:=Lib.hid (show _∧_∧_∧_ from ⟨hw,hr,hl9,hs9.newOn H10.out⟩);clear hw hr hl9 hs9))
      exact bodyPost_ret (zbA rfl _ _ g2 (nodV 48 none 0 0 Aq kf.len cq) _ rfl H12.out.2.1 Tryz.underlying64 rfl zbV) rfl (HIS.out _ _ ⟨_,cq,rfl,H12.out.2.2.1,SeesN.put H12.out.2.2.2 H12.out.1 H2.out.2.2.1.lt H2.out.1.size,Wr.bl (zaf (zaf H2.out.1 H9.out.2) H10.out) H12.out.1 H2.out.2.2.2.1⟩)
 · have HK := Lib.hid (hkch hp)
   have d2:(p==2)=false:=by subst hp;rfl
   have d3:(p==3)=false:=by subst hp;rfl
   have d4:(p==4)=true:=by subst hp;rfl
   clear hkpw hkch hkel hpp hp
   go_enter Tryz.func78,Tryz.ntmps78
   go_wp2_with (first
    | ((with_reducible refine zbl (d:=1) ?_);refine zax (op:=⟨some 1,_,_,_,_,_⟩) rfl 93 _ rfl us rfl ?_;intro g1 w1 hf hr;have H1:=Lib.hid (show _∧_∧_ from ⟨hf.bl HB.out,hr,hf.ge HB.out⟩);clear hf hr)
    | ((with_reducible refine zaG (d:=2) ?_);refine zam (op:=⟨some 2,_,_,_,_,_⟩) rfl 64 rfl zerN zcc ?_;intro g2 w2 hf hr;have H2:=Lib.hid (show _∧_∧_∧_∧_ from ⟨hf.bl H1.out.1,H1.out.2.1.fresh hf,hr,hf.ge H1.out.1,H1.out.2.1.ne hf⟩);clear hf hr))
   refine zbG (by kernel_rfl) _ w2 (fun c=>Below w2.heap.size w2 c∧RowV c g1 us) 100 (zef [fun u _=>u=.pointer (some ⟨g1,0,none⟩),fun u _=>u=.int .i64 p,OctS w2 (idL p) 9,NodF w2 6 (idL p) 9,fun u _=>u=.pointer (some ⟨g1,1,none⟩),fun u _=>u=.int .i64 (nv:Int),fun u _=>u=U (UInt8.ofNat nv),OctS w2 (octL nv 1) 1,NodF w2 2 (octL nv 1) 1,HelF w2 (idF2 p nv),HelF w2 (idF2 p nv)]) (by kernel_rfl) (zbR (by simp only [List.forall_mem_cons];exact ⟨zaq _,zaq _,OctS.firm _ _ _,NodF.firm _ _ _ _,zaq _,zaq _,zaq _,OctS.firm _ _ _,NodF.firm _ _ _ _,HelF.firm _ _,HelF.firm _ _,fun X h=>by cases h⟩)) (fun c c2 h hb=>⟨zaf h.1 hb,h.2.on hb⟩) (Below.refl _ _) ⟨Below.refl _ _,H2.out.2.1⟩ ?_ ?_
   · refine zch (allI.cons ?_ (allI.cons ?_ (allI.cons ?_ (allI.cons ?_ (allI.cons ?_ (allI.cons ?_ (allI.cons ?_ (allI.cons ?_ (allI.cons ?_ (allI.cons ?_ (allI.cons ?_ allI.nil))))))))))) <;> intro v S c a hI hw1 hX hSi hdep hS hC
     · exact o_fa _ (.tmp 1) 0 rfl (hS.old 1 rfl) (fa_x0 g1 _) (Step.still rfl)
     · exact o_ld _ (.tmp 4) rfl ((hS.get 0 (zad hdep 0 rfl) rfl rfl).trans (hX 0 (zad hdep 0 rfl))) ((hI.2.cell 0).trans HU.out.2.1) ag_i (Step.still rfl)
     · refine zaR (.func 101) 101 #[.tmp 5] _ rfl rfl (ev1 ((hS.get 1 (zad hdep 1 rfl) rfl rfl).trans (hX 1 (zad hdep 1 rfl)))) (by kernel_rfl) (r_ident p c) (fun e w9 h => ?_)
       obtain ⟨A2,c2,rfl,h2,h3,h4⟩:=h
       exact ⟨_,rfl,Step.new ⟨A2,c2,rfl,h2,h3.imp fun b hb=>zaH (w:=w2) hb hI.1.size (Nat.le_refl _)⟩ h4⟩
     · obtain ⟨A1, c1, e1, h1, hs1⟩ := (hX 2 (zad hdep 2 rfl))
       refine zaR (.func 39) 39 #[.const (.int .i64 6),.tmp 6] _ rfl rfl (ev2 rfl ((hS.get 2 (zad hdep 2 rfl) rfl rfl).trans e1)) (by kernel_rfl) (zca 6 (idL p) 9 (zdv p) (by decide) A1 c1 h1.1 c (hs1.imp fun b hb=>hb.2)) (fun e w9 h=>?_)
       obtain ⟨A2,c2,rfl,h2,h3,h4⟩:=h
       exact ⟨_,rfl,Step.new ⟨A2,c2,rfl,h2,h3.imp fun b hb=>zaH (w:=w2) hb hI.1.size (Nat.le_refl _)⟩ h4⟩
     · exact o_fa _ (.tmp 1) 1 rfl (hS.old 1 rfl) (fa_x1 g1 _) (Step.still rfl)
     · exact o_ld _ (.tmp 8) rfl ((hS.get 4 (zad hdep 4 rfl) rfl rfl).trans (hX 4 (zad hdep 4 rfl))) ((hI.2.cell 1).trans HU.out.2.2.1) ag_i (Step.still rfl)
     · exact o_cv _ _ (.tmp 9) rfl ((hS.get 5 (zad hdep 5 rfl) rfl rfl).trans (hX 5 (zad hdep 5 rfl))) (zeL nv _) (Step.still rfl)
     · refine zeI _ 5 1 _ rfl Tryz.underlying27 (pe1 ((hS.get 6 (zad hdep 6 rfl) rfl rfl).trans (hX 6 (zad hdep 6 rfl)))) (bsu1 _) ?_
       intro g w9 hf hr
       exact Step.new (OctS.lit1 hf hr hI.1.size) hf.bw
     · obtain ⟨A1, c1, e1, h1, hs1⟩ := (hX 7 (zad hdep 7 rfl))
       refine zaR (.func 39) 39 #[.const (.int .i64 2),.tmp 11] _ rfl rfl (ev2 rfl ((hS.get 7 (zad hdep 7 rfl) rfl rfl).trans e1)) (by kernel_rfl) (zca 2 (octL nv 1) 1 (zav _ _) (by decide) A1 c1 h1.1 c (hs1.imp fun b hb=>hb.2)) (fun e w9 h=>?_)
       obtain ⟨A2,c2,rfl,h2,h3,h4⟩:=h
       exact ⟨_,rfl,Step.new ⟨A2,c2,rfl,h2,h3.imp fun b hb=>zaH (w:=w2) hb hI.1.size (Nat.le_refl _)⟩ h4⟩
     · obtain ⟨A1, c1, e1, h1, hs1⟩ := (hX 3 (zad hdep 3 rfl))
       obtain ⟨A2,c2,e2,h2,hs2⟩:=(hX 8 (zad hdep 8 rfl))
       refine o_bslT _ 64 2 _ rfl Tryz.underlying30 (pe2 ((hS.get 3 (zad hdep 3 rfl) rfl rfl).trans e1) ((hS.get 8 (zad hdep 8 rfl) rfl rfl).trans e2)) (bs2 _ _ _ _ _ _) ?_
       intro g w9 hf hh
       exact Step.new (HeldN.lit2 hI.1.size hf hh (zdv p) (zav _ _) h1 h2 hs1 hs2) hf.bw
     · exact o_as _ rfl (hS.get 9 (zad hdep 9 rfl) rfl rfl) (Step.still (hX 9 (zad hdep 9 rfl)))
   · intro v w5 hI hX
     simp only [zbz,Act.put]
     simp
     obtain ⟨v3,hv3⟩ : ∃q,v 10=q:=⟨_,rfl⟩
     have hx3:=hX 10 (by decide)
     change HeldN w2 w5 (v 10) _ at hx3
     rw [hv3] at hx3 ⊢
     have H5:=Lib.hid (show HeldN w2 w5 v3 _∧Below w2.heap.size w2 w5∧RowV w5 g1 us from ⟨hx3,hI.1,hI.2⟩)
     have H5g := Lib.hid (show ∀ g, v3.ownBlock = some g → g1 ≠ g from by
      obtain ⟨cs,hc1,_⟩:=hx3
      intro g e
      have:=(zas hc1 g e).1
      have:=H2.out.2.1.lt
      omega)
     have c0:=(hI.2.cell 0).trans HU.out.2.1
     have c2:=(hI.2.cell 2).trans HU.out.2.2.2
     clear hI hX hv3 hx3
     go_wp2
     refine zbG (by kernel_rfl) _ w5 (fun c=>w5.heap.size≤c.heap.size∧Below w2.heap.size w2 c∧RowV c g1 us) 11 (zef [fun u _=>u=v3,fun u _=>u=.pointer (some ⟨g1,3,none⟩),fun u _=>u=.int .i64 (nk:Int),OctS w5 (octL nk 4) 4,NodF w5 4 (octL nk 4) 4,fun u _=>u=.pointer (some ⟨g1,4,none⟩),fun u _=>u=.int .i64 (ni:Int),fun u _=>u=U (UInt8.ofNat ni),OctS w5 (octL ni 1) 1,NodF w5 2 (octL ni 1) 1,TwoS w5 (twoF nk ni),HelF w2 ((idF2 p nv).app (twoF nk ni)),HelF w2 ((idF2 p nv).app (twoF nk ni))]) (by kernel_rfl) (zbR (by simp only [List.forall_mem_cons];exact ⟨zaq _,zaq _,zaq _,OctS.firm _ _ _,NodF.firm _ _ _ _,zaq _,zaq _,zaq _,OctS.firm _ _ _,NodF.firm _ _ _ _,TwoS.firm _ _,HelF.firm _ _,HelF.firm _ _,fun X h=>by cases h⟩)) (fun c c2 h hb=>⟨Nat.le_trans h.1 hb.size,zaf h.2.1 hb,h.2.2.on hb⟩) (Below.refl _ _) ⟨Nat.le_refl _,H5.out.2.1,H5.out.2.2⟩ ?_ ?_
     · refine zch (allI.cons ?_ (allI.cons ?_ (allI.cons ?_ (allI.cons ?_ (allI.cons ?_ (allI.cons ?_ (allI.cons ?_ (allI.cons ?_ (allI.cons ?_ (allI.cons ?_ (allI.cons ?_ (allI.cons ?_ (allI.cons ?_ allI.nil))))))))))))) <;> intro v S c a hI hw1 hX hSi hdep hS hC
       · exact o_mv _ rfl (hS.before hC hSi 3 rfl) (Step.still rfl)
       · exact o_fa _ (.tmp 1) 3 rfl (hS.old 1 rfl) (fa_x3 g1 _) (Step.still rfl)
       · exact o_ld _ (.tmp 30) rfl ((hS.get 1 (zad hdep 1 rfl) rfl rfl).trans (hX 1 (zad hdep 1 rfl))) ((hI.2.2.cell 3).trans HK4.out.1) ag_i (Step.still rfl)
       · refine zaR (.func 79) 79 #[.tmp 31] _ rfl rfl (ev1 ((hS.get 2 (zad hdep 2 rfl) rfl rfl).trans (hX 2 (zad hdep 2 rfl)))) (by kernel_rfl) (r_four_Jg nk HK4.out.2.2 c) (fun e w9 h => ?_)
         obtain ⟨A2,c2,rfl,h2,h3,h4⟩:=h
         exact ⟨_,rfl,Step.new ⟨A2,c2,rfl,h2,h3.imp fun b hb=>zaH (w:=w5) hb hI.1 (Nat.le_refl _)⟩ h4⟩
       · obtain ⟨A1, c1, e1, h1, hs1⟩ := (hX 3 (zad hdep 3 rfl))
         refine zaR (.func 39) 39 #[.const (.int .i64 4),.tmp 32] _ rfl rfl (ev2 rfl ((hS.get 3 (zad hdep 3 rfl) rfl rfl).trans e1)) (by kernel_rfl) (zca 4 (octL nk 4) 4 (zav _ _) (by decide) A1 c1 h1.1 c (hs1.imp fun b hb=>hb.2)) (fun e w9 h=>?_)
         obtain ⟨A2,c2,rfl,h2,h3,h4⟩:=h
         exact ⟨_,rfl,Step.new ⟨A2,c2,rfl,h2,h3.imp fun b hb=>zaH (w:=w5) hb hI.1 (Nat.le_refl _)⟩ h4⟩
       · exact o_fa _ (.tmp 1) 4 rfl (hS.old 1 rfl) (fa_x4 g1 _) (Step.still rfl)
       · exact o_ld _ (.tmp 34) rfl ((hS.get 5 (zad hdep 5 rfl) rfl rfl).trans (hX 5 (zad hdep 5 rfl))) ((hI.2.2.cell 4).trans HK4.out.2.1) ag_i (Step.still rfl)
       · exact o_cv _ _ (.tmp 35) rfl ((hS.get 6 (zad hdep 6 rfl) rfl rfl).trans (hX 6 (zad hdep 6 rfl))) (zeL ni _) (Step.still rfl)
       · refine zeI _ 5 1 _ rfl Tryz.underlying27 (pe1 ((hS.get 7 (zad hdep 7 rfl) rfl rfl).trans (hX 7 (zad hdep 7 rfl)))) (bsu1 _) ?_
         intro g w9 hf hr
         exact Step.new (OctS.lit1 hf hr hI.1) hf.bw
       · obtain ⟨A1, c1, e1, h1, hs1⟩ := (hX 8 (zad hdep 8 rfl))
         refine zaR (.func 39) 39 #[.const (.int .i64 2),.tmp 37] _ rfl rfl (ev2 rfl ((hS.get 8 (zad hdep 8 rfl) rfl rfl).trans e1)) (by kernel_rfl) (zca 2 (octL ni 1) 1 (zav _ _) (by decide) A1 c1 h1.1 c (hs1.imp fun b hb=>hb.2)) (fun e w9 h=>?_)
         obtain ⟨A2,c2,rfl,h2,h3,h4⟩:=h
         exact ⟨_,rfl,Step.new ⟨A2,c2,rfl,h2,h3.imp fun b hb=>zaH (w:=w5) hb hI.1 (Nat.le_refl _)⟩ h4⟩
       · obtain ⟨A1, c1, e1, h1, hs1⟩ := (hX 4 (zad hdep 4 rfl))
         obtain ⟨A2,c2,e2,h2,hs2⟩:=(hX 9 (zad hdep 9 rfl))
         refine zeI _ 64 2 _ rfl Tryz.underlying30 (pe2 ((hS.get 4 (zad hdep 4 rfl) rfl rfl).trans e1) ((hS.get 9 (zad hdep 9 rfl) rfl rfl).trans e2)) (bs2 _ _ _ _ _ _) ?_
         intro g w9 hf hr
         exact Step.new ⟨g,_,rfl,⟨by rw [hf.1];exact hI.1,hr.lt⟩,hr,HoldsN.two (zav _ _) (zav _ _) h1 h2 (hs1.newOn hf.bw) (hs2.newOn hf.bw)⟩ hf.bw
       · obtain ⟨g, ns, e2, h0, hr, hh⟩ := (hX 10 (zad hdep 10 rfl))
         obtain ⟨cs,hc1,hc2⟩:=H5.out.1
         have hB:=hw1 hSi
         refine wp_append_lies _ (.tmp 29) (.tmp 39) 30 rfl w2.heap.size 64 i0 _ 3 56 Tryz.underlying30 hi hz0 hz1 hz2 rfl (by decide) v3 2 cs ((hS.get 0 (zad hdep 0 rfl) rfl rfl).trans (hX 0 (zad hdep 0 rfl))) (zaI hc1 hB) ⟨g,0,none⟩ 2 2 ns ((hS.get 10 (zad hdep 10 rfl) rfl rfl).trans e2) (HoldsN.length hh) (RowV.src hr) (HoldsN.cells hh) (by decide) (by unfold maxLen;omega) (by omega) (Nat.le_trans H5.out.2.1.size hI.1) _ rfl ?_
         intro g' cap' w' ho hg hl hlt
         refine Step.turn (HeldN.joinF (wr:=w5) (w1:=c) (wa:=c) hB (Below.refl _ _) hh H5.out.2.1.size cs hc1 hc2 rfl ho hg hl) rfl ⟨Nat.le_trans hI.1 hg.size,zbo hI.2.1 hg (fun k e=>(zas hc1 k e).1),hI.2.2.same (hg.block _ hI.2.2.lt fun e=>H5g.out _ e.symm rfl)⟩ ?_
         intro j hj
         match j,hj with
         | 0,hj=>exact hX 0 hj
         | 1,hj=>exact hX 1 hj
         | 2,hj=>exact hX 2 hj
         | 3,hj=>exact OctS.row (hX 3 hj) hg fun k e=>(zas hc1 k e).2
         | 4,hj=>exact NodF.row (hX 4 hj) hg fun k e=>(zas hc1 k e).2
         | 5,hj=>exact hX 5 hj
         | 6,hj=>exact hX 6 hj
         | 7,hj=>exact hX 7 hj
         | 8,hj=>exact OctS.row (hX 8 hj) hg fun k e=>(zas hc1 k e).2
         | 9,hj=>exact NodF.row (hX 9 hj) hg fun k e=>(zas hc1 k e).2
         | 10,hj=>exact TwoS.row (hX 10 hj) hg fun k e=>(zas hc1 k e).2
         | 11,hj=>rw [hSi] at hj;cases hj
         | 12,hj=>have:=zad (hC 12 _ rfl hj) 11 rfl;rw [hSi] at this;cases this
         | _+13,_=>trivial
       · exact o_as _ rfl (hS.get 11 (zad hdep 11 rfl) rfl rfl) (Step.still (hX 11 (zad hdep 11 rfl)))
     · intro v c hI hX
       simp only [zbz,Act.put]
       simp
       have hx5:=hX 12 (by decide)
       change HeldN w2 c (v 12) _ at hx5
       rw [←HK.out] at hx5
       obtain ⟨v9,hv9⟩ : ∃q,v 12=q:=⟨_,rfl⟩
       rw [hv9] at hx5 ⊢
       obtain ⟨w9,hw9⟩ : ∃q,c=q:=⟨_,rfl⟩
       subst hw9
       obtain ⟨Aq,cq,rfl,_,_⟩:=HeldN.slice hx5
       have H9:=Lib.hid (show HeldN w2 c (.slice Aq kf.len cq) kf∧Below w2.heap.size w2 c from ⟨hx5,hI.2.1⟩)
       clear hX hI hx5 hv9
       go_wp2_with (first
        | (go_at_call 56;((with_reducible refine (zeO 48 _ _ _ _).mono ?_);rintro e w10 ⟨rfl,hb⟩);have H10:=Lib.hid hb;clear hb)
        | ((with_reducible refine zak (i:=2) ?_);obtain ⟨Aq,cq,eq9,hl9,hs9⟩:=HeldN.slice H9.out.1;go_must (refine zan rfl 64 (.tmp 2) (.tmp 42) rfl g2 zerN (nodV 48 none 0 0 Aq kf.len cq) rfl (by first | rfl | (injection eq9 with q1 q2 q3;rw [←q1,←q2,←q3];rfl) | (injection eq9 with q1 q2 q3;subst q1 q3;rfl)) ((H2.out.2.2.1.on H9.out.2).on H10.out) rfl (zbK _ _ _ _ _ _ _) zbV ?_);intro w12 hw hr;have H12:=Lib.hid (show _∧_∧_∧_ from ⟨hw,hr,hl9,hs9.newOn H10.out⟩);clear hw hr hl9 hs9))
       exact bodyPost_ret (zbA rfl _ _ g2 (nodV 48 none 0 0 Aq kf.len cq) _ rfl H12.out.2.1 Tryz.underlying64 rfl zbV) rfl (HIS.out _ _ ⟨_,cq,rfl,H12.out.2.2.1,SeesN.put H12.out.2.2.2 H12.out.1 H2.out.2.2.1.lt H2.out.1.size,Wr.bl (zaf (zaf H2.out.1 H9.out.2) H10.out) H12.out.1 H2.out.2.2.2.1⟩)
 · have HK := Lib.hid (hkel (by rcases hp with rfl | rfl <;> rfl) (by rcases hp with rfl | rfl <;> decide))
   have d2:(p==2)=false:=by rcases hp with rfl | rfl <;> rfl
   have d3:(p==3)=false:=by rcases hp with rfl | rfl <;> rfl
   have d4:(p==4)=false:=by rcases hp with rfl | rfl <;> rfl
   clear hkpw hkch hkel hpp hp
   go_enter Tryz.func78,Tryz.ntmps78
   go_wp2_with (first
    | ((with_reducible refine zbl (d:=1) ?_);refine zax (op:=⟨some 1,_,_,_,_,_⟩) rfl 93 _ rfl us rfl ?_;intro g1 w1 hf hr;have H1:=Lib.hid (show _∧_∧_ from ⟨hf.bl HB.out,hr,hf.ge HB.out⟩);clear hf hr)
    | ((with_reducible refine zaG (d:=2) ?_);refine zam (op:=⟨some 2,_,_,_,_,_⟩) rfl 64 rfl zerN zcc ?_;intro g2 w2 hf hr;have H2:=Lib.hid (show _∧_∧_∧_∧_ from ⟨hf.bl H1.out.1,H1.out.2.1.fresh hf,hr,hf.ge H1.out.1,H1.out.2.1.ne hf⟩);clear hf hr))
   refine zbG (by kernel_rfl) _ w2 (fun c=>Below w2.heap.size w2 c∧RowV c g1 us) 100 (zef [fun u _=>u=.pointer (some ⟨g1,0,none⟩),fun u _=>u=.int .i64 p,OctS w2 (idL p) 9,NodF w2 6 (idL p) 9,fun u _=>u=.pointer (some ⟨g1,1,none⟩),fun u _=>u=.int .i64 (nv:Int),fun u _=>u=U (UInt8.ofNat nv),OctS w2 (octL nv 1) 1,NodF w2 2 (octL nv 1) 1,HelF w2 (idF2 p nv),HelF w2 (idF2 p nv)]) (by kernel_rfl) (zbR (by simp only [List.forall_mem_cons];exact ⟨zaq _,zaq _,OctS.firm _ _ _,NodF.firm _ _ _ _,zaq _,zaq _,zaq _,OctS.firm _ _ _,NodF.firm _ _ _ _,HelF.firm _ _,HelF.firm _ _,fun X h=>by cases h⟩)) (fun c c2 h hb=>⟨zaf h.1 hb,h.2.on hb⟩) (Below.refl _ _) ⟨Below.refl _ _,H2.out.2.1⟩ ?_ ?_
   · refine zch (allI.cons ?_ (allI.cons ?_ (allI.cons ?_ (allI.cons ?_ (allI.cons ?_ (allI.cons ?_ (allI.cons ?_ (allI.cons ?_ (allI.cons ?_ (allI.cons ?_ (allI.cons ?_ allI.nil))))))))))) <;> intro v S c a hI hw1 hX hSi hdep hS hC
     · exact o_fa _ (.tmp 1) 0 rfl (hS.old 1 rfl) (fa_x0 g1 _) (Step.still rfl)
     · exact o_ld _ (.tmp 4) rfl ((hS.get 0 (zad hdep 0 rfl) rfl rfl).trans (hX 0 (zad hdep 0 rfl))) ((hI.2.cell 0).trans HU.out.2.1) ag_i (Step.still rfl)
     · refine zaR (.func 101) 101 #[.tmp 5] _ rfl rfl (ev1 ((hS.get 1 (zad hdep 1 rfl) rfl rfl).trans (hX 1 (zad hdep 1 rfl)))) (by kernel_rfl) (r_ident p c) (fun e w9 h => ?_)
       obtain ⟨A2,c2,rfl,h2,h3,h4⟩:=h
       exact ⟨_,rfl,Step.new ⟨A2,c2,rfl,h2,h3.imp fun b hb=>zaH (w:=w2) hb hI.1.size (Nat.le_refl _)⟩ h4⟩
     · obtain ⟨A1, c1, e1, h1, hs1⟩ := (hX 2 (zad hdep 2 rfl))
       refine zaR (.func 39) 39 #[.const (.int .i64 6),.tmp 6] _ rfl rfl (ev2 rfl ((hS.get 2 (zad hdep 2 rfl) rfl rfl).trans e1)) (by kernel_rfl) (zca 6 (idL p) 9 (zdv p) (by decide) A1 c1 h1.1 c (hs1.imp fun b hb=>hb.2)) (fun e w9 h=>?_)
       obtain ⟨A2,c2,rfl,h2,h3,h4⟩:=h
       exact ⟨_,rfl,Step.new ⟨A2,c2,rfl,h2,h3.imp fun b hb=>zaH (w:=w2) hb hI.1.size (Nat.le_refl _)⟩ h4⟩
     · exact o_fa _ (.tmp 1) 1 rfl (hS.old 1 rfl) (fa_x1 g1 _) (Step.still rfl)
     · exact o_ld _ (.tmp 8) rfl ((hS.get 4 (zad hdep 4 rfl) rfl rfl).trans (hX 4 (zad hdep 4 rfl))) ((hI.2.cell 1).trans HU.out.2.2.1) ag_i (Step.still rfl)
     · exact o_cv _ _ (.tmp 9) rfl ((hS.get 5 (zad hdep 5 rfl) rfl rfl).trans (hX 5 (zad hdep 5 rfl))) (zeL nv _) (Step.still rfl)
     · refine zeI _ 5 1 _ rfl Tryz.underlying27 (pe1 ((hS.get 6 (zad hdep 6 rfl) rfl rfl).trans (hX 6 (zad hdep 6 rfl)))) (bsu1 _) ?_
       intro g w9 hf hr
       exact Step.new (OctS.lit1 hf hr hI.1.size) hf.bw
     · obtain ⟨A1, c1, e1, h1, hs1⟩ := (hX 7 (zad hdep 7 rfl))
       refine zaR (.func 39) 39 #[.const (.int .i64 2),.tmp 11] _ rfl rfl (ev2 rfl ((hS.get 7 (zad hdep 7 rfl) rfl rfl).trans e1)) (by kernel_rfl) (zca 2 (octL nv 1) 1 (zav _ _) (by decide) A1 c1 h1.1 c (hs1.imp fun b hb=>hb.2)) (fun e w9 h=>?_)
       obtain ⟨A2,c2,rfl,h2,h3,h4⟩:=h
       exact ⟨_,rfl,Step.new ⟨A2,c2,rfl,h2,h3.imp fun b hb=>zaH (w:=w2) hb hI.1.size (Nat.le_refl _)⟩ h4⟩
     · obtain ⟨A1, c1, e1, h1, hs1⟩ := (hX 3 (zad hdep 3 rfl))
       obtain ⟨A2,c2,e2,h2,hs2⟩:=(hX 8 (zad hdep 8 rfl))
       refine o_bslT _ 64 2 _ rfl Tryz.underlying30 (pe2 ((hS.get 3 (zad hdep 3 rfl) rfl rfl).trans e1) ((hS.get 8 (zad hdep 8 rfl) rfl rfl).trans e2)) (bs2 _ _ _ _ _ _) ?_
       intro g w9 hf hh
       exact Step.new (HeldN.lit2 hI.1.size hf hh (zdv p) (zav _ _) h1 h2 hs1 hs2) hf.bw
     · exact o_as _ rfl (hS.get 9 (zad hdep 9 rfl) rfl rfl) (Step.still (hX 9 (zad hdep 9 rfl)))
   · intro v w5 hI hX
     simp only [zbz,Act.put]
     simp
     obtain ⟨v3,hv3⟩ : ∃q,v 10=q:=⟨_,rfl⟩
     have hx3:=hX 10 (by decide)
     change HeldN w2 w5 (v 10) _ at hx3
     rw [hv3] at hx3 ⊢
     have H5:=Lib.hid (show HeldN w2 w5 v3 _∧Below w2.heap.size w2 w5∧RowV w5 g1 us from ⟨hx3,hI.1,hI.2⟩)
     have H5g := Lib.hid (show ∀ g, v3.ownBlock = some g → g1 ≠ g from by
      obtain ⟨cs,hc1,_⟩:=hx3
      intro g e
      have:=(zas hc1 g e).1
      have:=H2.out.2.1.lt
      omega)
     have c0:=(hI.2.cell 0).trans HU.out.2.1
     have c2:=(hI.2.cell 2).trans HU.out.2.2.2
     clear hI hX hv3 hx3
     have H9:=Lib.hid (show HeldN w2 w5 v3 kf∧Below w2.heap.size w2 w5 from ⟨by rw [HK.out];exact H5.out.1,H5.out.2.1⟩)
     obtain ⟨Aq,cq,rfl,_,_⟩:=HeldN.slice H9.out.1
     go_wp2_with (first
      | (go_at_call 56; ((with_reducible refine (zeO 48 _ _ _ _).mono ?_); rintro e w10 ⟨rfl, hb⟩); have H10 := Lib.hid hb; clear hb)
        | ((with_reducible refine zak (i:=2) ?_);obtain ⟨Aq,cq,eq9,hl9,hs9⟩:=HeldN.slice H9.out.1;go_must (refine zan rfl 64 (.tmp 2) (.tmp 42) rfl g2 zerN (nodV 48 none 0 0 Aq kf.len cq) rfl (by first | rfl | (injection eq9 with q1 q2 q3;rw [←q1,←q2,←q3];rfl) | (injection eq9 with q1 q2 q3;subst q1 q3;rfl)) ((H2.out.2.2.1.on H9.out.2).on H10.out) rfl (zbK _ _ _ _ _ _ _) zbV ?_);intro w12 hw hr;have H12:=Lib.hid (show _∧_∧_∧_ from ⟨hw,hr,hl9,hs9.newOn H10.out⟩);clear hw hr hl9 hs9))
     exact bodyPost_ret (zbA rfl _ _ g2 (nodV 48 none 0 0 Aq kf.len cq) _ rfl H12.out.2.1 Tryz.underlying64 rfl zbV) rfl (HIS.out _ _ ⟨_,cq,rfl,H12.out.2.2.1,SeesN.put H12.out.2.2.2 H12.out.1 H2.out.2.2.1.lt H2.out.1.size,Wr.bl (zaf (zaf H2.out.1 H9.out.2) H10.out) H12.out.1 H2.out.2.2.2.1⟩)
end Go.Proofs.YtnlhbknajdpnbaaGreatDoor
