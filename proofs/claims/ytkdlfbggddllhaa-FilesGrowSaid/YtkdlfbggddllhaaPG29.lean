/-
  What is proved here: the laws' own check (a free file of the root is selected and read), and that all functions of the program agree with the reference.
-/
import Derived.Test.YtkdlfbggddllhaaPG28
import Derived.Laws.StructEq
import Derived.BigQuiet
set_option linter.unusedVariables false
set_option linter.unusedSimpArgs false
namespace Go.Proofs.Ytkdlfbggddllhaa
open Go.RowKit
set_option maxRecDepth 8000
def fA (g:Nat):Fw:=⟨5,0,some ⟨g,0,none⟩,2,0,0,[7,8]⟩
def gA (g1 g2:Nat):Gw:=⟨some ⟨g2,0,none⟩,1,[fA g1],none,0,[]⟩
def st0:Sta:=⟨0,false,false,false,0⟩
theorem bs78:Try.prog.builtSlice 5 2 [(0,.int .u8 7),(1,.int .u8 8)]=some (Us [7,8]).toArray:=by kernel_rfl
theorem bldFA (g:Nat):Try.prog.built 60 [(0,.int .i64 5),(2,.slice (some ⟨g,0,none⟩) 2 2)]=some (fA g).cs.toArray:=by kernel_rfl
theorem bsFA (g:Nat):Try.prog.builtSlice 60 1 [(0,.agg (fA g).cs.toArray)]=some (fA g).cs.toArray:=by kernel_rfl
theorem bldGA (g1 g2:Nat):Try.prog.built 25 [(0,.slice (some ⟨g2,0,none⟩) 1 1)]=some (gA g1 g2).cs.toArray:=by kernel_rfl
theorem bld_st0:Try.prog.built 29 []=some st0.cs.toArray:=by kernel_rfl
def gwZ:List Value:=[.slice none 0 0,.slice none 0 0]
theorem info_gwz:(Try.prog.info? 25).map (·.zero)=some (some (.agg gwZ.toArray)):=by kernel_rfl
theorem pe02 {a : Act} {x0 x1 : Operand} {u0 u1 : Value} (h0 : a.eval x0 = u0) (h1 : a.eval x1 = u1) :
 ((#[(0,x0),(2,x1)]:Array (Nat×Operand)).map fun (i,x)=>(i,a.eval x)).toList=[(0,u0),(2,u1)]:=by simp [h0,h1]
theorem pe1v {a : Act} {x0 : Operand} {u0 : Value} (h0 : a.eval x0 = u0) :
 ((#[(0,x0)]:Array (Nat×Operand)).map fun (i,x)=>(i,a.eval x)).toList=[(0,u0)]:=by simp [h0]
theorem gA_id (g1 g2:Nat):fndE (gA g1 g2) (-1) (-1) (idB 5)=0∧fndP (gA g1 g2) (-1) (-1) (idB 5)=(-1,0):=⟨by kernel_rfl,by kernel_rfl⟩
theorem gA_red (g1 g2:Nat):redE (gA g1 g2) (-1) 0 st0 1 9=0∧redV (gA g1 g2) (-1) 0 st0 1 9=[8]∧redB (gA g1 g2) (-1) 0 st0 1 9=true:=⟨by kernel_rfl,by kernel_rfl,by kernel_rfl⟩
theorem gA_sees {w w1 w2 : World} {g1 g2 : Nat} (h1 : RowV w1 g1 (Us [7, 8])) (hf : Fresh w1 w2 g2) (h2 : RowV w2 g2 (fA g1).cs) : SeesW w2 (· < w2.heap.size) (gA g1 g2) := by
 have hr1:=h1.fresh hf
 refine ⟨⟨.inr ⟨g2,0,rfl,h2.lt,fun j hj=>by rw [Nat.zero_add,h2.cell];exact congrArg (·[j]?) (List.append_nil _).symm⟩,fun x hx=>?_,Nat.le_refl _,fun h=>by cases h⟩,SeesK.nil_⟩
 rw [List.mem_singleton.1 hx]
 exact ⟨.inr ⟨g1,0,rfl,hr1.lt,fun j hj=>by rw [Nat.zero_add,hr1.cell];rfl⟩,Nat.le_refl _,fun h=>by cases h⟩
def AwkI (w:World) (G:Gw):Prop:=Calls Try.prog 29 #[.agg G.cs.toArray,.agg (plV (-1) (-1)).toArray,.int .i64 5] w fun e w'=>e=.returned (.tuple #[.agg (plV (-1) 0).toArray,.int .i64 0])∧Below w.heap.size w w'
def AwkR (w:World) (G:Gw):Prop:=Calls Try.prog 20 #[.agg G.cs.toArray,.agg (plV (-1) 0).toArray,.agg st0.cs.toArray,.int .i64 1,.int .i64 9] w fun e w'=>∃b o c,e=.returned (.tuple #[.slice (some ⟨b,o,none⟩) 1 c,.bool true,.int .i64 0])∧w'.cell? ⟨b,o,none⟩=some (.int .u8 8)∧Below w.heap.size w w'
theorem awk_i {w : World} (g1 g2 : Nat) (hs : SeesW w (· < w.heap.size) (gA g1 g2)) : AwkI w (gA g1 g2) := by
 have h:=p_id17 (gA g1 g2) (-1) (-1) 5 w hs
 unfold FndIs at h
 rw [(gA_id g1 g2).1,(gA_id g1 g2).2] at h
 exact h
theorem awk_r {w : World} (g1 g2 : Nat) (hs : SeesW w (· < w.heap.size) (gA g1 g2)) : AwkR w (gA g1 g2) := by
 refine (p_read (gA g1 g2) (-1) 0 st0 1 9 (by decide) (by decide) w hs).mono fun e w' h=>?_
 obtain ⟨A,c,e1,h0,h1,h2⟩:=h
 rw [(gA_red g1 g2).1,(gA_red g1 g2).2.1,(gA_red g1 g2).2.2] at e1
 rw [(gA_red g1 g2).2.1] at h1
 rcases h1 with h1 | ⟨b,o,rfl,_,hc⟩
 · cases h1
 · exact ⟨b,o,c,e1,hc 0 (by decide),h2⟩
set_option maxHeartbeats 6400000 in
theorem awake17 (w : World) : Calls Try.prog 10 #[] w fun e w' => e = .returned (.bool true) ∧ Below w.heap.size w w' := by
 have HI:=Lib.hid (fun (u:World) (g1 g2:Nat) (hs:SeesW u (· < u.heap.size) (gA g1 g2))=>awk_i g1 g2 hs)
 have HR:=Lib.hid (fun (u:World) (g1 g2:Nat) (hs:SeesW u (· < u.heap.size) (gA g1 g2))=>awk_r g1 g2 hs)
 unfold AwkI at HI
 unfold AwkR at HR
 go_enter Try.func10,Try.ntmps10
 go_wp2_with (first
  | ((with_reducible refine zal (d:=7) ?_);go_must (refine zbg rfl 45 5 2 _ rfl Try.underlying45 (pe2v rfl rfl) bs78 ?_);intro g1 w1 hf hr;have H1:=Lib.hid (show Below w.heap.size w w1∧RowV w1 g1 (Us [7,8]) from ⟨hf.bw,hr⟩);clear hf hr)
  | ((with_reducible refine zal (d:=8) ?_);go_must (refine zai rfl 60 _ rfl (pe02 rfl rfl) (bldFA g1) ?_))
  | ((with_reducible refine zal (d:=9) ?_);go_must (refine zbg rfl 22 60 1 _ rfl Try.underlying22 (pe1v rfl) (bsFA g1) ?_);intro g2 w2 hf hr;have H2:=Lib.hid (show Below w.heap.size w w2∧SeesW w2 (· < w2.heap.size) (gA g1 g2) from ⟨hf.bl H1.out.1,gA_sees (w:=w) H1.out.2 hf hr⟩);clear hf hr)
  | ((with_reducible refine zal (d:=10) ?_);go_must (refine zai rfl 25 _ rfl (pe1v rfl) (bldGA g1 g2) ?_))
  | ((with_reducible refine zaj (d:=1) ?_);refine zae (op:=⟨some 1,_,_,_,_,_⟩) rfl 25 rfl gwZ info_gwz ?_;intro g3 w3 hf hr;have H3:=Lib.hid (show Below w.heap.size w w3∧SeesW w3 (· < w3.heap.size) (gA g1 g2)∧RowV w3 g3 gwZ∧w.heap.size≤g3∧Below w2.heap.size w2 w3∧w2.heap.size≤g3 from ⟨hf.bl H2.out.1,H2.out.2.on hf.bw,hr,hf.ge H2.out.1,hf.bw,by rw [hf.1];exact Nat.le_refl _⟩);clear hf hr)
  | ((with_reducible refine zah (i:=1) ?_);go_must (refine zaf rfl 25 (.tmp 1) _ rfl g3 gwZ (gA g1 g2).cs rfl rfl H3.out.2.2.1 rfl (Gw.cs_one _) zas ?_);intro w4 hw hr;have H4:=Lib.hid (show Below w.heap.size w w4∧SeesW w4 (· < w4.heap.size) (gA g1 g2)∧RowV w4 g3 (gA g1 g2).cs from ⟨Wr.bl H3.out.1 hw H3.out.2.2.2.1,H2.out.2.on (Wr.bl H3.out.2.2.2.2.1 hw H3.out.2.2.2.2.2),hr⟩);clear hw hr)
  | ((with_reducible refine zac (d:=12) ?_);go_must (refine zab rfl 25 (.tmp 1) rfl g3 rfl (gA g1 g2).cs _ H4.out.2.2 Try.underlying25 rfl zas ?_))
  | ((with_reducible refine zal (d:=13) ?_);go_must (refine zai rfl 27 _ rfl (pe2v rfl rfl) (bld_pl (-1) (-1)) ?_))
  | (go_at_call 29;((with_reducible refine (HI.out _ g1 g2 H4.out.2.1).mono ?_);rintro e w5 ⟨rfl,h⟩);have H5:=Lib.hid (show Below w.heap.size w w5∧SeesW w5 (· < w5.heap.size) (gA g1 g2)∧RowV w5 g3 (gA g1 g2).cs from ⟨zad H4.out.1 h,H4.out.2.1.on h,H4.out.2.2.on h⟩);clear h)
  | ((with_reducible refine zaj (d:=2) ?_);refine zae (op:=⟨some 2,_,_,_,_,_⟩) rfl 27 rfl (plV 0 0) zbf ?_;intro g6 w6 hf hr;have H6:=Lib.hid (show Below w.heap.size w w6∧RowV w6 g3 (gA g1 g2).cs∧RowV w6 g6 (plV 0 0)∧w.heap.size≤g6∧Below w5.heap.size w5 w6∧w5.heap.size≤g6∧g3≠g6 from ⟨hf.bl H5.out.1,H5.out.2.2.fresh hf,hr,hf.ge H5.out.1,hf.bw,by rw [hf.1];exact Nat.le_refl _,H5.out.2.2.ne hf⟩);clear hf hr)
  | ((with_reducible refine zah (i:=2) ?_);go_must (refine zaf rfl 27 (.tmp 2) _ rfl g6 (plV 0 0) (plV (-1) 0) rfl rfl H6.out.2.2.1 rfl (pl_one _ _) zam ?_);intro w7 hw hr;have H7:=Lib.hid (show Below w.heap.size w w7∧SeesW w7 (· < w7.heap.size) (gA g1 g2)∧RowV w7 g3 (gA g1 g2).cs∧RowV w7 g6 (plV (-1) 0) from ⟨Wr.bl H6.out.1 hw H6.out.2.2.2.1,H5.out.2.1.on (Wr.bl H6.out.2.2.2.2.1 hw H6.out.2.2.2.2.2.1),H6.out.2.1.wr hw H6.out.2.2.2.2.2.2,hr⟩);clear hw hr)
  | ((with_reducible refine zac (d:=18) ?_);go_must (refine zab rfl 25 (.tmp 1) rfl g3 rfl (gA g1 g2).cs _ H7.out.2.2.1 Try.underlying25 rfl zas ?_))
  | ((with_reducible refine zac (d:=19) ?_);go_must (refine zab rfl 27 (.tmp 2) rfl g6 rfl (plV (-1) 0) _ H7.out.2.2.2 Try.underlying27 rfl zam ?_))
  | ((with_reducible refine zal (d:=20) ?_);go_must (refine zai rfl 29 _ rfl pe0 bld_st0 ?_))
  | (go_at_call 20;((with_reducible refine (HR.out _ g1 g2 H7.out.2.1).mono ?_);rintro e w8 ⟨b,o,c,rfl,hc,h⟩);have H8:=Lib.hid (zad H7.out.1 h);clear h))
 go_ret
 exact ⟨rfl,H8.out⟩
end Go.Proofs.Ytkdlfbggddllhaa
