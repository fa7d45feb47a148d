/-
  What is proved here: which infos are valid, by the program.
-/
import Derived.Test.YtnlhbknajdpnbaaGreatDoorF0
import Derived.Test.YtnlhbknajdpnbaaGreatDoorF11
import Derived.Test.YtnlhbknajdpnbaaGreatDoorF12
import Derived.Test.YtnlhbknajdpnbaaGreatDoorF14
import Derived.Test.YtnlhbknajdpnbaaGreatDoorRows
import Derived.Test.YtnlhbknajdpnbaaGreatDoorF15
import Derived.Test.YtnlhbknajdpnbaaGreatDoorF9
import Derived.BigQuiet
import Derived.Lib.Strings
import Derived.Lib.Slices
import Derived.Lib.Small
import Derived.Lib.Walk
import Derived.Lib.BitFns
import Derived.Deep.RegionWith
import Derived.Laws.ResultCell
import Derived.Laws.Rows
import Derived.ProofKit
import Derived.OpenShut
import Derived.ShutString
import Derived.ChangeOld
import Derived.SizedLaws
import Derived.Deep.CutRange
import Derived.Laws.AppendOwnNone
import Derived.Deep.RegionLaw
import Derived.Deep.AppendLies
import Derived.Lib.AppendZerosOnto
import Derived.Deep.DeepMust
import Derived.Test.YtnlhbknajdpnbaaGreatDoorF16
import Derived.Test.YtnlhbknajdpnbaaGreatDoorF13
import Derived.Test.YtnlhbknajdpnbaaGreatDoorF3
import Derived.Test.YtnlhbknajdpnbaaGreatDoorF5
import Derived.Test.YtnlhbknajdpnbaaGreatDoorF4
set_option linter.unusedVariables false
set_option linter.unusedSimpArgs false
namespace Go.Proofs.YtnlhbknajdpnbaaGreatDoor
open Go.RowKit
set_option maxRecDepth 8000
def zerX:List Value:=[.int .i64 0,.int .i64 0,.int .i64 0,.int .i64 0,.int .i64 0]
theorem zcp:(Tryz.prog.info? 93).map (·.zero)=some (some (.agg zerX.toArray)):=by kernel_rfl
theorem zaT:(Tryz.prog.info? 93).map (·.size)=some 5:=by kernel_rfl
end Go.Proofs.YtnlhbknajdpnbaaGreatDoor
namespace Go.Proofs.YtnlhbknajdpnbaaGreatDoor
open Go.RowKit
set_option maxRecDepth 8000
theorem ix_x (g o n c k : Nat) (hk : k < n) (w : World) : (Instr.indexAt 55 (.slice (some ⟨g, o, none⟩) n c) (.int .i64 (k : Int))).run Tryz.prog w = .ok (.pointer (some ⟨g, o + k * 5, none⟩)) w := by
 have h0:(k:Int) < (n:Int):=by omega
 have h1:(0:Int)≤(k:Int):=by omega
 simp [go_sem,Addr.add,h0,h1]
end Go.Proofs.YtnlhbknajdpnbaaGreatDoor
namespace Go.Proofs.YtnlhbknajdpnbaaGreatDoor
open Go.RowKit
set_option maxRecDepth 8000
def Ncs (b : Nat) : List (Int × Nat × Nat) → List Value
 | []=>[]
 | (t,s,c)::r=>.int .i64 t::.int .i64 (s:Int)::.pointer (some ⟨b,c,none⟩)::Ncs b r
theorem fa_x0 (g:Nat) (w:World):(Instr.fieldAt 93 (.pointer (some ⟨g,0,none⟩)) 0).run Tryz.prog w=.ok (.pointer (some ⟨g,0,none⟩)) w:=by kernel_rfl
theorem fa_x3 (g:Nat) (w:World):(Instr.fieldAt 93 (.pointer (some ⟨g,0,none⟩)) 3).run Tryz.prog w=.ok (.pointer (some ⟨g,3,none⟩)) w:=by kernel_rfl
theorem fa_x4 (g:Nat) (w:World):(Instr.fieldAt 93 (.pointer (some ⟨g,0,none⟩)) 4).run Tryz.prog w=.ok (.pointer (some ⟨g,4,none⟩)) w:=by kernel_rfl
def NumS (w0:World) (b:Nat) (u:Value) (c:World):Prop:=∃g,u=.slice (some ⟨g,0,none⟩) 2 2∧newB w0 c g∧RowV c g (Ncs b [(4,4,3),(2,1,4)])
theorem NumS.firm (w0 : World) (b : Nat) : Firm (NumS w0 b) := by
 rintro u c c' ⟨g,h1,h2,h3⟩ hb
 exact ⟨g,h1,⟨h2.1,Nat.lt_of_lt_of_le h2.2 hb.size⟩,h3.on hb⟩
theorem NumS.row {w0 : World} {b : Nat} {u : Value} {c c' : World} {v : Value} (h : NumS w0 b u c) (hg : c.grownBy c' v.ownBlock) (hv : ∀ g, v.ownBlock = some g → g < w0.heap.size) : NumS w0 b u c' := by
 obtain ⟨g,h1,h2,h3⟩:=h
 refine ⟨g,h1,⟨h2.1,Nat.lt_of_lt_of_le h2.2 hg.size⟩,h3.same (hg.block _ h2.2 fun e=>?_)⟩
 have:=hv _ e.symm
 have:=h2.1
 omega
end Go.Proofs.YtnlhbknajdpnbaaGreatDoor
namespace Go.Proofs.YtnlhbknajdpnbaaGreatDoor
open Go.RowKit
set_option maxRecDepth 8000
theorem numsI_len (p : Int) : 1 ≤ (zgi p).length ∧ (zgi p).length ≤ 3 := by
 unfold zgi
 split
 · exact ⟨by decide,by decide⟩
 · split <;> exact ⟨by decide,by decide⟩
def OctT (w0:World) (x:List UInt8) (n:Nat) (u:Value) (c:World):Prop:=∃A cv,u=.tuple #[.slice A n cv,.int .i64 0]∧((A=none→cv=0)∧n≤cv)∧SeesP c (newB w0 c) A (Us x)
def OctS (w0:World) (x:List UInt8) (n:Nat) (u:Value) (c:World):Prop:=∃A cv,u=.slice A n cv∧((A=none→cv=0)∧n≤cv)∧SeesP c (newB w0 c) A (Us x)
theorem OctT.firm (w0 : World) (x : List UInt8) (n : Nat) : Firm (OctT w0 x n) := by
 rintro u c c' ⟨A,cv,h1,h2,h3⟩ hb
 exact ⟨A,cv,h1,h2,h3.newOn hb⟩
theorem OctS.firm (w0 : World) (x : List UInt8) (n : Nat) : Firm (OctS w0 x n) := by
 rintro u c c' ⟨A,cv,h1,h2,h3⟩ hb
 exact ⟨A,cv,h1,h2,h3.newOn hb⟩
def NumK (w4 w5:World) (v:Value) (c:World):Prop:=(∀k,v.ownBlock=some k→k < w4.heap.size∨w5.heap.size≤k)∧(∀k,w4.heap.size≤k→k < w5.heap.size→c.heap[k]? = w5.heap[k]?)∧w5.heap.size≤c.heap.size
theorem NumK.on {w4 w5 c c' : World} {v : Value} (h : NumK w4 w5 v c) (hb : Below c.heap.size c c') : NumK w4 w5 v c' :=
 ⟨h.1,fun k h1 h2=>(hb.block k (Nat.lt_of_lt_of_le h2 h.2.2)).trans (h.2.1 k h1 h2),Nat.le_trans h.2.2 hb.size⟩
theorem NumK.grown {w4 w5 c c' : World} {v : Value} {g n cap : Nat} (h : NumK w4 w5 v c) (hg : c.grownBy c' v.ownBlock) (hl : v.ownBlock = some g ∨ g = c.heap.size) : NumK w4 w5 (.slice (some ⟨g, 0, none⟩) n cap) c' := by
 refine ⟨fun k e=>?_,fun k h1 h2=>(hg.block k (Nat.lt_of_lt_of_le h2 h.2.2) fun e=>?_).trans (h.2.1 k h1 h2),Nat.le_trans h.2.2 hg.size⟩
 · have e : g = k := by simpa [Value.ownBlock] using e
   subst e
   rcases hl with hl | hl
   · exact h.1 _ hl
   · right;rw [hl];exact h.2.2
 · rcases h.1 _ e.symm with h3 | h3 <;> omega
def InfoIs (x:Im) (w:World) (e:Ending) (w':World):Prop:=∃A2 c2,e=.returned (.agg (nodV 48 none 0 0 A2 (kidF x).len c2).toArray)∧(kidF x).len≤c2∧SeesN w' (newB w w') A2 (kidF x)∧Below w.heap.size w w'
end Go.Proofs.YtnlhbknajdpnbaaGreatDoor
namespace Go.Proofs.YtnlhbknajdpnbaaGreatDoor
open Go.RowKit
set_option maxRecDepth 8000
def StepK (I : World → Prop) (T : Nat → Bool) (X : Nat → Value → World → Prop) (S : Nat → Bool) (v : Nat → Value) (c : World) (a : Act) (o : Oper) (i : Nat) (a' : Act) (w' : World) : Prop :=
 ∃u,a'=a.put o.dst u∧X i u w'∧(Below c.heap.size c w'∨(T i=true∧I w'∧∀j,S j=true→X j (v j) w'))
section
variable {a:Act} {c:World} {o:Oper} {I:World→Prop} {T:Nat→Bool} {X:Nat→Value→World→Prop} {S:Nat→Bool} {v:Nat→Value} {i:Nat}
theorem StepK.still {x:Value} (h:X i x c):StepK I T X S v c a o i (a.put o.dst x) c:=⟨x,rfl,h,.inl (Below.refl _ _)⟩
theorem StepK.new {x:Value} {c':World} (h:X i x c') (hb:Below c.heap.size c c'):StepK I T X S v c a o i (a.put o.dst x) c':=⟨x,rfl,h,.inl hb⟩
theorem StepK.turn {x:Value} {c':World} (h:X i x c') (hK:T i=true) (hI:I c') (hX:∀j,S j=true→X j (v j) c'):StepK I T X S v c a o i (a.put o.dst x) c':=⟨x,rfl,h,.inr ⟨hK,hI,hX⟩⟩
end
section
variable {P:Program} {a:Act} {w:World} {K:Act→World→Prop} {Q:Exit→Act→World→Prop} {o:Oper}
theorem o_val {v:Value} {w':World} (h:(execOp a.eval o).run P w=.ok (.value v) w') (hK:K (a.put o.dst v) w'):o.wp P a w K Q:=by unfold Oper.wp;rw [h];exact hK
end
def InfF (w0:World) (x:Im) (u:Value) (c:World):Prop:=∃A cv,u=.agg (nodV 48 none 0 0 A (kidF x).len cv).toArray∧(kidF x).len≤cv∧SeesN c (newB w0 c) A (kidF x)
def InfS (w0:World) (x:Im) (u:Value) (c:World):Prop:=∃A cv g,u=.slice (some ⟨g,0,none⟩) 1 1∧newB w0 c g∧RowV c g (nodV 48 none 0 0 A (kidF x).len cv)∧(kidF x).len≤cv∧SeesN c (newB w0 c) A (kidF x)
theorem InfF.firm (w0 : World) (x : Im) : Firm (InfF w0 x) := by
 rintro u c c' ⟨A,cv,h1,h2,h3⟩ hb
 exact ⟨A,cv,h1,h2,h3.newOn hb⟩
theorem InfS.firm (w0 : World) (x : Im) : Firm (InfS w0 x) := by
 rintro u c c' ⟨A,cv,g,h1,h0,h4,h2,h3⟩ hb
 exact ⟨A,cv,g,h1,⟨h0.1,Nat.lt_of_lt_of_le h0.2 hb.size⟩,h4.on hb,h2,h3.newOn hb⟩
theorem InfF.elder {w0 : World} {x : Im} {u : Value} {c c' : World} (h : InfF w0 x u c) (hk : ∀ k, w0.heap.size ≤ k → k < c.heap.size → c'.heap[k]? = c.heap[k]?) (hs : c.heap.size ≤ c'.heap.size) : InfF w0 x u c' := by
 obtain ⟨A,cv,h1,h2,h3⟩:=h
 exact ⟨A,cv,h1,h2,(h3.keep fun q hq=>World.cell?_of_block (hk _ hq.1 hq.2)).imp fun b hb=>⟨hb.1,Nat.lt_of_lt_of_le hb.2 hs⟩⟩
theorem InfS.elder {w0 : World} {x : Im} {u : Value} {c c' : World} (h : InfS w0 x u c) (hk : ∀ k, w0.heap.size ≤ k → k < c.heap.size → c'.heap[k]? = c.heap[k]?) (hs : c.heap.size ≤ c'.heap.size) : InfS w0 x u c' := by
 obtain ⟨A,cv,g,h1,h0,h4,h2,h3⟩:=h
 exact ⟨A,cv,g,h1,⟨h0.1,Nat.lt_of_lt_of_le h0.2 hs⟩,h4.same (hk _ h0.1 h0.2),h2,(h3.keep fun q hq=>World.cell?_of_block (hk _ hq.1 hq.2)).imp fun b hb=>⟨hb.1,Nat.lt_of_lt_of_le hb.2 hs⟩⟩
theorem InfF.row {w0 : World} {x : Im} {u : Value} {c c' : World} {v : Value} (h : InfF w0 x u c) (hg : c.grownBy c' v.ownBlock) (hv : ∀ g, v.ownBlock = some g → g < w0.heap.size) : InfF w0 x u c' :=
 h.elder (fun k h1 h2=>hg.block k h2 fun e=>by have:=hv _ e.symm;omega) hg.size
theorem InfS.row {w0 : World} {x : Im} {u : Value} {c c' : World} {v : Value} (h : InfS w0 x u c) (hg : c.grownBy c' v.ownBlock) (hv : ∀ g, v.ownBlock = some g → g < w0.heap.size) : InfS w0 x u c' :=
 h.elder (fun k h1 h2=>hg.block k h2 fun e=>by have:=hv _ e.symm;omega) hg.size
theorem InfF.put {w0 : World} {x : Im} {u : Value} {c c' : World} {g : Nat} (h : InfF w0 x u c) (hw : Wr c c' g) (hg : g < w0.heap.size) : InfF w0 x u c' :=
 h.elder (fun k h1 h2=>hw.2.2.2.2 k (by omega)) (Nat.le_of_eq hw.2.2.2.1.symm)
theorem InfS.put {w0 : World} {x : Im} {u : Value} {c c' : World} {g : Nat} (h : InfS w0 x u c) (hw : Wr c c' g) (hg : g < w0.heap.size) : InfS w0 x u c' :=
 h.elder (fun k h1 h2=>hw.2.2.2.2 k (by omega)) (Nat.le_of_eq hw.2.2.2.1.symm)
theorem objsI_take {l : List Im} {j : Nat} {x : Im} (h : l[j]? = some x) : zcz (l.take (j + 1)) = (zcz (l.take j)).app (.cons 48 [] (kidF x) .nil) := by
 have e:l.take (j+1)=l.take j++[x]:=by rw [List.take_add_one,h];rfl
 rw [e,zgS]
def SetIs (l:List Im) (w:World) (e:Ending) (w':World):Prop:=∃A2 c2,e=.returned (.agg (nodV 49 none 0 0 A2 l.length c2).toArray)∧l.length≤c2∧SeesN w' (newB w w') A2 (zcz l)∧Below w.heap.size w w'
end Go.Proofs.YtnlhbknajdpnbaaGreatDoor
namespace Go.Proofs.YtnlhbknajdpnbaaGreatDoor
open Go.RowKit
set_option maxRecDepth 8000
theorem numF_size (x : Im) : ∀ l, (numF x l).size = l.length
 | []=>rfl
 | (t,s,c)::r=>by simp only [numF,F.size,List.length_cons];rw [numF_size x r];omega
theorem kidF_size (x : Im) : (kidF x).size ≤ 4 := by
 have:=(numsI_len x.p).2
 simp only [kidF,F.size,numF_size]
 omega
theorem zgB : ∀ l : List Im, (zcz l).size ≤ 5 * l.length
 | []=>Nat.le_refl _
 | x :: r => by
   have h1:=zgB r
   have h2:=kidF_size x
   simp only [zcz,F.size,List.length_cons]
   omega
theorem setF_size (l : List Im) : (setF l).size ≤ 5 * l.length + 1 := by
 have:=zgB l
 simp only [setF,F.size]
 omega
theorem numsI_mem {p : Int} {t : Int} {s c : Nat} (h : (t, s, c) ∈ zgi p) : (t = 2 ∨ t = 4) ∧ s ≤ 4 := by
 unfold zgi at h
 rcases List.mem_cons.1 h with h | h
 · simp at h;omega
 · split at h
   · simp at h;omega
   · split at h
     · simp at h;omega
     · cases h
theorem numF_ok (x : Im) : ∀ l, (∀ t s c, (t, s, c) ∈ l → (t = 2 ∨ t = 4) ∧ s ≤ 4) → (numF x l).ok
 | [],_=>trivial
 | (t, s, c) :: r, h => by
   obtain ⟨h1,h2⟩:=h t s c (List.mem_cons_self ..)
   exact ⟨by omega,by rw [zav];omega,trivial,numF_ok x r fun t s c h3=>h t s c (List.mem_cons_of_mem _ h3)⟩
theorem kidF_ok (x:Im):(kidF x).ok:=⟨by decide,by rw [zdv];decide,trivial,numF_ok x _ fun _ _ _ h=>numsI_mem h⟩
theorem objsI_ok : ∀ l : List Im, (zcz l).ok
 | []=>trivial
 | x::r=>⟨by decide,Nat.zero_le _,kidF_ok x,objsI_ok r⟩
theorem setF_ok (l:List Im):(setF l).ok:=⟨by decide,Nat.zero_le _,objsI_ok l,trivial⟩
end Go.Proofs.YtnlhbknajdpnbaaGreatDoor
namespace Go.Proofs.YtnlhbknajdpnbaaGreatDoor
section
open Go.RowKit
end
section
section
open Go.RowKit
end
section
open Go.RowKit
end
section
open Go.RowKit
end
section
open Go.RowKit
end
section
open Go.RowKit
end
section
open Go.RowKit
end
section
open Go.RowKit
section
variable {w0 w w':World} {B g k k' cap N:Nat} {l l':List UInt8} {a b c:Value}
end
end
section
open Go.RowKit
end
section
open Go.RowKit
end
section
open Go.RowKit
end
section
open Go.RowKit
end
section
open Go.RowKit
end
section
open Go.RowKit
end
section
open Go.RowKit
end
section
open Go.RowKit
end
section
open Go.RowKit
end
section
open Go.ChangeShapes Go.WideShapes Go.ChangeAt Go.RowKit
variable {H:Type} {enc:TypeId×Value→H} {W:World}
end
section
open Go.ChangeShapes Go.WideShapes Go.ChangeAt Go.RowKit
variable {H:Type} {enc:TypeId×Value→H} {W:World}
end
section
open Go.ChangeShapes Go.WideShapes Go.ChangeAt Go.RowKit
variable {H:Type} {enc:TypeId×Value→H} {W:World}
end
section
open Go.RowKit
end
section
open Go.RowKit
end
section
open Go.RowKit
end
section
open Go.RowKit
end
section
open Go.RowKit
end
section
open Go.RowKit
end
end
section
open Go.RowKit
section
variable {w w':World} {p p':Nat→Prop} {A:Option Addr} {cs:List Value}
end
end
section
open Go.RowKit
section
variable {w w':World} {p p':Nat→Prop} {A:Option Addr} {vs:List Value} {k:Nat}
end
end
section
open Go.RowKit
end
section
open Go.RowKit
end
section
open Go.RowKit
end
section
open Go.RowKit
def NewI4 (w:World) (v:List UInt8) (n:Nat) (e:Ending) (w':World):Prop:=∃A c,e=.returned (.slice A n c)∧((A=none→c=0)∧n≤c)∧SeesP w' (newB w w') A (Us v)∧Below w.heap.size w w'
end
section
open Go.RowKit
end
section
open Go.RowKit
set_option maxHeartbeats 1600000 in
theorem zca (t : Int) (v : List UInt8) (n : Nat) (hn : v.length = n) (hm : n ≤ 140737488351232) (A : Option Addr) (c : Nat) (h0 : A = none → c = 0) (w : World) (hs : SeesP w (· < w.heap.size) A (Us v)) :
 Calls Tryz.prog 39 #[.int .i64 t,.slice A n c] w (PrimIs w t v n):=by
 obtain ⟨i0,hi,hz0,hz1,hz2⟩:=info_parts zaW
 have HS:=Lib.hid (show _∧_∧_ from ⟨hs,hn,h0⟩)
 have HB:=Lib.hid (Below.refl w.heap.size w)
 clear hs hn h0
 go_enter Tryz.func39,Tryz.ntmps39
 go_wp2_with (first
  | ((with_reducible refine zaG (d:=4) ?_);refine zam (op:=⟨some 4,_,_,_,_,_⟩) rfl 64 rfl zerN zcc ?_;intro g4 w4 hf hr;have H4:=Lib.hid (show _∧_∧_∧_ from ⟨hf.bl HB.out,hr,hf.ge HB.out,hf⟩);clear hf hr)
  | ((with_reducible refine zaS (d:=7) ?_);go_must (refine app_bytes rfl (.const (.slice none 0 0)) (.tmp 6) 27 rfl w4.heap.size 5 i0 (.int .u8 0) Tryz.underlying27 hi hz0 hz1 hz2 rfl (.slice none 0 0) 0 [] rfl (World.ownsRow_nil _ _ _ _) A c v _ (by rw [HS.out.2.1];rfl) HS.out.2.2 (HS.out.1.on2 H4.out.1) (by unfold maxLen;rw [HS.out.2.1];omega) (by rw [HS.out.2.1];omega) (Nat.le_refl _) ?_);intro v7 w7 ho hg;rw [Nat.zero_add,HS.out.2.1,List.nil_append] at ho;obtain ⟨A7,c7,rfl,h7,s7⟩:=zde ho;have H7:=Lib.hid (show _∧_∧_ from ⟨h7,s7,grown_new hg⟩);clear ho hg h7 s7)
  | ((with_reducible refine zak (i:=4) ?_);go_must (refine zan rfl 64 (.tmp 4) (.tmp 8) rfl g4 zerN (nodV t A7 n c7 none 0 0) rfl rfl (H4.out.2.1.on H7.out.2.2) rfl (zbK _ _ _ _ _ _ _) zbV ?_);intro w8 hw hr;have H8:=Lib.hid (show _∧_ from ⟨hw,hr⟩);clear hw hr))
 have hlt:=H4.out.2.1.lt
 exact bodyPost_ret (zbA rfl _ _ g4 (nodV t A7 n c7 none 0 0) _ rfl H8.out.2 Tryz.underlying64 rfl zbV) rfl ⟨A7,c7,rfl,H7.out.1,(H7.out.2.1.keep fun q hq=>World.cell?_of_block (H8.out.1.2.2.2.2 _ (by have:=hq.1;omega))).imp fun b hb=>⟨Nat.le_trans H4.out.1.size hb.1,by rw [H8.out.1.2.2.2.1];exact hb.2⟩,Wr.bl (zaf H4.out.1 H7.out.2.2) H8.out.1 H4.out.2.2.1⟩
theorem r_four_Jg (n : Nat) (hn : n < 4294967296) (w : World) : Calls Tryz.prog 79 #[.int .i64 (n : Int)] w (NewI4 w (octL n 4) 4) := by
 have H:=Lib.hid hn
 go_enter Tryz.func79,Tryz.ntmps79
 go_wp2
 go_ret
 refine ⟨some ⟨w.heap.size,0,none⟩,4,rfl,⟨fun h=>(by cases h),Nat.le_refl _⟩,.inr ⟨w.heap.size,0,rfl,⟨Nat.le_refl _,by simp⟩,fun j hj=>?_⟩,zfM _ _⟩
 rw [Nat.zero_add,cell_of_row _ _ j _ _ (0,0) (heap_alloc_new w _),zgK n H.out]
 simp
end
end Go.Proofs.YtnlhbknajdpnbaaGreatDoor
namespace Go.Proofs.YtnlhbknajdpnbaaGreatDoor
open Go.RowKit
set_option maxRecDepth 8000
def HoldsQ (w : World) (p : Nat → Prop) : F → List Value → Prop
 | .nil,cs=>cs=[]
 | .cons t v k r,cs=>∃Av cv Ak ck ks cs',cs=.int .i64 t::.slice Av v.length cv::.slice Ak k.len ck::cs'∧((Av=none→cv=0)∧(4096 < v.length→v.length≤cv))∧SeesP w p Av (Us v)∧SeesP w p Ak ks∧HoldsQ w p k ks∧HoldsQ w p r cs'
def SeesQ (w:World) (p:Nat→Prop) (A:Option Addr) (f:F):Prop:=∃cs,SeesP w p A cs∧HoldsQ w p f cs
section
variable {w w':World} {p p':Nat→Prop} {A:Option Addr} {cs:List Value}
theorem HoldsQ.holds : ∀ {f : F} {cs : List Value}, HoldsQ w p f cs → HoldsP w p f cs
 | .nil,_,h=>h
 | .cons _ _ _ _,_,⟨Av,cv,Ak,ck,ks,cs',e,h0,h1,h2,h3,h4⟩=>⟨Av,cv,Ak,ck,ks,cs',e,h0.1,h1,h2,HoldsQ.holds h3,HoldsQ.holds h4⟩
theorem HoldsQ.keep (hk : ∀ q : Addr, p q.block → w'.cell? q = w.cell? q) : ∀ {f : F} {cs : List Value}, HoldsQ w p f cs → HoldsQ w' p f cs
 | .nil,_,h=>h
 | .cons _ _ _ _,_,⟨Av,cv,Ak,ck,ks,cs',e,h0,h1,h2,h3,h4⟩=>⟨Av,cv,Ak,ck,ks,cs',e,h0,h1.keep hk,h2.keep hk,HoldsQ.keep hk h3,HoldsQ.keep hk h4⟩
theorem HoldsQ.imp (hp : ∀ b, p b → p' b) : ∀ {f : F} {cs : List Value}, HoldsQ w p f cs → HoldsQ w p' f cs
 | .nil,_,h=>h
 | .cons _ _ _ _,_,⟨Av,cv,Ak,ck,ks,cs',e,h0,h1,h2,h3,h4⟩=>⟨Av,cv,Ak,ck,ks,cs',e,h0,h1.imp hp,h2.imp hp,HoldsQ.imp hp h3,HoldsQ.imp hp h4⟩
theorem SeesQ.sees {f : F} (h : SeesQ w p A f) : SeesF w p A f := by
 obtain ⟨cs,h1,h2⟩:=h
 exact ⟨cs,h1,h2.holds⟩
theorem SeesQ.keep {f : F} (h : SeesQ w p A f) (hk : ∀ q : Addr, p q.block → w'.cell? q = w.cell? q) : SeesQ w' p A f := by
 obtain ⟨cs,h1,h2⟩:=h
 exact ⟨cs,h1.keep hk,HoldsQ.keep hk h2⟩
theorem SeesQ.imp {f : F} (h : SeesQ w p A f) (hp : ∀ b, p b → p' b) : SeesQ w p' A f := by
 obtain ⟨cs,h1,h2⟩:=h
 exact ⟨cs,h1.imp hp,HoldsQ.imp hp h2⟩
theorem SeesQ.on {f : F} (h : SeesQ w (· < w.heap.size) A f) (hb : Below w.heap.size w w') : SeesQ w' (· < w'.heap.size) A f :=
 (h.keep fun _ hq=>hb.cell hq).imp fun _ hb2=>Nat.lt_of_lt_of_le hb2 hb.size
theorem node_atQ {k : Nat} {t : Int} {v : List UInt8} {kk r : F} (h : SeesP w p A cs) (hh : HoldsQ w p (.cons t v kk r) (cs.drop (3 * k))) :
 ∃ b off Av cv Ak ck, A = some ⟨b, off, none⟩ ∧ p b ∧ w.cell? ⟨b, off + k * 3, none⟩ = some (.int .i64 t) ∧ w.cell? ⟨b, off + k * 3 + 1, none⟩ = some (.slice Av v.length cv) ∧
   w.cell? ⟨b,off+k*3+2,none⟩=some (.slice Ak kk.len ck)∧SeesP w p Av (Us v)∧SeesQ w p Ak kk∧HoldsQ w p r (cs.drop (3*(k+1)))∧(Av=none→cv=0)∧(4096 < v.length→v.length≤cv):=by
 obtain ⟨Av,cv,Ak,ck,ks,cs',e,h0,h1,h2,h3,h4⟩:=hh
 have hl : 3 * k + 2 < cs.length := by
  have:=congrArg List.length e
  simp only [List.length_drop,List.length_cons] at this
  omega
 have e0 : cs[3 * k]? = some (.int .i64 t) := by
  have:=congrArg (·[0]?) e
  simpa using this
 have e1 : cs[3 * k + 1]? = some (.slice Av v.length cv) := by
  have:=congrArg (·[1]?) e
  simpa using this
 have e2 : cs[3 * k + 2]? = some (.slice Ak kk.len ck) := by
  have:=congrArg (·[2]?) e
  simpa using this
 have e3 : cs.drop (3 * (k + 1)) = cs' := by
  have:=congrArg (·.drop 3) e
  simp only [List.drop_drop,List.drop_succ_cons,List.drop_zero] at this
  rw [←this];congr 1
 rcases h with h | ⟨b,off,rfl,hb,hc⟩
 · subst h;simp at hl
 · rw [Nat.mul_comm] at e0 e1 e2
   refine ⟨b,off,Av,cv,Ak,ck,rfl,hb,(hc _ (by omega)).trans e0,?_,?_,h1,⟨ks,h2,h3⟩,by rw [e3];exact h4,h0.1,h0.2⟩
   · rw [Nat.add_assoc];exact (hc _ (by omega)).trans e1
   · rw [Nat.add_assoc];exact (hc _ (by omega)).trans e2
end
def F.sm : F → Prop
 | .nil=>True
 | .cons _ v k r=>v.length≤4096∧k.sm∧r.sm
def F.sq : F → Prop
 | .nil=>True
 | .cons _ v k r=>v.length≤5000∧k.sq∧r.sq
theorem F.sm_sq : ∀ {f : F}, f.sm → f.sq
 | .nil,_=>trivial
 | .cons _ _ _ _,⟨h1,h2,h3⟩=>⟨by omega,F.sm_sq h2,F.sm_sq h3⟩
theorem HoldsP.small {w : World} {p : Nat → Prop} : ∀ {f : F} {cs : List Value}, HoldsP w p f cs → f.sm → HoldsQ w p f cs
 | .nil,_,h,_=>h
 | .cons _ _ _ _,_,⟨Av,cv,Ak,ck,ks,cs',e,h0,h1,h2,h3,h4⟩,⟨s1,s2,s3⟩=>⟨Av,cv,Ak,ck,ks,cs',e,⟨h0,fun h=>by omega⟩,h1,h2,HoldsP.small h3 s2,HoldsP.small h4 s3⟩
theorem SeesF.small {w : World} {p : Nat → Prop} {A : Option Addr} {f : F} (h : SeesF w p A f) (hs : f.sm) : SeesQ w p A f := by
 obtain ⟨cs,h1,h2⟩:=h
 exact ⟨cs,h1,h2.small hs⟩
end Go.Proofs.YtnlhbknajdpnbaaGreatDoor
namespace Go.Proofs.YtnlhbknajdpnbaaGreatDoor
open Go.RowKit
set_option maxRecDepth 8000
def CntOk (s m:Nat):Prop:=m≤s∧(s≤256→m=s)∧(256 < s→256 < m)
def RCntIs (f:F) (w:World) (e:Ending) (w':World):Prop:=∃m:Nat,e=.returned (.int .i64 (m:Int))∧CntOk f.size m∧w'=w
set_option maxHeartbeats 1000000 in
theorem ref_count (n : Nat) : ∀ (f : F) (A : Option Addr) (c : Nat) (w : World) (p : Nat → Prop), f.size < n → n ≤ 1125899906842624 → SeesF w p A f →
 Calls Tryz.prog 81 #[.slice A f.len c,.int .i64 256] w (RCntIs f w):=by
 induction n with
 | zero=>intro f A c w p hn;omega
 | succ n ih =>
   intro f A c w p hn hb hs
   obtain ⟨cs,s1,s2⟩:=hs
   have hlen:=f.len_le_size
   have S2:=Lib.hid s2
   have S1:=Lib.hid s1
   have IH:=Lib.hid ih
   clear s2 ih s1
   go_enter Tryz.func81,Tryz.ntmps81
   go_wp2_with fail
   go_loopw [5,6] (fun q i wr=>∃(k m z:Nat) (g:F),k+g.len=f.len∧i=.int .i64 k∧q=.int .i64 m∧z+g.size=f.size∧Hid (CntOk z m)∧m≤f.size∧Hid (HoldsP w p g (cs.drop (3*k)))∧wr=w) (fun _ i _=>f.len - (intOf i).toNat)
   case atStart=>exact ⟨0,0,0,f,by omega,rfl,rfl,by omega,Lib.hid ⟨Nat.le_refl _,fun _=>rfl,fun h=>by omega⟩,by omega,Lib.hid S2.out,rfl⟩
   case round =>
    clear S2
    obtain ⟨k,m,z,g,hk,rfl,rfl,hz,HC,hm,HG,rfl⟩:=hrel
    cases g with
    | nil =>
      have hz2:z=f.size:=hz
      have HD:=Lib.hid (show RCntIs f wr (.returned (.int .i64 (m:Int))) wr from ⟨m,rfl,by rw [←hz2];exact HC.out,rfl⟩)
      have hk2:k=f.len:=hk
      have dk:decide ((k:Int) < (f.len:Int))=false:=by simp;omega
      clear hk HG hz HC hz2
      go_wp2_with fail
      go_ret
      exact HD.out
    | cons t v kk r =>
      have hk1:k+r.len+1=f.len:=hk
      have hz1:z+(kk.size+r.size+1)=f.size:=by simp only [F.size] at hz;omega
      obtain ⟨b,off,Av,cv,Ak,ck,rfl,hp,g0,g1,g2,sv,sk,hr,hnv⟩:=zdt S1.out HG.out
      have HR:=Lib.hid hr
      have hlt:k < f.len:=by omega
      have dk:decide ((k:Int) < (f.len:Int))=true:=by simp;omega
      have HI:=Lib.hid (IH.out kk Ak ck wr p (by omega) (by omega) sk)
      clear hk hr sk sv hnv g0 g1 hz
      by_cases h256:m≤256
      · have d1 : decide ((m : Int) ≤ 256) = true := by simp; omega
        clear h256
        go_wp2_with fail
        refine HI.out.mono ?_
        rintro e w' ⟨q,rfl,hq,rfl⟩
        have HQ:=Lib.hid hq
        have hqs:=hq.1
        clear hq HI
        have HF := Lib.hid (show CntOk (z + 1 + kk.size) (m + (1 + q)) from by
         have hm256:=of_decide_eq_true d1
         obtain ⟨a1,a2,a3⟩:=HC.out
         obtain ⟨b1,b2,b3⟩:=HQ.out
         refine ⟨by omega,fun h=>?_,fun h=>?_⟩
         · have:=a2 (by omega);have:=b2 (by omega);omega
         · by_cases h1 : kk.size ≤ 256
           · have := b2 h1
             by_cases h2:z≤256
             · have:=a2 h2;omega
             · have:=a3 (by omega);omega
           · have:=b3 (by omega);omega)
        have hcm:=HC.out.1
        go_wp2_with fail
        go_roundw
        case rel=>exact ⟨k+1,m+(1+q),z+1+kk.size,r,by omega,by go_num,by go_num,by omega,HF,by omega,HR,trivial⟩
        case measure=>simp [intOf];omega
      · have d1 : decide ((m : Int) ≤ 256) = false := by simp; omega
        have hzz:256 < z:=by have:=HC.out.1;omega
        have HD:=Lib.hid (show RCntIs f wr (.returned (.int .i64 (m:Int))) wr from ⟨m,rfl,⟨hm,fun h=>by omega,fun h=>by omega⟩,rfl⟩)
        clear h256 HI HC HR IH
        go_wp2_with fail
        go_ret
        exact HD.out
theorem lenL_1 {n:Nat} (h:n≤127):lenL n=[UInt8.ofNat n]:=by unfold lenL;rw [if_pos h]
theorem lenL_2 {n : Nat} (h : 127 < n) (h2 : n ≤ 255) : lenL n = [129, UInt8.ofNat n] := by
 unfold lenL;rw [if_neg (by omega),lb_1 h (by omega)]
 simp [lenD]
theorem lenL_3 {n : Nat} (h : 255 < n) (h2 : n ≤ 65535) : lenL n = [130, UInt8.ofNat (n / 256), UInt8.ofNat n] := by
 unfold lenL;rw [if_neg (by omega),lb_2 (by omega) (by omega)]
 simp [lenD,List.range_succ]
def MadeIs (w:World) (l:List UInt8) (e:Ending) (w':World):Prop:=∃g,e=.returned (.slice (some ⟨g,0,none⟩) l.length l.length)∧SeesP w' (newB w w') (some ⟨g,0,none⟩) (Us l)∧Below w.heap.size w w'
theorem made_is {w : World} {cells : Array Value} {l : List UInt8} {n : Nat} (h : cells.toList = Us l) (hn : n = l.length) : MadeIs w l (.returned (.slice (some ⟨w.heap.size, 0, none⟩) n n)) (w.alloc (.cells cells 5)) := by
 subst hn
 refine ⟨_,rfl,.inr ⟨_,0,rfl,⟨Nat.le_refl _,by simp⟩,fun i hi=>?_⟩,(Below.refl _ _).alloc (Nat.le_refl _) _⟩
 rw [Nat.zero_add,cell_of_row _ w.heap.size i cells _ (0,0) (heap_alloc_new w _),←h,Array.getElem?_toList]
theorem ref_length (n : Nat) (h : n ≤ 65535) (w : World) : Calls Tryz.prog 102 #[.int .i64 (n : Int)] w (MadeIs w (lenL n)) := by
 by_cases h1:n≤127
 · have d1 : decide ((n : Int) ≤ 127) = true := by simp; omega
   have HF:=Lib.hid (made_is (w:=w) (cells:=#[.int .u8 (n:Int)]) (l:=lenL n) (n:=1) (by rw [lenL_1 h1];simp [Us,U];omega) (by rw [lenL_1 h1];rfl))
   go_enter Tryz.func102,Tryz.ntmps102
   go_wp2_with fail
   go_ret
   exact HF.out
 · have d1 : decide ((n : Int) ≤ 127) = false := by simp; omega
   by_cases h2:n≤255
   · have d2 : decide ((n : Int) ≤ 255) = true := by simp; omega
     have HF:=Lib.hid (made_is (w:=w) (cells:=#[.int .u8 129,.int .u8 (n:Int)]) (l:=lenL n) (n:=2) (by rw [lenL_2 (by omega) h2];simp [Us,U];omega) (by rw [lenL_2 (by omega) h2];rfl))
     go_enter Tryz.func102,Tryz.ntmps102
     go_wp2_with fail
     go_ret
     exact HF.out
   · have d2 : decide ((n : Int) ≤ 255) = false := by simp; omega
     have HF:=Lib.hid (made_is (w:=w) (cells:=#[.int .u8 130,.int .u8 ((n:Int) / 256),.int .u8 ((n:Int) % 256)]) (l:=lenL n) (n:=3) (by rw [lenL_3 (by omega) h];simp [Us,U];omega) (by rw [lenL_3 (by omega) h];rfl))
     go_enter Tryz.func102,Tryz.ntmps102
     go_wp2_with fail
     go_ret
     exact HF.out
end Go.Proofs.YtnlhbknajdpnbaaGreatDoor
