/-
  What is proved here: the texts of the fields as the program reads them of lines that lie in memory.
-/
import Derived.Test.YtnlhbknajdpnbaaGreatDoorF24
import Derived.Test.YtnlhbknajdpnbaaGreatDoorF10
import Derived.Lib.QuietBelow
import Derived.Deep.LoopGhost
import Derived.WalkMore
import Derived.Test.YtnlhbknajdpnbaaGreatDoorF23
import Derived.Test.YtnlhbknajdpnbaaGreatDoorF12
import Derived.Lib.MakeNoZero
import Derived.Lib.BufferWrite
import Derived.Deep.RegionLaw
import Derived.Lib.SlBytesConst
import Derived.Test.YtnlhbknajdpnbaaGreatDoorF17
import Derived.Test.YtnlhbknajdpnbaaGreatDoorF13
set_option linter.unusedVariables false
set_option linter.unusedSimpArgs false
namespace Go.Proofs.YtnlhbknajdpnbaaGreatDoor
open Go.RowKit Go.Maps
theorem zfF {w w':World} {g:Nat} (h:Wr w w' g):w.grownBy w' (some g):=⟨h.1,h.2.1,h.2.2.1,by rw [h.2.2.2.1];exact Nat.le_refl _,fun k _ hk=>h.2.2.2.2 k (fun e=>hk (by rw [e]))⟩
def OwnM (w cur:World) (L:List (Nat×List Value)) (b n:Nat) (T:Nat→List UInt8):Prop:=Own w cur L∧MapIs cur b n T∧w.heap.size≤b∧∀(i g:Nat) (vs:List Value),L[i]? = some (g,vs)→g≠b
section
variable {w cur cur':World} {L:List (Nat×List Value)} {b n g i:Nat} {T:Nat→List UInt8} {vs us:List Value}
theorem OwnM.bl (h:OwnM w cur L b n T):Below w.heap.size w cur:=h.1.1
theorem OwnM.start (h : Own w cur L) (hf : Fresh cur cur' b) (hm : MapIs cur' b n T) : OwnM w cur' L b n T :=
 ⟨h.on hf.bw,hm,hf.ge h.1,fun i g vs e=>(h.row e).ne hf⟩
theorem OwnM.on (h:OwnM w cur L b n T) (hb:Below cur.heap.size cur cur'):OwnM w cur' L b n T:=⟨h.1.on hb,h.2.1.on hb,h.2.2.1,h.2.2.2⟩
theorem OwnM.new (h : OwnM w cur L b n T) (hf : Fresh cur cur' g) (hr : RowV cur' g vs) : OwnM w cur' (L ++ [(g, vs)]) b n T := by
 refine ⟨h.1.new hf hr,h.2.1.on hf.bw,h.2.2.1,fun i g' vs' e=>?_⟩
 rw [List.getElem?_append] at e
 split at e
 · exact h.2.2.2 i g' vs' e
 · have e' : g' = g := by
    rcases hk:i - L.length with _ | k
    · rw [hk] at e;simp at e;exact e.1.symm
    · rw [hk] at e;simp at e
   have:=h.2.1.lt
   rw [e',hf.1];omega
theorem OwnM.set (h : OwnM w cur L b n T) (e : L[i]? = some (g, vs)) (hw : Wr cur cur' g) (hr : RowV cur' g us) : OwnM w cur' (L.set i (g, us)) b n T := by
 have hne:=h.2.2.2 i g vs e
 refine ⟨h.1.set e hw hr,h.2.1.kept (zfF hw) (by simpa using Ne.symm hne),h.2.2.1,fun j g' vs' hj=>?_⟩
 by_cases hji:j=i
 · subst hji
   rw [List.getElem?_set_self (List.getElem?_eq_some_iff.1 e).1] at hj
   injection hj with hj
   injection hj with h1 _
   rw [←h1];exact hne
 · rw [List.getElem?_set_ne (Ne.symm hji)] at hj
   exact h.2.2.2 j g' vs' hj
theorem OwnM.upd {n' : Nat} {T' : Nat → List UInt8} (h : OwnM w cur L b n T) (hm : MapIs cur' b n' T') (hg : cur.grownBy cur' (some b)) : OwnM w cur' L b n' T' :=
 ⟨h.1.far hg (fun r hr=>by injection hr with hr;rw [←hr];exact h.2.2.1) (fun i g vs e he=>h.2.2.2 i g vs e (by injection he with he;exact he.symm)),hm,h.2.2.1,h.2.2.2⟩
theorem OwnM.pre {M : List (Nat × List Value)} (h : OwnM w cur (L ++ M) b n T) : OwnM w cur L b n T :=
 ⟨h.1.pre,h.2.1,h.2.2.1,fun i g vs e=>h.2.2.2 i g vs (by rw [List.getElem?_append_left (List.getElem?_eq_some_iff.1 e).1];exact e)⟩
theorem OwnM.ext {T' : Nat → List UInt8} (h : OwnM w cur L b n T) (he : ∀ k, k < 15 → T k = T' k) : OwnM w cur L b n T' := by
 obtain ⟨h1,⟨D,h2,h3,h4⟩,h5⟩:=h
 exact ⟨h1,⟨D,h2,fun k hk=>by rw [←he k hk];exact h3 k hk,h4⟩,h5⟩
end
end Go.Proofs.YtnlhbknajdpnbaaGreatDoor
namespace Go.Proofs.YtnlhbknajdpnbaaGreatDoor
open Go.RowKit Go.Maps
def zV (z:Zn):List Value:=[.int .i64 z.fm,.string (S z.kd),.string (S z.st),.string (S z.su),.string (S z.gi),.string (S z.nu),.string (S z.na),.string (S z.bi),.string (S z.sx),.string (S z.ex),.string (S z.op),.string (S z.se)]
theorem fa_z7 (g:Nat) (w:World):(Instr.fieldAt 46 (.pointer (some ⟨g,0,none⟩)) 7).run Tryz.prog w=.ok (.pointer (some ⟨g,7,none⟩)) w:=by kernel_rfl
theorem fa_z9 (g:Nat) (w:World):(Instr.fieldAt 46 (.pointer (some ⟨g,0,none⟩)) 9).run Tryz.prog w=.ok (.pointer (some ⟨g,9,none⟩)) w:=by kernel_rfl
def cntS (S : Nat → Bool) : Nat → Nat
 | 0=>0
 | m+1=>cntS S m+if S m then 1 else 0
theorem cnt_mono {S S' : Nat → Bool} (h : ∀ j, S j = true → S' j = true) : ∀ m, cntS S m ≤ cntS S' m
 | 0=>Nat.le_refl _
 | m + 1 => by
   have:=cnt_mono h m
   unfold cntS
   by_cases e:S m=true
   · rw [if_pos e,if_pos (h m e)];omega
   · rw [if_neg e];omega
theorem cnt_out {S : Nat → Bool} {i : Nat} : ∀ m, m ≤ i → cntS (fun j => S j || j == i) m = cntS S m
 | 0,_=>rfl
 | m + 1, h => by
   have hm:m≠i:=by omega
   unfold cntS
   rw [cnt_out m (by omega)]
   simp [hm]
theorem cnt_add {S : Nat → Bool} {i : Nat} (hS : S i = false) : ∀ m, i < m → cntS (fun j => S j || j == i) m = cntS S m + 1
 | 0,h=>by omega
 | m + 1, h => by
   unfold cntS
   by_cases e:m=i
   · subst e
     rw [cnt_out m (Nat.le_refl _),hS]
     simp
   · rw [cnt_add hS m (by omega)]
     simp [e]
     omega
def InsW (w : World) (L : List (Nat × List Value)) (T : Nat → List UInt8) (ins : Nat → Nat) (g : Nat) (S : Nat → Bool) (cur : World) : Prop :=
 Own w cur L∧(S 0=true→∃n,n≤cntS S 40∧OwnM w cur L g n (fun k=>if ins k < 40∧S (ins k)=true then T k else []))
theorem OwnM.from {w cur:World} {L:List (Nat×List Value)} {b n:Nat} {T T':Nat→List UInt8} (h:OwnM w cur L b n T) (e:T=T'):OwnM w cur L b n T':=e ▸ h
section
variable {w cur cur':World} {L:List (Nat×List Value)} {T:Nat→List UInt8} {ins:Nat→Nat} {g i:Nat} {S:Nat→Bool}
theorem InsW.skip (h : InsW w L T ins g S cur) (hb : Below cur.heap.size cur cur') (h0 : i ≠ 0) (hi : ∀ k, k < 15 → ins k ≠ i) : InsW w L T ins g (fun j => S j || j == i) cur' := by
 refine ⟨h.1.on hb,fun hs=>?_⟩
 have hs':S 0=true:=by simpa [Ne.symm h0] using hs
 obtain ⟨n,hn,ho⟩:=h.2 hs'
 refine ⟨n,Nat.le_trans hn (cnt_mono (fun j hj=>by simp [hj]) 40),(ho.on hb).ext fun k hk=>?_⟩
 have:=hi k hk
 simp [this]
theorem InsW.mk (h : InsW w L T ins g S cur) (h0 : S 0 = false) (hi : ∀ k, k < 15 → ins k < 40 → S (ins k) = false ∧ ins k ≠ 0) : InsW w L T ins cur.heap.size (fun j => S j || j == 0) (cur.alloc (.map #[] 0)) := by
 have hf:Fresh cur (cur.alloc (.map #[] 0)) cur.heap.size:=⟨rfl,_,rfl⟩
 refine ⟨h.1.on hf.bw,fun _=>⟨0,Nat.zero_le _,(OwnM.start h.1 hf (MapIs.made cur)).ext fun k hk=>?_⟩⟩
 by_cases h40:ins k < 40
 · have := hi k hk h40
   simp [this]
 · simp [h40]
theorem InsW.put {k : Nat} (h : InsW w L T ins g S cur) (h0 : S 0 = true) (hk : k < 15) (hik : ins k = i) (h40 : i < 40) (hSi : S i = false) (hinj : ∀ j, j < 15 → j ≠ k → ins j ≠ i) (hi0 : i ≠ 0) {n : Nat} (hn : n ≤ cntS S 40) (ho : OwnM w cur L g n (fun k => if ins k < 40 ∧ S (ins k) = true then T k else []))
 (hm:MapIs cur' g (n+1) (updT (fun k=>if ins k < 40∧S (ins k)=true then T k else []) k (T k))) (hg:cur.grownBy cur' (some g)):InsW w L T ins g (fun j=>S j || j==i) cur':=by
 have h1:=ho.upd hm hg
 refine ⟨h1.1,fun _=>⟨n+1,by rw [cnt_add hSi 40 h40];omega,h1.ext fun j hj=>?_⟩⟩
 unfold updT
 by_cases e:j=k
 · subst e
   rw [if_pos rfl,if_pos]
   rw [hik]
   exact ⟨h40,by simp⟩
 · rw [if_neg e]
   have:=hinj j hj e
   simp [this]
end
section
variable {a:Act} {w w':World} {K:Act→World→Prop} {Q:Exit→Act→World→Prop} {o:Oper}
theorem o_call1 {P : Program} (f : FuncId) (x : Operand) (tys : Array TypeId) (ho : o.op = .call { callee := .value (.func f), args := #[x], argTypes := tys }) {v1 v : Value} (hx : a.eval x = v1) (hr : (callFunc f #[v1]).run P w = .ok (.enter f #[v1]) w)
 (h:Calls P f #[v1] w fun e w'=>e=.returned v∧Below w.heap.size w w') (hK:∀w',Below w.heap.size w w'→K (a.put o.dst v) w'):o.wp P a w K Q:=by
 have he:a.eval (.func f)=Value.func (.func f) #[] #[]:=rfl
 have h1 : (execOp a.eval o).run P w = .ok (.enter f #[v1]) w := by
  simp [execOp,ho,resolve,invoke,hx,he,hr,Deferred.ofValue]
 unfold Oper.wp
 rw [h1,Oper.upon_enter]
 refine h.mono ?_
 rintro e w' ⟨rfl,hb⟩
 exact hK w' hb
end
end Go.Proofs.YtnlhbknajdpnbaaGreatDoor
namespace Go.Proofs.YtnlhbknajdpnbaaGreatDoor
open Go.RowKit Go.Maps
structure Fits (z : Zn) : Prop where
 fm:1≤z.fm∧z.fm≤3
 nm:zaO z.su=true∧zaO z.gi=true∧z.su≠[]
 su:(S z.su).size≤140737488355328
 gi:(S z.gi).size≤140737488355328
 kd:z.kd.length≤64
 st:z.st.length≤64
 nu:z.nu.length≤64
 na:z.na.length≤64
 bi:z.bi.length≤64
 sx:z.sx.length≤64
 ex:z.ex.length≤64
 op:z.op.length≤64
 se:z.se.length≤64
theorem dgL_le (x:List UInt8):(dgL x).length≤1:=by have:=zdL x;rwa [zao] at this
end Go.Proofs.YtnlhbknajdpnbaaGreatDoor
namespace Go.Proofs.YtnlhbknajdpnbaaGreatDoor
open Go.RowKit
def hi3 (k:Nat):Int:=if k=0 then 99 else if k=1 then 12 else 31
theorem str_at_Zb (T : ByteArray) (i : Nat) (h : i < T.size) (w : World) : (Instr.index 9 (.string T) (.int .i64 (i : Int))).run Tryz.prog w = .ok (.int .u8 ((T[i]'h).toNat : Int)) w := by
 rw [run_index_string w 9 T .i64 _ Tryz.underlying9,dif_pos (by omega)]
 simp
theorem S_get (x : List UInt8) (i : Nat) (h : i < (S x).size) : (((S x)[i]'h).toNat : Int) = cB x i := by
 have h2:i < x.length:=by rw [←zao];exact h
 rw [zcw h2]
 rfl
end Go.Proofs.YtnlhbknajdpnbaaGreatDoor
namespace Go.Proofs.YtnlhbknajdpnbaaGreatDoor
open Go.RowKit Go.Maps
structure Bears (z : Zn) : Prop where
 kd:(S z.kd).size≤140737488355328
 st:(S z.st).size≤140737488355328
 su:(S z.su).size≤140737488355328
 gi:(S z.gi).size≤140737488355328
 nu:(S z.nu).size≤140737488355328
 na:(S z.na).size≤140737488355328
 bi:(S z.bi).size≤140737488355328
 sx:(S z.sx).size≤140737488355328
 ex:(S z.ex).size≤140737488355328
 op:(S z.op).size≤140737488355328
 se:(S z.se).size≤140737488355328
def fitB (f:Int) (z:Zn):Bool:=decide ((dvC z.nu z.op).length≤sizN f 11) && decide (z.se.length≤sizN f 13)
theorem siz_le {f : Int} (h : 1 ≤ f ∧ f ≤ 3) {k : Nat} (hk : k < 15) : sizN f k ≤ 44 := by
 have:=plc_ok h hk
 have hw:widN f≤44:=by unfold widN;repeat (first | omega | split)
 unfold sizN;omega
end Go.Proofs.YtnlhbknajdpnbaaGreatDoor
namespace Go.Proofs.YtnlhbknajdpnbaaGreatDoor
open Go.RowKit Go.Maps
theorem Own.qup {P:Program} {w cur:World} {L:List (Nat×List Value)} {f:FuncId} {args:Array Value} {v:Value} (ho:Own w cur L) (h:∀w',Below cur.heap.size cur w'→Calls P f args w' fun e w''=>e=.returned v∧Below w'.heap.size w' w''):∀(d:Nat) (os:Array Obj),Calls P f args (Go.Sort.grow (redrawn cur d) os) fun e w''=>e=.returned v∧∃p:Regrown,w''=Go.Sort.grow (redrawn cur p.d) p.os:=zen h
theorem Own.qst {P:Program} {w cur:World} {L:List (Nat×List Value)} {f:FuncId} {args:Array Value} {v:Value} (ho:Own w cur L) (h:∀w',Calls P f args w' fun e w''=>e=.returned v∧w'=w''):∀(d:Nat) (os:Array Obj),Calls P f args (Go.Sort.grow (redrawn cur d) os) fun e w''=>e=.returned v∧∃p:Regrown,w''=Go.Sort.grow (redrawn cur p.d) p.os:=quiet_still h
theorem zac {P : Program} {ops : Array Oper} {rest : List Oper} {op : Oper} {a : Act} {w : World} {Q : Exit → Act → World → Prop} (hw : Region.wanted op (yielded ops a.tmps) = true) (ty : TypeId) (x : Operand) (ho : op.op = .load ty x) (g k : Nat)
 (hx:a.eval x=.pointer (some ⟨g,k,none⟩)) (v:Value) (hc:w.cell? ⟨g,k,none⟩=some v) (ha:∀w,(isAgg ty).run P w=.ok false w)
 (hK:wpList P ops Q rest (a.put op.dst v) w):wpList P ops Q (op::rest) a w:=by
 refine wpList_step fun K hK2=>?_
 rw [if_pos hw]
 exact o_ld ty x ho hx hc ha (hK2 _ _ hK)
theorem plain_dg {x : List UInt8} (h : (decide (x ≠ []) && zbL x) = true) : (dgL x).length = 1 := by
 simp only [Bool.and_eq_true,zbL] at h
 unfold dgL
 rw [if_pos h.2.2]
 rfl
theorem fit_of {z : Zn} (hf : 1 ≤ z.fm ∧ z.fm ≤ 3) (hn : (decide (z.nu ≠ []) && zbL z.nu) = true) (hs : ¬ (z.se ≠ [] ∧ z.fm ≠ 1)) : fitB z.fm z = decide (¬ (optN z.fm < zdo z ∨ 11 < z.se.length)) := by
 have h1:=plain_dg hn
 have h2 : (dvC z.nu z.op).length = zdo z := by
  unfold dvC zdo
  split
  · simp [h1];omega
  · simp
 have h3 : sizN z.fm 11 = optN z.fm ∧ (z.fm = 1 → sizN z.fm 13 = 11) := by
  have h:z.fm=1∨z.fm=2∨z.fm=3:=by omega
  rcases h with h | h | h <;> rw [h] <;> refine ⟨rfl,fun e=>?_⟩ <;> first | rfl | (exact absurd e (by decide))
 unfold fitB
 rw [h2,h3.1]
 by_cases e:z.fm=1
 · rw [h3.2 e, Bool.eq_iff_iff]
   simp
 · have e2 : z.se = [] := by
    rcases hq:z.se with _ | ⟨a,b⟩
    · rfl
    · exact absurd ⟨by rw [hq];simp,e⟩ hs
   rw [e2,Bool.eq_iff_iff]
   simp
theorem vE_chain (z : Zn) : zaY z = if ¬ (1 ≤ z.fm ∧ z.fm ≤ 3) then 14 else if zbw z.kd 2 = false then 14 else if zbw z.st 3 = false then 14 else if (decide (z.su ≠ []) && zaO z.su) = false then 14 else if zaO z.gi = false then 14 else if (decide (z.nu ≠ []) && zbL z.nu) = false then 14
 else if maxN z.fm < z.nu.length then 2 else if zbw z.na 3=false then 14 else if zbO z.bi=false then 8 else if sexB z.sx=false then 14 else if expB z.ex=false then 8 else if zaN z.op=false then 14 else if zaN z.se=false then 14 else if z.se≠[]∧z.fm≠1 then 14 else if fitB z.fm z=false then 2 else 0:=by
 by_cases hf:1≤z.fm∧z.fm≤3
 · rw [if_neg (by simpa using hf)]
   unfold zaY vE1
   rw [decide_eq_true hf]
   rcases h1:zbw z.kd 2 with _ | _
   · simp
   rcases h2:zbw z.st 3 with _ | _
   · simp
   rcases h3:zaO z.su with _ | _
   · simp
   by_cases h4:z.su=[]
   · simp [h4]
   rcases h5:zaO z.gi with _ | _
   · simp [h4]
   by_cases h6:z.nu=[]
   · simp [h4,h6]
   rcases h7:zbL z.nu with _ | _
   · simp [h4,h6]
   simp only [h4,h6,ne_eq,not_false_eq_true,decide_true,Bool.and_self,Bool.true_eq_false,if_false]
   by_cases h8:maxN z.fm < z.nu.length
   · rw [if_pos h8,if_pos h8]
   rw [if_neg h8,if_neg h8]
   rcases h9:zbw z.na 3 with _ | _
   · simp
   rcases h10:zbO z.bi with _ | _
   · simp
   rcases h11:sexB z.sx with _ | _
   · simp
   rcases h12:expB z.ex with _ | _
   · simp
   rcases h13:zaN z.op with _ | _
   · simp
   rcases h14:zaN z.se with _ | _
   · simp
   by_cases h15:z.se≠[]∧z.fm≠1
   · simp [h15]
   have hfit:=fit_of hf (by simp [h6,h7]) h15
   rw [hfit]
   simp only [Bool.true_eq_false,if_false,false_or,ne_eq] at h15 ⊢
   rw [if_neg h15,if_neg h15]
   by_cases h16:optN z.fm < zdo z∨11 < z.se.length
   · rw [if_pos h16,if_pos (by rw [decide_eq_false (fun hn=>hn h16)])]
   · rw [if_neg h16,if_neg (by rw [decide_eq_true h16];simp)]
 · rw [if_pos hf]
   unfold zaY vE1
   rw [decide_eq_false hf]
   simp
end Go.Proofs.YtnlhbknajdpnbaaGreatDoor
namespace Go.Proofs.YtnlhbknajdpnbaaGreatDoor
open Go.RowKit
theorem padT_len (n:Nat) (x:List UInt8):(padT n x).length=n:=by unfold padT;rw [List.length_append,List.length_take,List.length_replicate];omega
theorem padT_fit {n:Nat} {x:List UInt8} (h:x.length≤n):padT n x=x++List.replicate (n - x.length) 60:=by unfold padT;rw [List.take_of_length_le h]
theorem zbC {n:Nat} {x:List UInt8} (h:x.length=n):padT n x=x:=by rw [padT_fit (by omega),h];simp
theorem lineT_cons (p:Nat×Nat) (r:List (Nat×Nat)) (T:Nat→List UInt8):zcR (p::r) T=padT p.2 (T p.1)++zcR r T:=rfl
theorem zeA (T : Nat → List UInt8) : ∀ sg : List (Nat × Nat), (zcR sg T).length = (sg.map (·.2)).sum
 | []=>rfl
 | p::r=>by rw [lineT_cons,List.length_append,padT_len,zeA T r];simp
theorem seg_sum {f : Int} (h : 1 ≤ f ∧ f ≤ 3) {i : Nat} (hi : i < cntN f) : ((segs f i).map (·.2)).sum = widN f := by
 have h:f=1∨f=2∨f=3:=by omega
 have c1:cntN 1=3:=rfl
 have c2:cntN 2=2:=rfl
 have c3:cntN 3=2:=rfl
 rcases h with rfl | rfl | rfl
 · rw [c1] at hi
   have:i=0∨i=1∨i=2:=by omega
   rcases this with rfl | rfl | rfl <;> rfl
 · rw [c2] at hi
   have:i=0∨i=1:=by omega
   rcases this with rfl | rfl <;> rfl
 · rw [c3] at hi
   have:i=0∨i=1:=by omega
   rcases this with rfl | rfl <;> rfl
section
variable {gi:Nat→Nat} {R R':Nat→List UInt8} {ex:Nat→List Value} {n j:Nat} {A:List (Nat×List Value)}
end
theorem Own.drop {w cur : World} {A B : List (Nat × List Value)} {x : Nat × List Value} (h : Own w cur (A ++ x :: B)) : Own w cur (A ++ B) := by
 have key : ∀ (i : Nat) (p : Nat × List Value), (A ++ B)[i]? = some p → (A ++ x :: B)[if i < A.length then i else i + 1]? = some p := by
  intro i p e
  split
  · rename_i hi
    rw [List.getElem?_append_left hi] at e ⊢
    exact e
  · rename_i hi
    rw [List.getElem?_append_right (by omega)] at e ⊢
    rw [show i+1 - A.length=(i - A.length)+1 by omega,List.getElem?_cons_succ]
    exact e
 exact ⟨h.1,fun i g vs e=>h.2.1 _ g vs (key i _ e),fun i j g g' vs vs' e1 e2 hne=>h.2.2 _ _ _ _ _ _ (key i _ e1) (key j _ e2) (by split <;> split <;> omega)⟩
def OwnR (w cur : World) (L : List (Nat × List Value)) (mb r n : Nat) (T : Nat → List UInt8) (lf : Nat → Bool) (cnt : Nat) : Prop :=
 Own w cur L∧RangeIs cur mb r n T lf cnt∧mb < w.heap.size∧w.heap.size≤r∧∀(i g:Nat) (vs:List Value),L[i]? = some (g,vs)→g≠r
section
open Go.Maps
variable {w cur cur':World} {L:List (Nat×List Value)} {mb r n g i cnt:Nat} {T:Nat→List UInt8} {lf:Nat→Bool} {vs us:List Value}
theorem OwnR.bl (h:OwnR w cur L mb r n T lf cnt):Below w.heap.size w cur:=h.1.1
theorem OwnR.start (h : Own w cur L) (hb : Below cur.heap.size cur cur') (hr : RangeIs cur' mb cur.heap.size n T lf cnt) (hm : mb < w.heap.size) : OwnR w cur' L mb cur.heap.size n T lf cnt :=
 ⟨h.on hb,hr,hm,h.1.size,fun i g vs e=>by have:=(h.row e).lt;omega⟩
theorem OwnR.on (h:OwnR w cur L mb r n T lf cnt) (hb:Below cur.heap.size cur cur'):OwnR w cur' L mb r n T lf cnt:=⟨h.1.on hb,h.2.1.on hb,h.2.2⟩
theorem OwnR.new (h : OwnR w cur L mb r n T lf cnt) (hf : Fresh cur cur' g) (hr : RowV cur' g vs) : OwnR w cur' (L ++ [(g, vs)]) mb r n T lf cnt := by
 refine ⟨h.1.new hf hr,h.2.1.on hf.bw,h.2.2.1,h.2.2.2.1,fun i g' vs' e=>?_⟩
 rw [List.getElem?_append] at e
 split at e
 · exact h.2.2.2.2 i g' vs' e
 · have e' : g' = g := by
    rcases hk:i - L.length with _ | k
    · rw [hk] at e;simp at e;exact e.1.symm
    · rw [hk] at e;simp at e
   have:=(h.2.1.map trivial).2.1
   rw [e',hf.1];omega
theorem OwnR.set (h : OwnR w cur L mb r n T lf cnt) (e : L[i]? = some (g, vs)) (hw : Wr cur cur' g) (hr : RowV cur' g us) : OwnR w cur' (L.set i (g, us)) mb r n T lf cnt := by
 have hne:=h.2.2.2.2 i g vs e
 have hge:=h.1.ge e
 have hmb:=h.2.2.1
 refine ⟨h.1.set e hw hr,h.2.1.kept (zfF hw) (by simp;omega) (by simpa using Ne.symm hne),h.2.2.1,h.2.2.2.1,fun j g' vs' hj=>?_⟩
 by_cases hji:j=i
 · subst hji
   rw [List.getElem?_set_self (List.getElem?_eq_some_iff.1 e).1] at hj
   injection hj with hj
   injection hj with h1 _
   rw [←h1];exact hne
 · rw [List.getElem?_set_ne (Ne.symm hji)] at hj
   exact h.2.2.2.2 j g' vs' hj
theorem OwnR.next {cnt' : Nat} {lf' : Nat → Bool} (h : OwnR w cur L mb r n T lf cnt) (hr : RangeIs cur' mb r n T lf' cnt') (hg : cur.grownBy cur' (some r)) : OwnR w cur' L mb r n T lf' cnt' :=
 ⟨h.1.far hg (fun r' hr'=>by injection hr' with hr';rw [←hr'];exact h.2.2.2.1) (fun i g vs e he=>h.2.2.2.2 i g vs e (by injection he with he;exact he.symm)),hr,h.2.2⟩
theorem OwnR.drop {A B : List (Nat × List Value)} {x : Nat × List Value} (h : OwnR w cur (A ++ x :: B) mb r n T lf cnt) : OwnR w cur (A ++ B) mb r n T lf cnt := by
 refine ⟨h.1.drop,h.2.1,h.2.2.1,h.2.2.2.1,fun i g vs e=>?_⟩
 have key : (A ++ x :: B)[if i < A.length then i else i + 1]? = some (g, vs) := by
  split
  · rename_i hi
    rw [List.getElem?_append_left hi] at e ⊢
    exact e
  · rename_i hi
    rw [List.getElem?_append_right (by omega)] at e ⊢
    rw [show i+1 - A.length=(i - A.length)+1 by omega,List.getElem?_cons_succ]
    exact e
 exact h.2.2.2.2 _ g vs key
end
end Go.Proofs.YtnlhbknajdpnbaaGreatDoor
namespace Go.Proofs.YtnlhbknajdpnbaaGreatDoor
open Go.RowKit
theorem Own.add {w cur cur' : World} {L : List (Nat × List Value)} {g : Nat} {vs : List Value} (h : Own w cur L) (hb : Below cur.heap.size cur cur') (hr : RowV cur' g vs) (hg : cur.heap.size ≤ g) : Own w cur' (L ++ [(g, vs)]) := by
 have hlt:∀(i g':Nat) (vs':List Value),L[i]? = some (g',vs')→g'≠g:=fun i g' vs' e=>by have:=(h.row e).lt;omega
 refine ⟨zaf h.1 hb,fun i g' vs' e=>?_,fun i j g1 g2 v1 v2 e1 e2 hne=>?_⟩
 · rw [List.getElem?_append] at e
   split at e
   · exact ⟨h.ge e,(h.row e).on hb⟩
   · have e' : g' = g ∧ vs' = vs := by
      rcases hk:i - L.length with _ | k
      · rw [hk] at e;simp at e;exact ⟨e.1.symm,e.2.symm⟩
      · rw [hk] at e;simp at e
     obtain ⟨rfl,rfl⟩:=e'
     exact ⟨Nat.le_trans h.1.size hg,hr⟩
 · rw [List.getElem?_append] at e1 e2
   have key : ∀ (k : Nat) (x : Nat) (y : List Value), [(g, vs)][k]? = some (x, y) → k = 0 ∧ x = g := by
    intro k x y e
    rcases k with _ | k
    · simp at e;exact ⟨rfl,e.1.symm⟩
    · simp at e
   split at e1 <;> split at e2
   · exact h.2.2 i j g1 g2 v1 v2 e1 e2 hne
   · obtain ⟨_,rfl⟩:=key _ _ _ e2;exact hlt i g1 v1 e1
   · obtain ⟨_,rfl⟩:=key _ _ _ e1;exact (hlt j g2 v2 e2).symm
   · have:=(key _ _ _ e1).1;have:=(key _ _ _ e2).1;omega
theorem splice_get {α : Type} {vs cs : List α} {off j : Nat} (hf : off + cs.length ≤ vs.length) : (splice vs off cs)[j]? = if j < off then vs[j]? else if j < off + cs.length then cs[j - off]? else vs[j]? := by
 unfold splice
 rw [List.getElem?_append]
 have e1:(vs.take off).length=off:=by rw [List.length_take];omega
 rw [e1]
 split
 · rename_i h;rw [List.getElem?_take,if_pos h]
 · rename_i h
   rw [List.getElem?_append]
   split
   · rename_i h2;rw [if_pos (by omega)]
   · rename_i h2;rw [if_neg (by omega),List.getElem?_drop];congr 1;omega
def FillR (vs:List Value) (m:Nat):Prop:=∀j,j < m→vs[j]? = some (U 60)
theorem FillR.grow {vs : List Value} {m k : Nat} (h : FillR vs m) (hf : m + k ≤ vs.length) : FillR (splice vs m (List.replicate k (U 60))) (m + k) := by
 intro j hj
 rw [splice_get (by rw [List.length_replicate];exact hf),List.length_replicate]
 split
 · rename_i h1;exact h j h1
 · rename_i h1;rw [List.getElem?_replicate,if_pos (by omega)]
end Go.Proofs.YtnlhbknajdpnbaaGreatDoor
namespace Go.Proofs.YtnlhbknajdpnbaaGreatDoor
open Go.RowKit Go.Maps
theorem zci:(Tryz.prog.info? 9).map (·.size)=some 1:=by kernel_rfl
theorem OwnR.pre {w cur : World} {L M : List (Nat × List Value)} {mb r n : Nat} {T : Nat → List UInt8} {lf : Nat → Bool} {cnt : Nat} (h : OwnR w cur (L ++ M) mb r n T lf cnt) : OwnR w cur L mb r n T lf cnt :=
 ⟨h.1.pre,h.2.1,h.2.2.1,h.2.2.2.1,fun i g vs e=>h.2.2.2.2 i g vs (by rw [List.getElem?_append_left (List.getElem?_eq_some_iff.1 e).1];exact e)⟩
theorem RowV.sees {w : World} {g : Nat} {vs us : List Value} (h : RowV w g (vs ++ us)) : Sees w w.heap.size (some ⟨g, 0, none⟩) vs :=
 .inr ⟨g,0,rfl,h.lt,fun j hj=>by rw [Nat.zero_add,h.cell,List.getElem?_append_left hj]⟩
theorem RowV.sees0 {w : World} {g : Nat} {vs : List Value} (h : RowV w g vs) : Sees w w.heap.size (some ⟨g, 0, none⟩) vs :=
 .inr ⟨g,0,rfl,h.lt,fun j hj=>by rw [Nat.zero_add,h.cell]⟩
theorem linesT_len (f:Int) (T:Nat→List UInt8):(zdh f T).length=cntN f:=by simp [zdh]
theorem zeD (f : Int) (T : Nat → List UInt8) {j : Nat} (h : j < cntN f) : (zdh f T).getD j [] = zcR (segs f j) T := by
 unfold zdh
 rw [List.getD_eq_getElem?_getD,List.getElem?_map,List.getElem?_range h]
 rfl
end Go.Proofs.YtnlhbknajdpnbaaGreatDoor
namespace Go.Proofs.YtnlhbknajdpnbaaGreatDoor
open Go.RowKit Go.Maps
theorem zbZ {x : List UInt8} {n : Nat} (h : zbw x n = true) : x.length ≤ n := by
 unfold zbw at h
 simp only [Bool.and_eq_true,decide_eq_true_eq] at h
 exact h.1.2
theorem zbv {c : Prop} [Decidable c] {a b : Int} (ha : a ≠ 0) (h : (if c then a else b) = 0) : ¬ c ∧ b = 0 := by
 by_cases hc:c
 · rw [if_pos hc] at h;exact absurd h ha
 · rw [if_neg hc] at h;exact ⟨hc,h⟩
theorem zaK {c:Bool} (h:¬c=false):c=true:=by cases c <;> simp_all
theorem zeq {z : Zn} (h : zaY z = 0) : (1 ≤ z.fm ∧ z.fm ≤ 3) ∧ zbw z.kd 2 = true ∧ zbw z.st 3 = true ∧ (z.su ≠ [] ∧ zaO z.su = true) ∧ zaO z.gi = true ∧ (z.nu ≠ [] ∧ zbL z.nu = true) ∧ z.nu.length ≤ maxN z.fm ∧ zbw z.na 3 = true ∧ zbO z.bi = true ∧ sexB z.sx = true ∧ expB z.ex = true ∧ zaN z.op = true ∧ zaN z.se = true ∧ ¬ (z.se ≠ [] ∧ z.fm ≠ 1) ∧ fitB z.fm z = true := by
 rw [vE_chain] at h
 obtain ⟨h1,h⟩:=zbv (by decide) h
 obtain ⟨h2,h⟩:=zbv (by decide) h
 obtain ⟨h3,h⟩:=zbv (by decide) h
 obtain ⟨h4,h⟩:=zbv (by decide) h
 obtain ⟨h5,h⟩:=zbv (by decide) h
 obtain ⟨h6,h⟩:=zbv (by decide) h
 obtain ⟨h7,h⟩:=zbv (by decide) h
 obtain ⟨h8,h⟩:=zbv (by decide) h
 obtain ⟨h9,h⟩:=zbv (by decide) h
 obtain ⟨h10,h⟩:=zbv (by decide) h
 obtain ⟨h11,h⟩:=zbv (by decide) h
 obtain ⟨h12,h⟩:=zbv (by decide) h
 obtain ⟨h13,h⟩:=zbv (by decide) h
 obtain ⟨h14,h⟩:=zbv (by decide) h
 obtain ⟨h15,h⟩:=zbv (by decide) h
 have q4:=zaK h4
 have q6:=zaK h6
 rw [Bool.and_eq_true,decide_eq_true_eq] at q4 q6
 exact ⟨Decidable.not_not.1 h1,zaK h2,zaK h3,q4,zaK h5,q6,by omega,zaK h8,zaK h9,zaK h10,zaK h11,zaK h12,zaK h13,h14,zaK h15⟩
theorem Bears.fits {z : Zn} (hb : Bears z) (h : zaY z = 0) : Fits z := by
 obtain ⟨h1,h2,h3,h4,h5,h6,h7,h8,h9,h10,h11,h12,h13,h14,h15⟩:=zeq h
 have m:maxN z.fm≤20:=by unfold maxN;repeat (first | omega | split)
 have s11:=siz_le h1 (k:=11) (by decide)
 have s13:=siz_le h1 (k:=13) (by decide)
 unfold fitB at h15
 simp only [Bool.and_eq_true,decide_eq_true_eq] at h15
 have hop : z.op.length ≤ (dvC z.nu z.op).length := by
  unfold dvC
  split
  · simp;omega
  · exact Nat.le_refl _
 refine ⟨h1,⟨h4.2,h5,h4.1⟩,hb.su,hb.gi,?_,?_,?_,?_,?_,?_,?_,?_,?_⟩
 · have:=zbZ h2;omega
 · have:=zbZ h3;omega
 · omega
 · have:=zbZ h8;omega
 · unfold zbO at h9
   simp only [Bool.and_eq_true,decide_eq_true_eq] at h9
   omega
 · unfold sexB at h10
   simp only [decide_eq_true_eq] at h10
   rcases h10 with e | e | e <;> rw [e] <;> decide
 · unfold expB psE at h11
   simp only [decide_eq_true_eq] at h11
   rw [if_pos (by decide)] at h11
   by_cases hq:rpOk (S z.ex)=true
   · unfold rpOk at hq
     rw [Bool.and_eq_true,decide_eq_true_eq,zao] at hq
     omega
   · rw [if_neg hq] at h11;exact absurd h11 (by decide)
 · omega
 · omega
theorem run_enter {P : Program} {f : FuncId} {fn : Func} {c : Code} (hf : P.funcs[f]? = some fn) (hn : fn.name ≠ "runtime.NumGoroutine") (hb : fn.body = some c) (vs : Array Value) (w : World) : (callFunc f vs).run P w = .ok (.enter f vs) w := by
 simp [callFunc,hf,hn,hb]
section
variable {P:Program} {a:Act} {w:World} {K:Act→World→Prop} {Q:Exit→Act→World→Prop} {o:Oper}
end
end Go.Proofs.YtnlhbknajdpnbaaGreatDoor
namespace Go.Proofs.YtnlhbknajdpnbaaGreatDoor
open Go.RowKit Go.Maps
def zon0:List Value:=zV Zn.zero
theorem info_z:(Tryz.prog.info? 46).map (·.zero)=some (some (.agg zon0.toArray)):=by kernel_rfl
theorem zeW:(Tryz.prog.info? 46).map (·.size)=some 12:=by kernel_rfl
theorem zV_one (z : Zn) : ∀ u ∈ zV z, u.oneCell' = true := by
 intro u hu
 simp [zV] at hu
 rcases hu with rfl | rfl | rfl | rfl | rfl | rfl | rfl | rfl | rfl | rfl | rfl | rfl <;> rfl
section
variable {a:Act} {w:World} {K:Act→World→Prop} {Q:Exit→Act→World→Prop} {o:Oper}
theorem o_build {P : Program} (T : TypeId) (ps : Array (Nat × Operand)) (ho : o.op = .build T ps) {vs : Array (Nat × Value)} {v : Value} (hx : ps.map (fun p => (p.1, a.eval p.2)) = vs) (hr : (Instr.build T vs).run P w = .ok v w) (hK : K (a.put o.dst v) w) : o.wp P a w K Q := by
 unfold Oper.wp execOp
 simp only [ho,hx,Sem.run_bind,hr,Result.andThen_ok,Sem.run_pure]
 exact hK
end
end Go.Proofs.YtnlhbknajdpnbaaGreatDoor
namespace Go.Proofs.YtnlhbknajdpnbaaGreatDoor
open Go.RowKit Go.Maps
theorem OwnM.add {w cur cur' : World} {L : List (Nat × List Value)} {b n : Nat} {T : Nat → List UInt8} (h : Own w cur L) (hb : Below cur.heap.size cur cur') (hge : cur.heap.size ≤ b) (hm : MapIs cur' b n T) : OwnM w cur' L b n T :=
 ⟨h.on hb,hm,Nat.le_trans h.1.size hge,fun i g vs e=>by have:=(h.row e).lt;omega⟩
def BldW (w : World) (L : List (Nat × List Value)) (b n : Nat) (T : Nat → List UInt8) (cm : List UInt8) (ls : List (List UInt8)) (A : Option Addr) (S : Nat → Bool) (cur : World) : Prop :=
 (S 6=false→OwnM w cur L b n T)∧(S 6=true→OwnM w cur L b (n+1) (updT T 14 cm))∧Own w cur L∧(S 4=true→S 6=false→Strs cur A ls)
theorem BldW.skip {w cur cur' : World} {L : List (Nat × List Value)} {b n : Nat} {T : Nat → List UInt8} {cm : List UInt8} {ls : List (List UInt8)} {A : Option Addr} {S : Nat → Bool} {i : Nat} (h : BldW w L b n T cm ls A S cur) (hb : Below cur.heap.size cur cur') (h6 : i ≠ 6) (h4 : i ≠ 4) : BldW w L b n T cm ls A (fun j => S j || j == i) cur' := by
 obtain ⟨h1,h2,h3,h5⟩:=h
 have e6:(S 6 || (6==i))=S 6:=by simp [Ne.symm h6]
 have e4:(S 4 || (4==i))=S 4:=by simp [Ne.symm h4]
 refine ⟨fun hs=>(h1 (by rw [←e6];exact hs)).on hb,fun hs=>(h2 (by rw [←e6];exact hs)).on hb,h3.on hb,fun hs hs2=>(h5 (by rw [←e4];exact hs) (by rw [←e6];exact hs2)).on hb⟩
section
variable {w cur:World} {L:List (Nat×List Value)} {b n:Nat} {T:Nat→List UInt8} {cm:List UInt8} {ls:List (List UInt8)} {A:Option Addr} {S:Nat→Bool}
theorem BldW.start (ho:OwnM w cur L b n T):BldW w L b n T cm ls A (fun _=>false) cur:=⟨fun _=>ho,fun h=>(by cases h),ho.1,fun h=>(by cases h)⟩
theorem BldW.put (ho : OwnM w cur L b (n + 1) (updT T 14 cm)) : BldW w L b n T cm ls A (fun j => S j || j == 6) cur := by
 have e6:(S 6 || (6==6))=true:=by simp
 exact ⟨fun h=>absurd (e6.symm.trans h) (by decide),fun _=>ho,ho.1,fun _ h=>absurd (e6.symm.trans h) (by decide)⟩
end
end Go.Proofs.YtnlhbknajdpnbaaGreatDoor
