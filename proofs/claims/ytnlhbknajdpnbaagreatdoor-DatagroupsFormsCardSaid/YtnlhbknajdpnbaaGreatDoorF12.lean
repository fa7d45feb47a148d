/-
  What is proved here: words for the blocks of a call's own (each known whole), what reading and writing them does, and that the listed tables stay where they lie. Nothing of the program's functions is used.
-/
import Derived.Test.YtnlhbknajdpnbaaGreatDoorF0
import Derived.Test.YtnlhbknajdpnbaaGreatDoorF11
import Derived.Test.YtnlhbknajdpnbaaGreatDoorF6
import Derived.Maps.RangeWalk
import Derived.Deep.DeepMust
import Derived.Test.YtnlhbknajdpnbaaGreatDoorF10
import Derived.Great.BuildSlice
import Derived.Great.Walk
import Derived.Deep.AppendLies
import Derived.Test.YtnlhbknajdpnbaaGreatDoorRows
set_option linter.unusedVariables false
set_option linter.unusedSimpArgs false
namespace Go.Proofs.YtnlhbknajdpnbaaGreatDoor
open Go.RowKit
def Own (w cur : World) (L : List (Nat × List Value)) : Prop :=
 Below w.heap.size w cur∧(∀(i g:Nat) (vs:List Value),L[i]? = some (g,vs)→w.heap.size≤g∧RowV cur g vs)∧∀(i j g g':Nat) (vs vs':List Value),L[i]? = some (g,vs)→L[j]? = some (g',vs')→i≠j→g≠g'
section
variable {w cur cur':World} {L:List (Nat×List Value)} {i g:Nat} {vs us:List Value}
theorem Own.start (w:World):Own w w []:=⟨Below.refl _ _,fun i g vs h=>by simp at h,fun i j g g' vs vs' h=>by simp at h⟩
theorem Own.bl (h:Own w cur L):Below w.heap.size w cur:=h.1
theorem Own.row (h:Own w cur L) (e:L[i]? = some (g,vs)):RowV cur g vs:=(h.2.1 i g vs e).2
theorem Own.ge (h:Own w cur L) (e:L[i]? = some (g,vs)):w.heap.size≤g:=(h.2.1 i g vs e).1
theorem Own.on (h : Own w cur L) (hb : Below cur.heap.size cur cur') : Own w cur' L :=
 ⟨zaf h.1 hb,fun i g vs e=>⟨h.ge e,(h.row e).on hb⟩,h.2.2⟩
theorem Own.new (h : Own w cur L) (hf : Fresh cur cur' g) (hr : RowV cur' g vs) : Own w cur' (L ++ [(g, vs)]) := by
 have hlt:∀(i g':Nat) (vs':List Value),L[i]? = some (g',vs')→g'≠g:=fun i g' vs' e=>(h.row e).ne hf
 refine ⟨hf.bl h.1,fun i g' vs' e=>?_,fun i j g1 g2 v1 v2 e1 e2 hne=>?_⟩
 · rw [List.getElem?_append] at e
   split at e
   · exact ⟨h.ge e,(h.row e).fresh hf⟩
   · have e' : g' = g ∧ vs' = vs := by
      rcases hk:i - L.length with _ | k
      · rw [hk] at e;simp at e;exact ⟨e.1.symm,e.2.symm⟩
      · rw [hk] at e;simp at e
     obtain ⟨rfl,rfl⟩:=e'
     exact ⟨hf.ge h.1,hr⟩
 · rw [List.getElem?_append] at e1 e2
   have key : ∀ (k : Nat) (x : Nat) (y : List Value), [(g, vs)][k]? = some (x, y) → k = 0 ∧ x = g := by
    intro k x y e
    rcases k with _ | k
    · simp at e;exact ⟨rfl,e.1.symm⟩
    · simp at e
   split at e1 <;> split at e2
   · exact h.2.2 i j g1 g2 v1 v2 e1 e2 hne
   · obtain ⟨_,rfl⟩:=key _ _ _ e2;exact hlt i g1 v1 e1
   · obtain ⟨_,rfl⟩:=key _ _ _ e1;exact (hlt j g2 v2 e2).symm
   · have:=(key _ _ _ e1).1;have:=(key _ _ _ e2).1;omega
theorem Own.set (h : Own w cur L) (e : L[i]? = some (g, vs)) (hw : Wr cur cur' g) (hr : RowV cur' g us) : Own w cur' (L.set i (g, us)) := by
 have hlt:i < L.length:=(List.getElem?_eq_some_iff.1 e).1
 have key : ∀ (j x : Nat) (y : List Value), (L.set i (g, us))[j]? = some (x, y) → (j = i ∧ x = g ∧ y = us) ∨ (j ≠ i ∧ L[j]? = some (x, y)) := by
  intro j x y hj
  by_cases hji:j=i
  · subst hji
    rw [List.getElem?_set_self hlt] at hj
    injection hj with hj
    injection hj with h1 h2
    exact .inl ⟨rfl,h1.symm,h2.symm⟩
  · rw [List.getElem?_set_ne (Ne.symm hji)] at hj
    exact .inr ⟨hji,hj⟩
 refine ⟨Wr.bl h.1 hw (h.ge e),fun j g' vs' hj=>?_,fun j k g1 g2 v1 v2 e1 e2 hne=>?_⟩
 · rcases key j g' vs' hj with ⟨rfl, rfl, rfl⟩ | ⟨hne, hj⟩
   · exact ⟨h.ge e,hr⟩
   · exact ⟨h.ge hj,(h.row hj).wr hw (h.2.2 j i g' g vs' vs hj e hne)⟩
 · rcases key j g1 v1 e1 with ⟨rfl, rfl, rfl⟩ | ⟨hn1, f1⟩ <;> rcases key k g2 v2 e2 with ⟨rfl, rfl, rfl⟩ | ⟨hn2, f2⟩
   · exact absurd rfl hne
   · exact h.2.2 _ _ _ _ _ _ e f2 hne
   · exact h.2.2 _ _ _ _ _ _ f1 e hne
   · exact h.2.2 _ _ _ _ _ _ f1 f2 hne
theorem Own.far {row : Option Nat} (h : Own w cur L) (hg : cur.grownBy cur' row) (hr : ∀ r, row = some r → w.heap.size ≤ r) (hne : ∀ (i g : Nat) (vs : List Value), L[i]? = some (g, vs) → row ≠ some g) : Own w cur' L := by
 refine ⟨⟨hg.os.trans h.1.os,hg.tape.trans h.1.tape,hg.output.trans h.1.output,Nat.le_trans h.1.size hg.size,fun k hk=>(hg.block k (Nat.lt_of_lt_of_le hk h.1.size) (fun e=>?_)).trans (h.1.block k hk)⟩,fun i g vs e=>⟨h.ge e,(h.row e).same (hg.block g (h.row e).lt (fun e1=>hne i g vs e e1.symm))⟩,h.2.2⟩
 have:=hr k e.symm
 omega
end
theorem zab {P : Program} {ops : Array Oper} {rest : List Oper} {op : Oper} {a : Act} {w : World} {Q : Exit → Act → World → Prop} (hgd : op.guard = none) (ty : TypeId) (x : Operand) (ho : op.op = .load ty x) (g k : Nat)
 (hx:a.eval x=.pointer (some ⟨g,k,none⟩)) (v:Value) (hc:w.cell? ⟨g,k,none⟩=some v) (ha:∀w,(isAgg ty).run P w=.ok false w)
 (hK:wpList P ops Q rest (a.put op.dst v) w):wpList P ops Q (op::rest) a w:=by
 refine wpList_plain hgd fun K hK2=>?_
 have hr:(loadVar ty ⟨g,k,none⟩).run P w=.ok v w:=by simp [loadVar,ha,hc,go_sem]
 unfold Oper.wp execOp
 simp only [ho,hx,Instr.loadAt,Instr.sureAddr,Sem.run_bind,Sem.run_pure,Result.andThen_ok,hr]
 exact hK2 _ _ hK
theorem zbl {P:Program} {ops:Array Oper} {rest:List Oper} {a:Act} {w:World} {Q:Exit→Act→World→Prop} {d:Nat} {x:Operand} {ty t:TypeId} {ps:String} {af:Array Edge} {gd:Option (Nat×Bool)} (h:wpList P ops Q (⟨some d,.box ty x,t,ps,af,gd⟩::rest) a w):wpList P ops Q (⟨some d,.box ty x,t,ps,af,gd⟩::rest) a w:=h
theorem zaQ {P : Program} {ops : Array Oper} {C : World → Prop} {Q : Act → Prop} {a : Act} {o : Oper} {rest : List Oper} (hw : Region.wanted o (yielded ops a.tmps) = true) (ty : TypeId) (x : Operand) (ho : o.op = .load ty x) (g : Nat) (hx : a.eval x = .pointer (some ⟨g, 0, none⟩)) (vs : List Value) (d : TypeDesc)
 (h:∀w,C w→RowV w g vs) (hu:P.underlying ty=some d) (hd:d.isRow=true) (hi:(P.info? ty).map (·.size)=some vs.length) (hK:wpQuiet P ops C Q rest (a.put o.dst (.agg vs.toArray))):wpQuiet P ops C Q (o::rest) a:=by
 refine Go.BigFrame.wpQuiet_want hw fun K hKK=>?_
 refine ⟨_,fun w hc=>?_,hKK _ hK⟩
 have hr:=run_loadVar_mid (P:=P) w g 0 ty vs d (h w hc).whole hu hd hi
 unfold Oper.quietAt execOp
 simp only [ho,hx,Instr.loadAt,Instr.sureAddr,Sem.run_bind,Sem.run_pure,Result.andThen_ok,hr]
 exact ⟨rfl,rfl⟩
theorem zbB {P : Program} {ops : Array Oper} {C : World → Prop} {Q : Act → Prop} {a : Act} {d : Nat} {rest : List Oper} {x : Operand} {ty t : TypeId} {ps : String} {af : Array Edge} {gd : Option (Nat × Bool)}
 (h:wpQuiet P ops C Q (⟨some d,.load ty x,t,ps,af,gd⟩::rest) a):wpQuiet P ops C Q (⟨some d,.load ty x,t,ps,af,gd⟩::rest) a:=h
theorem RowV.up {w:World} {g:Nat} {vs:List Value} (h:RowV w g vs):∀w',(∃p:Regrown,w'=Go.Sort.grow (redrawn w p.d) p.os)→RowV w' g vs:=fun w' hw=>h.on (zag hw)
end Go.Proofs.YtnlhbknajdpnbaaGreatDoor
namespace Go.Proofs.YtnlhbknajdpnbaaGreatDoor
open Go.RowKit
theorem rpart_cases (k p : Int) : ((k == 1) = false ∧ (k == 2) = false ∧ (k == 3) = false ∧ zcf k p = false) ∨
 (k=1∧decide (p < 0)=true∧zcf k p=false)∨(k=1∧decide (p < 0)=false∧decide (0 < p)=true∧zcf k p=false)∨(k=1∧decide (p < 0)=false∧decide (0 < p)=false∧zcf k p=true) ∨
 (k=2∧decide (p < 0)=true∧zcf k p=false)∨(k=2∧decide (p < 0)=false∧decide (10 < p)=true∧zcf k p=false)∨(k=2∧decide (p < 0)=false∧decide (10 < p)=false∧(p==0)=true∧zcf k p=false)∨(k=2∧decide (p < 0)=false∧decide (10 < p)=false∧(p==0)=false∧zcf k p=true) ∨
 (k=3∧decide (p < 0)=true∧zcf k p=false)∨(k=3∧decide (p < 0)=false∧decide (2 < p)=true∧zcf k p=false)∨(k=3∧decide (p < 0)=false∧decide (2 < p)=false∧(p==0)=true∧zcf k p=false)∨(k=3∧decide (p < 0)=false∧decide (2 < p)=false∧(p==0)=false∧zcf k p=true):=by
 unfold zcf
 by_cases h1:k=1
 · subst h1
   simp
   omega
 · by_cases h2 : k = 2
   · subst h2
     simp
     omega
   · by_cases h3 : k = 3
     · subst h3
       simp
       omega
     · simp [h1,h2,h3]
set_option maxHeartbeats 6400000 in
theorem r_valid_B2 (x : Tm) (A : Option Addr) (c : Nat) (w : World) : Calls Tryz.prog 75 #[.agg (x.cs A c).toArray] w fun e w' => e = .returned (.int .i64 (vT x)) ∧ Below w.heap.size w w' := by
 have hF:=fun w=>zfB x.f w
 have hT:=fun w=>zfB x.t w
 obtain ⟨n,hn⟩ : ∃n,x.d.length=n:=⟨_,rfl⟩
 have hc:=vT_cases x n hn
 have hk:=rpart_cases x.k x.p
 have ha:(x.cs A c).toArray=#[.int .i64 x.k,.int .i64 x.p,.int .i64 x.f,.int .i64 x.t,.int .i64 x.fo,.int .i64 x.q,.slice A n c]:=by rw [←hn];rfl
 rw [ha]
 clear ha hn
 obtain ⟨v,hv⟩ : ∃v,vT x=v:=⟨_,rfl⟩
 obtain ⟨k,p,f,t,fo,q,d⟩:=x
 simp only at hF hT hc hk ⊢
 rw [hv] at hc ⊢
 obtain ⟨b1,hb1⟩ : ∃b,zcf k p=b:=⟨_,rfl⟩
 obtain ⟨b2,hb2⟩ : ∃b,dayB f=b:=⟨_,rfl⟩
 obtain ⟨b3,hb3⟩ : ∃b,dayB t=b:=⟨_,rfl⟩
 rw [hb1] at hk hc
 rw [hb2] at hF hc
 rw [hb3] at hT hc
 have HP:=Lib.hid (show _∧_ from ⟨hF,hT⟩)
 clear hF hT hb1 hb2 hb3 hv
 rcases hk with ⟨h1,h2,h3,rfl⟩ | ⟨rfl,h1,rfl⟩ | ⟨rfl,h1,h2,rfl⟩ | ⟨rfl,h1,h2,rfl⟩ | ⟨rfl,h1,rfl⟩ | ⟨rfl,h1,h2,rfl⟩ | ⟨rfl,h1,h2,h3,rfl⟩ | ⟨rfl,h1,h2,h3,rfl⟩ | ⟨rfl,h1,rfl⟩ | ⟨rfl,h1,h2,rfl⟩ | ⟨rfl,h1,h2,h3,rfl⟩ | ⟨rfl,h1,h2,h3,rfl⟩
 all_goals
  simp only [Bool.false_eq_true,Bool.true_eq_false,true_and,false_and,or_false,false_or] at hc
 all_goals first
  | subst hc
  | rcases hc with ⟨rfl,rfl⟩ | ⟨rfl,rfl,rfl⟩ | ⟨rfl,rfl,h4,rfl⟩ | ⟨rfl,rfl,h4,⟨h5,rfl⟩ | ⟨h5,h6,rfl⟩ | ⟨h5,h6,h7,rfl⟩ | ⟨h5,h6,h7,h8,rfl⟩ | ⟨h5,h6,h7,h8,⟨rfl,rfl⟩ | ⟨h9,h10,rfl⟩ | ⟨h9,h10,rfl⟩⟩⟩
 all_goals
  go_enter Tryz.func75,Tryz.ntmps75
  go_wp2_with (first
   | (go_at_call 98;((with_reducible refine (HP.out.1 _).mono ?_);rintro e w' ⟨rfl,rfl⟩))
   | (go_at_call 98;((with_reducible refine (HP.out.2 _).mono ?_);rintro e w' ⟨rfl,rfl⟩)))
  go_ret
  exact ⟨rfl,zfM _ _⟩
end Go.Proofs.YtnlhbknajdpnbaaGreatDoor
namespace Go.Proofs.YtnlhbknajdpnbaaGreatDoor
open Go.RowKit
theorem zal {P:Program} {ops:Array Oper} {rest:List Oper} {a:Act} {w:World} {Q:Exit→Act→World→Prop} {d:Nat} {op:Op} {t:TypeId} {ps:String} {af:Array Edge} {gd:Option (Nat×Bool)} (h:wpList P ops Q (⟨some d,op,t,ps,af,gd⟩::rest) a w):wpList P ops Q (⟨some d,op,t,ps,af,gd⟩::rest) a w:=h
theorem zaS {P:Program} {ops:Array Oper} {rest:List Oper} {a:Act} {w:World} {Q:Exit→Act→World→Prop} {d:Nat} {x:Call} {t:TypeId} {ps:String} {af:Array Edge} {gd:Option (Nat×Bool)} (h:wpList P ops Q (⟨some d,.call x,t,ps,af,gd⟩::rest) a w):wpList P ops Q (⟨some d,.call x,t,ps,af,gd⟩::rest) a w:=h
def zerT:List Value:=[.int .i64 0,.int .i64 0,.int .i64 0,.int .i64 0,.int .i64 0,.int .i64 0,.slice none 0 0]
theorem zcS:(Tryz.prog.info? 85).map (·.zero)=some (some (.agg zerT.toArray)):=by kernel_rfl
theorem zbg:(Tryz.prog.info? 85).map (·.size)=some 7:=by kernel_rfl
theorem cs_one (x : Tm) (A : Option Addr) (c : Nat) : ∀ u ∈ x.cs A c, u.oneCell' = true := by
 intro u hu
 simp only [Tm.cs,List.mem_cons,List.not_mem_nil,or_false] at hu
 rcases hu with rfl | rfl | rfl | rfl | rfl | rfl | rfl <;> rfl
end Go.Proofs.YtnlhbknajdpnbaaGreatDoor
namespace Go.Proofs.YtnlhbknajdpnbaaGreatDoor
open Go.RowKit
def Is (l:List Int):List Value:=l.map (Value.int .i64)
theorem Is_len (l:List Int):(Is l).length=l.length:=by simp [Is]
def IntR (w:World) (A:Option Addr) (m c:Nat) (l:List Int) (cur:World):Prop:=cur.ownsRow w.heap.size 3 1 (.slice A m c) m (Is l)∧Below w.heap.size w cur
theorem IntR.start (w:World):IntR w none 0 0 [] w:=⟨World.ownsRow_nil w _ _ 1,Below.refl _ _⟩
theorem IntR.on {w cur cur':World} {A:Option Addr} {m c:Nat} {l:List Int} (h:IntR w A m c l cur) (hb:Below cur.heap.size cur cur'):IntR w A m c l cur':=⟨zaI h.1 hb,zaf h.2 hb⟩
theorem IntR.sees {w cur : World} {A : Option Addr} {m c : Nat} {l : List Int} (h : IntR w A m c l cur) : SeesP cur (· < cur.heap.size) A (Is l) ∧ l.length = m := by
 obtain ⟨h1,h2⟩:=h
 refine ⟨?_,by have:=h1.1;simpa [Is_len] using this⟩
 rcases h1.2 with ⟨h0,hn⟩ | ⟨g,cap,cur2,hv,hg,hh,hn,hm,hs,ht⟩
 · left
   have:=h1.1
   rw [hn] at this
   exact List.eq_nil_of_length_eq_zero (by simpa using this)
 · injection hv with hv
   refine .inr ⟨g,0,hv,lt_of_block hh,fun j hj=>?_⟩
   have hl:=h1.1
   rw [Nat.zero_add,cell_of_row cur g j cur2 _ (0,0) hh,←ht,List.getElem?_take,if_pos (by omega),Array.getElem?_toList]
def UseIs (l:List Int) (w:World) (e:Ending) (w':World):Prop:=∃A c,e=.returned (.slice A l.length c)∧SeesP w' (· < w'.heap.size) A (Is l)∧Below w.heap.size w w'
theorem IntR.done {w cur : World} {A : Option Addr} {m c : Nat} {l : List Int} (h : IntR w A m c l cur) : UseIs l w (.returned (.slice A m c)) cur := by
 obtain ⟨h1,h2⟩:=h.sees
 exact ⟨A,c,by rw [h2],h1,h.2⟩
end Go.Proofs.YtnlhbknajdpnbaaGreatDoor
namespace Go.Proofs.YtnlhbknajdpnbaaGreatDoor
open Go.RowKit
theorem zdw {P : Program} {ops : Array Oper} {Q : Exit → Act → World → Prop} {id : Nat} {w : World} (hm : P.follows .mixedOrders = true) (a0 : Act) {B : Type} (v : B → Nat → Value) (W : B → (Nat → Bool) → World → Prop) (hB : zfL ops a0.tmps.size = true)
 (b0:B) (h0:W b0 (fun _=>false) { w with drawn:=w.drawn+1 })
 (hstep : ∀ (i : Nat) (o : Oper), ops[i]? = some o → ∀ (b : B) (S : Nat → Bool) (w : World) (a : Act), W b S w → S i = false → (∀ e ∈ o.after, Region.binds .any e = true → S e.on = true) → SlotsIn ops a0 S (v b) a → zez ops S →
  o.wp P a w (fun a' w'=>∃b',(∀j,S j=true→v b' j=v b j)∧a'=a.put o.dst (v b' i)∧W b' (fun j=>S j || j==i) w') Q)
 (hend:∀(b:B) (w:World) (S:Nat→Bool),(∀j,j < ops.size→S j=true)→W b S w→Q .normal (zbz (v b) 0 ops.toList a0) w):(Code.region id ops true).wp P Q a0 w:=by
 refine region_setE2 hm a0 v (fun b S w=>W b S w∧zez ops S) hB b0 ⟨h0,fun j oj _ h=>by cases h⟩ ?_ (fun b w a S h1 h2 h3=>by rw [h2.all2 hB h1];exact hend b w S h1 h3.1)
 intro i o ho b S w a hW hSi hdep hS
 refine Oper.wp_mono ?_ (hstep i o ho b S w a hW.1 hSi hdep hS hW.2)
 rintro a' w' ⟨b',h1,e0,h3⟩
 refine ⟨b',h1,e0,h3,fun j oj hj hSj e he hb=>?_⟩
 by_cases hji:j=i
 · subst hji
   rw [ho] at hj
   injection hj with hj
   subst hj
   show (S e.on || e.on==j)=true
   rw [hdep e he hb];rfl
 · have : S j = true := by simpa [hji] using hSj
   show (S e.on || e.on==i)=true
   rw [hW.2 j oj hj this e he hb];rfl
def Firm (X:Value→World→Prop):Prop:=∀u c c',X u c→Below c.heap.size c c'→X u c'
def Step (I : World → Prop) (K : Nat) (X : Nat → Value → World → Prop) (S : Nat → Bool) (v : Nat → Value) (c : World) (a : Act) (o : Oper) (i : Nat) (a' : Act) (w' : World) : Prop :=
 ∃u,a'=a.put o.dst u∧X i u w'∧(Below c.heap.size c w'∨(i=K∧I w'∧∀j,S j=true→X j (v j) w'))
theorem zbG {P : Program} {ops : Array Oper} {Q : Exit → Act → World → Prop} {id : Nat} {w : World} (hm : P.follows .mixedOrders = true) (a0 : Act) (w1 : World) (I : World → Prop) (K : Nat) (X : Nat → Value → World → Prop) (hB : zfL ops a0.tmps.size = true) (hF : ∀ i, Firm (X i)) (hI : ∀ c c', I c → Below c.heap.size c c' → I c')
 (h0:Below w1.heap.size w1 w) (h1:I w)
 (hstep : ∀ (i : Nat) (o : Oper), ops[i]? = some o → ∀ (v : Nat → Value) (S : Nat → Bool) (c : World) (a : Act), I c → (S K = false → Below w1.heap.size w1 c) → (∀ j, S j = true → X j (v j) c) → S i = false → (∀ e ∈ o.after, Region.binds .any e = true → S e.on = true) → SlotsIn ops a0 S v a → zez ops S →
  o.wp P a c (Step I K X S v c a o i) Q)
 (hend:∀(v:Nat→Value) (c:World),I c→(∀j,j < ops.size→X j (v j) c)→Q .normal (zbz v 0 ops.toList a0) c):(Code.region id ops true).wp P Q a0 w:=by
 refine zdw hm a0 (fun v=>v) (fun v S c=>I c∧(S K=false→Below w1.heap.size w1 c)∧∀j,S j=true→X j (v j) c) hB (fun _=>undef) ⟨hI _ _ h1 (zbS _ _ 1),fun _=>zbq h0 1,fun j h=>by cases h⟩ ?_ (fun v c S hall hW=>hend v c hW.1 fun j hj=>hW.2.2 j (hall j hj))
 intro i o ho v S c a hW hSi hdep hS hC
 refine Oper.wp_mono ?_ (hstep i o ho v S c a hW.1 hW.2.1 hW.2.2 hSi hdep hS hC)
 rintro a' w' ⟨u,e,h2,h3⟩
 refine ⟨fun j=>if j=i then u else v j,fun j hj=>?_,by simpa using e,?_,fun hK=>?_,fun j hj=>?_⟩
 · have : j ≠ i := by rintro rfl; rw [hSi] at hj; cases hj
   simp [this]
 · rcases h3 with h3 | h3
   · exact hI _ _ hW.1 h3
   · exact h3.2.1
 · have hK2 : S K = false ∧ K ≠ i := by simpa using hK
   rcases h3 with h3 | h3
   · exact zaf (hW.2.1 hK2.1) h3
   · exact absurd h3.1.symm hK2.2
 · by_cases hji : j = i
   · subst hji;simpa using h2
   · have hSj : S j = true := by simpa [hji] using hj
     simp only [hji,if_false]
     rcases h3 with h3 | h3
     · exact hF j _ _ _ (hW.2.2 j hSj) h3
     · exact h3.2.2 j hSj
def zef (L:List (Value→World→Prop)) (i:Nat):Value→World→Prop:=L.getD i (fun _ _=>True)
theorem zbR {L : List (Value → World → Prop)} (h : ∀ X ∈ L, Firm X) (i : Nat) : Firm (zef L i) := by
 unfold zef
 rcases hi:L[i]? with _ | X
 · simp only [List.getD, hi, Option.getD_none]
   exact fun _ _ _ _ _=>trivial
 · simp only [List.getD, hi, Option.getD_some]
   exact h X (List.mem_of_getElem? hi)
theorem zaq (x:Value):Firm (fun u _=>u=x):=fun _ _ _ h _=>h
section
variable {a:Act} {c:World} {o:Oper} {I:World→Prop} {K:Nat} {X:Nat→Value→World→Prop} {S:Nat→Bool} {v:Nat→Value} {i:Nat}
theorem Step.still {x:Value} (h:X i x c):Step I K X S v c a o i (a.put o.dst x) c:=⟨x,rfl,h,.inl (Below.refl _ _)⟩
theorem Step.new {x:Value} {c':World} (h:X i x c') (hb:Below c.heap.size c c'):Step I K X S v c a o i (a.put o.dst x) c':=⟨x,rfl,h,.inl hb⟩
theorem Step.turn {x:Value} {c':World} (h:X i x c') (hK:i=K) (hI:I c') (hX:∀j,S j=true→X j (v j) c'):Step I K X S v c a o i (a.put o.dst x) c':=⟨x,rfl,h,.inr ⟨hK,hI,hX⟩⟩
end
section
variable {P:Program} {a:Act} {w:World} {K:Act→World→Prop} {Q:Exit→Act→World→Prop} {o:Oper}
theorem zaR (fo : Operand) (f : FuncId) (args : Array Operand) (tys : Array TypeId) (ho : o.op = .call { callee := .value fo, args := args, argTypes := tys }) {vs : Array Value} (hf : a.eval fo = .func (.func f) #[] #[]) (hx : args.map a.eval = vs) (hr : (callFunc f vs).run P w = .ok (.enter f vs) w)
 {R:Ending→World→Prop} (h:Calls P f vs w R) (hR:∀e w',R e w'→∃v,e=.returned v∧K (a.put o.dst v) w'):o.wp P a w K Q:=by
 have h1 : (execOp a.eval o).run P w = .ok (.enter f vs) w := by
  simp [execOp,ho,resolve,invoke,hx,hf,hr,Deferred.ofValue]
 unfold Oper.wp
 rw [h1,Oper.upon_enter]
 refine h.mono ?_
 intro e w' hq
 obtain ⟨v,rfl,hK⟩:=hR e w' hq
 exact hK
theorem o_bld (t : TypeId) (parts : Array (Nat × Operand)) (ho : o.op = .build t parts) {ps : List (Nat × Value)} (hp : (parts.map fun (i, x) => (i, a.eval x)).toList = ps) {vs : List Value} (hb : P.built t ps = some vs.toArray) (hK : K (a.put o.dst (.agg vs.toArray)) w) : o.wp P a w K Q := by
 refine wp_build t parts ho (by rw [hp,hb];rfl) ?_
 rw [hp,hb]
 exact hK
theorem zeI (t e : TypeId) (len : Nat) (parts : Array (Nat × Operand)) (ho : o.op = .buildSlice t len parts) (hu : P.underlying t = some (.slice e)) {ps : List (Nat × Value)} (hp : (parts.map fun (i, x) => (i, a.eval x)).toList = ps) {vs : List Value} (hf : P.builtSlice e len ps = some vs.toArray)
 (hK:∀g w',Fresh w w' g→RowV w' g vs→K (a.put o.dst (.slice (some ⟨g,0,none⟩) len len)) w'):o.wp P a w K Q:=by
 unfold Program.builtSlice at hf
 cases hie:P.info? e with
 | none=>simp [hie] at hf
 | some ie =>
   simp only [hie] at hf
   cases hz:ie.zero with
   | none=>simp [hz] at hf
   | some z =>
     simp only [hz] at hf
     by_cases hc:len*ie.size > 2 ^ 24∨len*ie.size=0
     · simp [hc] at hf
     · rw [if_neg hc] at hf
       exact wp_buildSlice t e len parts ho vs.toArray ie z hu hie hz (fun h=>hc (.inl h)) (fun h=>hc (.inr h)) (by rw [hp];exact hf) (hK _ _ ⟨rfl,_,rfl⟩ (RowV.new (by simp)))
theorem o_bin (b : BinOp) (T T2 : TypeId) (x y : Operand) (ho : o.op = .binOp b T x y T2) {v vx vy : Value} (hx : a.eval x = vx) (hy : a.eval y = vy) (hr : (do eqGuard b T x y vx vy; binOp b T vx vy).run P w = .ok v w) (hK : K (a.put o.dst v) w) : o.wp P a w K Q := by
 unfold Oper.wp execOp
 simp only [ho,hx,hy]
 rw [Sem.run_bind,hr]
 exact hK
theorem o_cv (T1 T2 : TypeId) (x : Operand) (ho : o.op = .convert T1 T2 x) {v vx : Value} (hx : a.eval x = vx) (hr : (convert T1 T2 vx).run P w = .ok v w) (hK : K (a.put o.dst v) w) : o.wp P a w K Q := by
 unfold Oper.wp execOp
 simp only [ho,hx,Sem.run_bind,hr,Result.andThen_ok,Sem.run_pure]
 exact hK
end
theorem zap {P : Program} {ops : Array Oper} {rest : List Oper} {o : Oper} {a : Act} {w : World} {Q : Exit → Act → World → Prop} (hgd : o.guard = none) (t e : TypeId) (len : Nat) (parts : Array (Nat × Operand)) (ho : o.op = .buildSlice t len parts) (hu : P.underlying t = some (.slice e)) {ps : List (Nat × Value)} (hp : (parts.map fun (i, x) => (i, a.eval x)).toList = ps) {vs : List Value} (hf : P.builtSlice e len ps = some vs.toArray)
 (hK:∀g w',Fresh w w' g→RowV w' g vs→wpList P ops Q rest (a.put o.dst (.slice (some ⟨g,0,none⟩) len len)) w'):wpList P ops Q (o::rest) a w :=
 wpList_plain hgd fun _ hK2=>zeI t e len parts ho hu hp hf fun g w' h1 h2=>hK2 _ _ (hK g w' h1 h2)
theorem zcl {P : Program} {ops : Array Oper} {rest : List Oper} {o : Oper} {a : Act} {w : World} {Q : Exit → Act → World → Prop} (hgd : o.guard = none) (t e : TypeId) (len : Nat) (parts : Array (Nat × Operand)) (ho : o.op = .buildSlice t len parts) (hu : P.underlying t = some (.slice e)) {ps : List (Nat × Value)} (hp : (parts.map fun (i, x) => (i, a.eval x)).toList = ps) {vs : List Value} (hf : P.builtSlice e len ps = some vs.toArray)
 (hK:∀g w',Fresh w w' g→w'.heap[g]? = some (.cells vs.toArray e (0,0))→wpList P ops Q rest (a.put o.dst (.slice (some ⟨g,0,none⟩) len len)) w'):wpList P ops Q (o::rest) a w:=by
 refine wpList_plain hgd fun K hK2=>?_
 unfold Program.builtSlice at hf
 cases hie:P.info? e with
 | none=>simp [hie] at hf
 | some ie =>
   simp only [hie] at hf
   cases hz:ie.zero with
   | none=>simp [hz] at hf
   | some z =>
     simp only [hz] at hf
     by_cases hc:len*ie.size > 2 ^ 24∨len*ie.size=0
     · simp [hc] at hf
     · rw [if_neg hc] at hf
       exact wp_buildSlice t e len parts ho vs.toArray ie z hu hie hz (fun h=>hc (.inl h)) (fun h=>hc (.inr h)) (by rw [hp];exact hf) (hK2 _ _ (hK _ _ ⟨rfl,_,rfl⟩ (heap_alloc_new w _)))
theorem zdX {w : World} {base g n size : Nat} {e : TypeId} {vs : List Value} (h : w.heap[g]? = some (.cells vs.toArray e (0, 0))) (hl : vs.length = n * size) (hn : n ≤ maxLen) (hb : base ≤ g) : w.ownsRow base e size (.slice (some ⟨g, 0, none⟩) n n) n vs :=
 ⟨hl,.inr ⟨g,n,vs.toArray,rfl,hb,h,Nat.le_refl _,hn,by simpa using hl,by rw [List.take_of_length_le (by simp [hl])]⟩⟩
end Go.Proofs.YtnlhbknajdpnbaaGreatDoor
namespace Go.Proofs.YtnlhbknajdpnbaaGreatDoor
open Go.RowKit
theorem grown_new {w w':World} (h:w.grownBy w' none):Below w.heap.size w w':=⟨h.os,h.tape,h.output,h.size,fun k hk=>h.block k hk (by intro e;cases e)⟩
def NewIs (w:World) (v:List UInt8) (n:Nat) (e:Ending) (w':World):Prop:=∃A c,e=.returned (.slice A n c)∧((A=none→c=0)∧n≤c)∧SeesP w' (newB w w') A (Us v)∧Below w.heap.size w w'
def PrimIs (w:World) (t:Int) (v:List UInt8) (n:Nat) (e:Ending) (w':World):Prop:=∃A c,e=.returned (.agg (nodV t A n c none 0 0).toArray)∧((A=none→c=0)∧n≤c)∧SeesP w' (newB w w') A (Us v)∧Below w.heap.size w w'
def zerN:List Value:=[.int .i64 0,.slice none 0 0,.slice none 0 0]
theorem zcc:(Tryz.prog.info? 64).map (·.zero)=some (some (.agg zerN.toArray)):=by kernel_rfl
theorem zbV:(Tryz.prog.info? 64).map (·.size)=some 3:=by kernel_rfl
theorem zbK (t : Int) (Av : Option Addr) (lv cv : Nat) (Ak : Option Addr) (lk ck : Nat) : ∀ u ∈ nodV t Av lv cv Ak lk ck, u.oneCell' = true := by
 intro u hu
 simp only [nodV,List.mem_cons,List.not_mem_nil,or_false] at hu
 rcases hu with rfl | rfl | rfl <;> rfl
end Go.Proofs.YtnlhbknajdpnbaaGreatDoor
namespace Go.Proofs.YtnlhbknajdpnbaaGreatDoor
open Go.RowKit
def zfm : List (Int × List UInt8) → F
 | []=>.nil
 | a::r=>.cons a.1 a.2 .nil (zfm r)
theorem ag_i:∀w,(isAgg 3).run Tryz.prog w=.ok false w:=fun w=>by kernel_rfl
theorem ev1 {a:Act} {x:Operand} {v:Value} (h:a.eval x=v):(#[x]:Array Operand).map a.eval=#[v]:=by simp [h]
theorem ev2 {a:Act} {x y:Operand} {u v:Value} (h:a.eval x=u) (h2:a.eval y=v):(#[x,y]:Array Operand).map a.eval=#[u,v]:=by simp [h,h2]
theorem ev3 {a:Act} {x y z:Operand} {u v t:Value} (h:a.eval x=u) (h2:a.eval y=v) (h3:a.eval z=t):(#[x,y,z]:Array Operand).map a.eval=#[u,v,t]:=by simp [h,h2,h3]
theorem bs1 (u1 u2 u3:Value):Tryz.prog.builtSlice 64 1 [(0,.agg #[u1,u2,u3])]=some #[u1,u2,u3]:=by kernel_rfl
theorem bs2 (u1 u2 u3 v1 v2 v3:Value):Tryz.prog.builtSlice 64 2 [(0,.agg #[u1,u2,u3]),(1,.agg #[v1,v2,v3])]=some #[u1,u2,u3,v1,v2,v3]:=by kernel_rfl
theorem pe2 {a:Act} {x y:Operand} {u v:Value} (h:a.eval x=u) (h2:a.eval y=v):((#[(0,x),(1,y)]:Array (Nat×Operand)).map fun (i,x)=>(i,a.eval x)).toList=[(0,u),(1,v)]:=by simp [h,h2]
theorem pe1 {a:Act} {x:Operand} {u:Value} (h:a.eval x=u):((#[(0,x)]:Array (Nat×Operand)).map fun (i,x)=>(i,a.eval x)).toList=[(0,u)]:=by simp [h]
theorem HeldN.parts {w wr:World} {v:Value} {f:F} (h:HeldN w wr v f):∃cs,wr.ownsRow w.heap.size 64 3 v f.len cs∧HoldsN wr (fun b=>newB w wr b∧v.ownBlock≠some b) f cs:=h
def NodF (wr:World) (t:Int) (x:List UInt8) (n:Nat) (u:Value) (c:World):Prop:=∃A cv,u=.agg (nodV t A n cv none 0 0).toArray∧((A=none→cv=0)∧n≤cv)∧SeesP c (newB wr c) A (Us x)
def NodS (wr:World) (t:Int) (x:List UInt8) (n:Nat) (u:Value) (c:World):Prop:=∃A cv g,u=.slice (some ⟨g,0,none⟩) 1 1∧newB wr c g∧RowV c g (nodV t A n cv none 0 0)∧((A=none→cv=0)∧n≤cv)∧SeesP c (newB wr c) A (Us x)
theorem NodF.firm (wr : World) (t : Int) (x : List UInt8) (n : Nat) : Firm (NodF wr t x n) := by
 rintro u c c' ⟨A,cv,h1,h2,h3⟩ hb
 exact ⟨A,cv,h1,h2,h3.newOn hb⟩
theorem NodS.firm (wr : World) (t : Int) (x : List UInt8) (n : Nat) : Firm (NodS wr t x n) := by
 rintro u c c' ⟨A,cv,g,h1,h0,h4,h2,h3⟩ hb
 exact ⟨A,cv,g,h1,⟨h0.1,Nat.lt_of_lt_of_le h0.2 hb.size⟩,h4.on hb,h2,h3.newOn hb⟩
theorem NodF.row {wr : World} {t : Int} {x : List UInt8} {n : Nat} {u : Value} {c c' : World} {v : Value} (h : NodF wr t x n u c) (hg : c.grownBy c' v.ownBlock) (hv : ∀ g, v.ownBlock = some g → g < wr.heap.size) : NodF wr t x n u c' := by
 obtain ⟨A,cv,h1,h2,h3⟩:=h
 refine ⟨A,cv,h1,h2,(h3.keep fun q hq=>World.cell?_of_block (hg.block _ hq.2 fun e=>?_)).imp fun b hb=>⟨hb.1,Nat.lt_of_lt_of_le hb.2 hg.size⟩⟩
 have:=hv _ e.symm
 have:=hq.1
 omega
theorem NodS.row {wr : World} {t : Int} {x : List UInt8} {n : Nat} {u : Value} {c c' : World} {v : Value} (h : NodS wr t x n u c) (hg : c.grownBy c' v.ownBlock) (hv : ∀ g, v.ownBlock = some g → g < wr.heap.size) : NodS wr t x n u c' := by
 obtain ⟨A,cv,g,h1,h0,h4,h2,h3⟩:=h
 refine ⟨A,cv,g,h1,⟨h0.1,Nat.lt_of_lt_of_le h0.2 hg.size⟩,h4.same (hg.block _ h0.2 fun e=>?_),h2,(h3.keep fun q hq=>World.cell?_of_block (hg.block _ hq.2 fun e=>?_)).imp fun b hb=>⟨hb.1,Nat.lt_of_lt_of_le hb.2 hg.size⟩⟩
 · have := hv _ e.symm
   have:=h0.1
   omega
 · have := hv _ e.symm
   have:=hq.1
   omega
def HelF (w:World) (f:F) (u:Value) (c:World):Prop:=HeldN w c u f
theorem HelF.firm (w:World) (f:F):Firm (HelF w f):=fun u c c' h hb=>HeldN.on h hb
theorem zbo {w c c':World} {v:Value} (h:Below w.heap.size w c) (hg:c.grownBy c' v.ownBlock) (hv:∀g,v.ownBlock=some g→w.heap.size≤g):Below w.heap.size w c':=h.grown hg h.size (fun k e=>hv k e)
end Go.Proofs.YtnlhbknajdpnbaaGreatDoor
namespace Go.Proofs.YtnlhbknajdpnbaaGreatDoor
open Go.RowKit
theorem SeesN.put {w w3 w9 w10 : World} {g2 : Nat} {A : Option Addr} {f : F} (h : SeesN w9 (newB w3 w9) A f) (hw : Wr w9 w10 g2) (hg2 : g2 < w3.heap.size) (hww : w.heap.size ≤ w3.heap.size) : SeesN w10 (newB w w10) A f := by
 have hp:∀b,newB w3 w9 b→newB w w10 b∧b≠g2:=fun b hb=>⟨⟨Nat.le_trans hww hb.1,by rw [hw.2.2.2.1];exact hb.2⟩,by have:=hb.1;omega⟩
 exact (h.keep fun q hq=>World.cell?_of_block (hw.2.2.2.2 _ (hp _ hq).2)).imp fun b hb=>(hp b hb).1
theorem RowV.src {w : World} {g : Nat} {vs : List Value} (h : RowV w g vs) : ∀ j u, vs[j]? = some u → w.cell? ((⟨g, 0, none⟩ : Addr).add j) = some u := fun j u hu => by
 have hj:(⟨g,0,none⟩ : Addr).add j=⟨g,j,none⟩:=by unfold Addr.add;split <;> simp_all
 rw [hj,h.cell];exact hu
theorem take_objs {l : List Tm} {j : Nat} {x : Tm} (h : l[j]? = some x) (f : F) : f.app (zdu (l.take (j + 1))) = (f.app (zdu (l.take j))).app (.cons 32608 [] (objK x) .nil) := by
 have e:l.take (j+1)=l.take j++[x]:=by rw [List.take_add_one,h];rfl
 rw [e,objs_snoc,F.app_assoc]
def cntF (n:Nat):F:=.cons 2 (octL n 1) .nil .nil
def EncIs (l:List Tm) (w:World) (e:Ending) (w':World):Prop:=∃A c,e=.returned (.tuple #[.slice A (encF l).len c,.int .i64 (zbt l)])∧(encF l).len≤c∧SeesN w' (newB w w') A (encF l)∧Below w.heap.size w w'
end Go.Proofs.YtnlhbknajdpnbaaGreatDoor
namespace Go.Proofs.YtnlhbknajdpnbaaGreatDoor
open Go.RowKit
structure Zn where
 fm:Int
 kd:List UInt8
 st:List UInt8
 su:List UInt8
 gi:List UInt8
 nu:List UInt8
 na:List UInt8
 bi:List UInt8
 sx:List UInt8
 ex:List UInt8
 op:List UInt8
 se:List UInt8
deriving DecidableEq
def Zn.val (z:Zn):Value:=.agg #[.int .i64 z.fm,.string (S z.kd),.string (S z.st),.string (S z.su),.string (S z.gi),.string (S z.nu),.string (S z.na),.string (S z.bi),.string (S z.sx),.string (S z.ex),.string (S z.op),.string (S z.se)]
def Zn.zero:Zn:=⟨0,[],[],[],[],[],[],[],[],[],[],[]⟩
def maxN (f:Int):Nat:=if f=1 then 20 else if f=2 then 14 else if f=3 then 9 else 0
def optN (f:Int):Nat:=if f=1 then 15 else if f=2 then 7 else if f=3 then 14 else 0
def namN (f:Int):Nat:=if f=1 then 30 else if f=2 then 31 else if f=3 then 39 else 0
def segs (f : Int) (i : Nat) : List (Nat × Nat) :=
 if f=3 then (if i=0 then [(0,2),(1,3),(2,39)] else [(3,9),(4,1),(5,3),(6,6),(7,1),(8,1),(9,6),(10,1),(11,14),(12,1),(14,1)])
 else if f=2 then (if i=0 then [(0,2),(1,3),(2,31)] else [(3,9),(4,1),(5,3),(6,6),(7,1),(8,1),(9,6),(10,1),(11,7),(14,1)])
 else (if i=0 then [(0,2),(1,3),(3,9),(4,1),(11,15)] else if i=1 then [(6,6),(7,1),(8,1),(9,6),(10,1),(5,3),(13,11),(14,1)] else [(2,30)])
def plcs (f : Int) : List (Nat × Nat × Nat) :=
 if f=3 then [(0,0,2),(0,2,5),(0,5,44),(1,0,9),(1,9,10),(1,10,13),(1,13,19),(1,19,20),(1,20,21),(1,21,27),(1,27,28),(1,28,42),(1,42,43),(0,0,0),(1,43,44)]
 else if f=2 then [(0,0,2),(0,2,5),(0,5,36),(1,0,9),(1,9,10),(1,10,13),(1,13,19),(1,19,20),(1,20,21),(1,21,27),(1,27,28),(1,28,35),(1,35,35),(0,0,0),(1,35,36)]
 else [(0,0,2),(0,2,5),(2,0,30),(0,5,14),(0,14,15),(1,15,18),(1,0,6),(1,6,7),(1,7,8),(1,8,14),(1,14,15),(0,15,30),(0,0,0),(1,18,29),(1,29,30)]
def plc (f:Int) (k:Nat):Nat×Nat×Nat:=(plcs f).getD k (0,0,0)
def cmps (f : Int) : List (Nat × Nat × Nat) :=
 if f=3 then [(1,0,10),(1,13,20),(1,21,43),(0,0,0)] else if f=2 then [(1,0,10),(1,13,20),(1,21,35),(0,0,0)] else [(0,5,30),(1,0,7),(1,8,15),(1,18,29)]
def widN (f:Int):Nat:=if f=3 then 44 else if f=2 then 36 else 30
def cntN (f:Int):Nat:=if f=3 then 2 else if f=2 then 2 else 3
def zdO (ls:List (List UInt8)) (p:Nat×Nat×Nat):List UInt8:=((ls.getD p.1 []).drop p.2.1).take (p.2.2 - p.2.1)
def cmpT (f:Int) (ls:List (List UInt8)):List UInt8:=(cmps f).flatMap (zdO ls)
def padT (n:Nat) (x:List UInt8):List UInt8:=x.take n++List.replicate (n - x.length) 60
def zcR (sg:List (Nat×Nat)) (T:Nat→List UInt8):List UInt8:=sg.flatMap fun p=>padT p.2 (T p.1)
def zdh (f:Int) (T:Nat→List UInt8):List (List UInt8):=(List.range (cntN f)).map fun i=>zcR (segs f i) T
end Go.Proofs.YtnlhbknajdpnbaaGreatDoor
