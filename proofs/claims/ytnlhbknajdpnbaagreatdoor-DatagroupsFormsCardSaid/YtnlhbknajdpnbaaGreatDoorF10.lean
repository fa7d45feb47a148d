/-
  What is proved here: a region that draws its order, whatever its operations do, if what they leave behind hangs only on which of them have been carried out: any order leads to the same end. Nothing of the program is used.
-/
import Derived.Test.YtnlhbknajdpnbaaGreatDoorRows
import Derived.Test.YtnlhbknajdpnbaaGreatDoorF0
import Derived.Orders
import Derived.Tactics
import Derived.Laws.CopyOwn
import Derived.Test.YtnlhbknajdpnbaaGreatDoorF6
set_option linter.unusedVariables false
set_option linter.unusedSimpArgs false
namespace Go.Proofs.YtnlhbknajdpnbaaGreatDoor
open Go.RowKit
def setB (ops : Array Oper) (n : Nat) : Bool :=
 (List.range ops.size).all fun i => match ops[i]? with
  | none=>true
  | some o => o.guard.isNone && o.after.all (fun e => decide (e.on < i)) && (match o.dst with
    | none=>true
    | some d => decide (d < n) && (List.range ops.size).all fun j => decide (j = i) || match ops[j]? with
      | none=>true
      | some oj=>decide (oj.dst≠some d))
def SlotsIn (ops : Array Oper) (a0 : Act) (S : Nat → Bool) (v : Nat → Value) (a : Act) : Prop :=
 a.defers = a0.defers ∧ a.tmps.size = a0.tmps.size ∧ (∀ (j : Nat) (oj : Oper) (d : Nat), ops[j]? = some oj → oj.dst = some d → S j = true → a.tmps.getD d undef = v j) ∧
  ∀d,(∀(j:Nat) (oj:Oper),ops[j]? = some oj→oj.dst=some d→S j=false)→a.tmps.getD d undef=a0.tmps.getD d undef
theorem setB_at {ops : Array Oper} {n i : Nat} {o : Oper} (h : setB ops n = true) (hi : ops[i]? = some o) :
 o.guard=none∧(∀e∈o.after,e.on < i)∧∀d,o.dst=some d→d < n∧∀(j:Nat) (oj:Oper),ops[j]? = some oj→oj.dst=some d→j=i:=by
 unfold setB at h
 rw [List.all_eq_true] at h
 have hlt:i < ops.size:=(Array.getElem?_eq_some_iff.1 hi).1
 have h1:=h i (List.mem_range.2 hlt)
 rw [hi] at h1
 simp only [Bool.and_eq_true] at h1
 obtain ⟨⟨h2,h3⟩,h4⟩:=h1
 refine ⟨by simpa using h2,fun e he=>?_,fun d hd=>?_⟩
 · rw [Array.all_eq_true'] at h3
   simpa using h3 e he
 · rw [hd] at h4
   simp only [Bool.and_eq_true,decide_eq_true_eq,List.all_eq_true] at h4
   refine ⟨h4.1,fun j oj hj hdj=>?_⟩
   have h5:=h4.2 j (List.mem_range.2 (Array.getElem?_eq_some_iff.1 hj).1)
   rw [hj] at h5
   simp only [Bool.or_eq_true,decide_eq_true_eq] at h5
   rcases h5 with h5 | h5
   · exact h5
   · exact absurd hdj h5
theorem SlotsIn.put {ops : Array Oper} {a0 a : Act} {S : Nat → Bool} {v v' : Nat → Value} {i : Nat} {o : Oper} (h : SlotsIn ops a0 S v a) (hB : setB ops a0.tmps.size = true) (hi : ops[i]? = some o) (hv : ∀ j, S j = true → v' j = v j) :
 SlotsIn ops a0 (fun j=>S j || j==i) v' (a.put o.dst (v' i)):=by
 obtain ⟨h1,h2,h3,h4⟩:=h
 obtain ⟨_,_,hd⟩:=setB_at hB hi
 rcases ho:o.dst with _ | d
 · refine ⟨h1, h2, fun j oj d hj hdj hS => ?_, fun d hd' => ?_⟩
   · have hne : j ≠ i := by rintro rfl; rw [hi] at hj; injection hj with hj; rw [← hj, ho] at hdj; cases hdj
     have hS':S j=true:=by simpa [hne] using hS
     rw [hv j hS']
     exact h3 j oj d hj hdj hS'
   · exact h4 d fun j oj hj hdj=>by have:=hd' j oj hj hdj;simp only [Bool.or_eq_false_iff] at this;exact this.1
 · obtain ⟨hlt, huniq⟩ := hd d ho
   have key : ∀ d', (a.put (some d) (v' i)).tmps.getD d' undef = if d' = d then v' i else a.tmps.getD d' undef := by
    intro d'
    show (a.tmps.setIfInBounds d (v' i)).getD d' undef=_
    by_cases e:d'=d
    · subst e
      simp [Array.getD_eq_getD_getElem?,h2,hlt]
    · rw [if_neg e]
      simp [Array.getD_eq_getD_getElem?,Ne.symm e]
   refine ⟨h1,by show (a.tmps.setIfInBounds d (v' i)).size=_;simpa using h2,fun j oj d' hj hdj hS=>?_,fun d' hd'=>?_⟩
   · rw [key]
     by_cases e:d'=d
     · subst e
       rw [if_pos rfl,huniq j oj hj hdj]
     · rw [if_neg e]
       have hne:j≠i:=by rintro rfl;rw [hi] at hj;injection hj with hj;rw [←hj,ho] at hdj;exact e (Option.some.inj hdj).symm
       have hS':S j=true:=by simpa [hne] using hS
       rw [hv j hS']
       exact h3 j oj d' hj hdj hS'
   · rw [key]
     have e : d' ≠ d := by
      rintro rfl
      have:=hd' i o hi ho
      simp at this
     rw [if_neg e]
     exact h4 d' fun j oj hj hdj=>by have:=hd' j oj hj hdj;simp only [Bool.or_eq_false_iff] at this;exact this.1
theorem wpAny_set {P : Program} {ops : Array Oper} {Q : Exit → Act → World → Prop} (a0 : Act) {B : Type} (v : B → Nat → Value) (W : B → (Nat → Bool) → World → Prop) (hB : setB ops a0.tmps.size = true)
 (hstep : ∀ (i : Nat) (o : Oper), ops[i]? = some o → ∀ (b : B) (S : Nat → Bool) (w : World) (a : Act), W b S w → S i = false → (∀ e ∈ o.after, Region.binds .any e = true → S e.on = true) → SlotsIn ops a0 S (v b) a →
  o.wp P a w (fun a' w'=>∃b',(∀j,S j=true→v b' j=v b j)∧a'=a.put o.dst (v b' i)∧W b' (fun j=>S j || j==i) w') Q)
 (hend:∀(b:B) (w:World) (a:Act) (S:Nat→Bool),(∀j,j < ops.size→S j=true)→SlotsIn ops a0 S (v b) a→W b S w→Q .normal a w) :
 ∀ (fuel : Nat) (listed : Array Bool) (a : Act) (w : World) (b : B), listed.size = ops.size → ((List.range ops.size).filter (fun i => !listed.getD i false)).length = fuel →
   SlotsIn ops a0 (fun j=>listed.getD j false) (v b) a→W b (fun j=>listed.getD j false) w→wpAny P .any ops Q fuel listed a w
 | 0, listed, a, w, b, hs, hf, hS, hW => by
   have hall : ∀ j, j < ops.size → listed.getD j false = true := by
    intro j hj
    have h0:=List.eq_nil_of_length_eq_zero hf
    rw [List.filter_eq_nil_iff] at h0
    simpa using h0 j (List.mem_range.2 hj)
   refine ⟨?_,hend b w a _ hall hS hW⟩
   unfold Region.ready
   rw [List.filter_eq_nil_iff]
   intro j hj
   have h1:=hall j (List.mem_range.1 hj)
   have h2 : listed.getD j true = true := by
    rw [Array.getD_eq_getD_getElem?] at h1 ⊢
    rcases h3:listed[j]? with _ | x
    · rfl
    · rw [h3] at h1;exact h1
   rw [h2]
   simp
 | fuel + 1, listed, a, w, b, hs, hf, hS, hW => by
   refine ⟨fun hnil=>?_,fun i hi=>?_⟩
   · -- the first that has not come up may come up
     exfalso
     obtain ⟨x, hx⟩ : ∃ x, x ∈ (List.range ops.size).filter (fun i => !listed.getD i false) := by
      rcases hl:(List.range ops.size).filter (fun i=>!listed.getD i false) with _ | ⟨x,l⟩
      · rw [hl] at hf;simp at hf
      · exact ⟨x,by simp⟩
     have hex:∃x,x < ops.size∧listed.getD x false=false:=⟨x,by simpa using (List.mem_filter.1 hx).1,by simpa using (List.mem_filter.1 hx).2⟩
     obtain ⟨m, ⟨hm1, hm2⟩, hmin⟩ : ∃ m, (m < ops.size ∧ listed.getD m false = false) ∧ ∀ y, y < m → ¬ (y < ops.size ∧ listed.getD y false = false) := by
      obtain ⟨x,hx⟩:=hex
      induction x using Nat.strongRecOn with
      | _ x ih =>
        by_cases h:∃y,y < x∧(y < ops.size∧listed.getD y false=false)
        · obtain ⟨y,h1,h2⟩:=h;exact ih y h1 h2
        · exact ⟨x,hx,fun y hy h2=>h ⟨y,hy,h2⟩⟩
     obtain ⟨o,ho⟩ : ∃o,ops[m]? = some o:=⟨_,Array.getElem?_eq_getElem hm1⟩
     have hmem : m ∈ Region.ready .any ops listed := by
      unfold Region.ready
      rw [List.mem_filter]
      refine ⟨List.mem_range.2 hm1,?_⟩
      have h2 : listed.getD m true = false := by
       rw [Array.getD_eq_getD_getElem?] at hm2 ⊢
       rw [Array.getElem?_eq_getElem (by omega)] at hm2 ⊢
       exact hm2
      rw [h2,ho]
      simp only [Bool.not_false,Bool.true_and,Option.map_some,Option.getD_some]
      rw [Array.all_eq_true']
      intro e he
      have h3:=(setB_at hB ho).2.1 e he
      rcases h4:listed.getD e.on false with _ | _
      · exact absurd ⟨by omega,h4⟩ (hmin e.on h3)
      · simp
     rw [hnil] at hmem
     simp at hmem
   · unfold Region.ready at hi
     rw [List.mem_filter] at hi
     obtain ⟨hi1,hi2⟩:=hi
     have hlt:=List.mem_range.1 hi1
     obtain ⟨o,ho⟩ : ∃o,ops[i]? = some o:=⟨_,Array.getElem?_eq_getElem hlt⟩
     rw [ho] at hi2
     simp only [Option.map_some,Option.getD_some,Bool.and_eq_true,Bool.not_eq_true'] at hi2
     have hun : listed.getD i false = false := by
      have h1:=hi2.1
      rw [Array.getD_eq_getD_getElem?,Array.getElem?_eq_getElem (by omega)] at h1 ⊢
      exact h1
     have hdep : ∀ e ∈ o.after, Region.binds .any e = true → listed.getD e.on false = true := by
      intro e he hb
      have h1:=hi2.2
      rw [Array.all_eq_true'] at h1
      have:=h1 e he
      rw [hb] at this
      simpa using this
     obtain ⟨hg,_,_⟩:=setB_at hB ho
     have hwp:=hstep i o ho b _ w a hW hun hdep hS
     unfold wpOp
     rw [ho]
     have hw:Region.wanted o (yielded ops a.tmps)=true:=by simp [Region.wanted,hg]
     simp only [hw,if_true]
     left
     refine Oper.wp_mono ?_ hwp
     rintro a' w' ⟨b',hv,rfl,hW'⟩
     have hSe : (fun j => (listed.setIfInBounds i true).getD j false) = fun j => (listed.getD j false || j == i) := by
      funext j
      by_cases e:j=i
      · subst e
        simp [Array.getD_eq_getD_getElem?,hs,hlt]
      · simp [Array.getD_eq_getD_getElem?,Ne.symm e,e]
     refine wpAny_set a0 v W hB hstep hend fuel _ _ _ b' (by simpa using hs) ?_ (by rw [hSe];exact hS.put hB ho hv) (by rw [hSe];exact hW')
     have hfe : (List.range ops.size).filter (fun j => !(listed.setIfInBounds i true).getD j false) = ((List.range ops.size).filter (fun j => !listed.getD j false)).erase i := by
      have hnd:((List.range ops.size).filter (fun j=>!listed.getD j false)).Nodup:=List.nodup_range.filter _
      rw [hnd.erase_eq_filter,List.filter_filter]
      apply List.filter_congr
      intro j _
      have h9:(listed.setIfInBounds i true).getD j false=(listed.getD j false || j==i):=congrFun hSe j
      rw [h9]
      have e1:∀c:Bool,(!(c || j==i))=(j != i && !c):=fun c=>by cases c <;> cases h:(j==i) <;> simp [bne,h]
      rw [e1]
     rw [hfe,List.length_erase_of_mem (List.mem_filter.2 ⟨hi1,by rw [hun];rfl⟩),hf]
     rfl
theorem region_setE {P : Program} {ops : Array Oper} {Q : Exit → Act → World → Prop} {id : Nat} {w : World} (hm : P.follows .mixedOrders = true) (a0 : Act) {B : Type} (v : B → Nat → Value) (W : B → (Nat → Bool) → World → Prop) (hB : setB ops a0.tmps.size = true)
 (b0:B) (h0:W b0 (fun _=>false) { w with drawn:=w.drawn+1 })
 (hstep : ∀ (i : Nat) (o : Oper), ops[i]? = some o → ∀ (b : B) (S : Nat → Bool) (w : World) (a : Act), W b S w → S i = false → (∀ e ∈ o.after, Region.binds .any e = true → S e.on = true) → SlotsIn ops a0 S (v b) a →
  o.wp P a w (fun a' w'=>∃b',(∀j,S j=true→v b' j=v b j)∧a'=a.put o.dst (v b' i)∧W b' (fun j=>S j || j==i) w') Q)
 (hend:∀(b:B) (w:World) (a:Act) (S:Nat→Bool),(∀j,j < ops.size→S j=true)→SlotsIn ops a0 S (v b) a→W b S w→Q .normal a w):(Code.region id ops true).wp P Q a0 w:=by
 have hS : (fun j => (Array.replicate ops.size false).getD j false) = fun _ => false := by
  funext j
  rw [Array.getD_eq_getD_getElem?,Array.getElem?_replicate]
  split <;> rfl
 refine wp_region_any hm (wpAny_set a0 v W hB hstep hend ops.size _ a0 _ b0 (by simp) ?_ ?_ (by rw [hS];exact h0))
 · have : (List.range ops.size).filter (fun i => !(Array.replicate ops.size false).getD i false) = List.range ops.size := by
    rw [List.filter_eq_self]
    intro j _
    rw [congrFun hS j];rfl
   rw [this];simp
 · rw [hS]
   exact ⟨rfl,rfl,fun j oj d _ _ h=>(by cases h),fun d _=>rfl⟩
end Go.Proofs.YtnlhbknajdpnbaaGreatDoor
namespace Go.Proofs.YtnlhbknajdpnbaaGreatDoor
open Go.RowKit
def allI (R : Nat → Oper → Prop) : Nat → List Oper → Prop
 | _,[]=>True
 | n,o::r=>R n o∧allI R (n+1) r
theorem allI.nil {R:Nat→Oper→Prop} {n:Nat}:allI R n []:=trivial
theorem allI.cons {R:Nat→Oper→Prop} {n:Nat} {o:Oper} {r:List Oper} (h:R n o) (t:allI R (n+1) r):allI R n (o::r):=⟨h,t⟩
theorem allI.at {R : Nat → Oper → Prop} : ∀ {l : List Oper} {n : Nat}, allI R n l → ∀ (i : Nat) (o : Oper), l[i]? = some o → R (n + i) o
 | [],n,_,i,o,h=>by simp at h
 | x::r,n,h,0,o,e=>by simp at e;subst e;exact h.1
 | x :: r, n, h, i + 1, o, e => by
   have:=allI.at h.2 i o (by simpa using e)
   rw [show n+(i+1)=n+1+i by omega];exact this
theorem zch {R : Nat → Oper → Prop} {l : List Oper} (h : allI R 0 l) : ∀ (i : Nat) (o : Oper), l.toArray[i]? = some o → R i o := by
 intro i o e
 have:=allI.at h i o (by simpa using e)
 rwa [Nat.zero_add] at this
section
variable {ops:Array Oper} {a0 a:Act} {S:Nat→Bool} {v:Nat→Value} {o:Oper}
theorem SlotsIn.old (hS : SlotsIn ops a0 S v a) (d : Nat) (h : (ops.toList.all fun o => o.dst != some d) = true) : a.eval (.tmp d) = a0.tmps.getD d undef := by
 refine hS.2.2.2 d fun j oj hj hd=>?_
 rw [List.all_eq_true] at h
 have:=h oj (by rw [←Array.getElem?_toList] at hj;exact List.mem_of_getElem? hj)
 rw [hd] at this
 simp at this
theorem SlotsIn.get (hS:SlotsIn ops a0 S v a) (j:Nat) {oj:Oper} {d:Nat} (h:S j=true) (hj:ops[j]? = some oj) (hd:oj.dst=some d):a.eval (.tmp d)=v j:=hS.2.2.1 j oj d hj hd h
theorem zad (h : ∀ e ∈ o.after, Region.binds .any e = true → S e.on = true) (j : Nat) (hj : (o.after.toList.any fun e => Region.binds .any e && e.on == j) = true) : S j = true := by
 rw [List.any_eq_true] at hj
 obtain ⟨e,he,hb⟩:=hj
 simp only [Bool.and_eq_true,beq_iff_eq] at hb
 rw [←hb.2]
 exact h e (by simpa using he) hb.1
end
def zez (ops:Array Oper) (S:Nat→Bool):Prop:=∀(j:Nat) (oj:Oper),ops[j]? = some oj→S j=true→∀e∈oj.after,Region.binds .any e=true→S e.on=true
theorem SlotsIn.before {ops : Array Oper} {a0 a : Act} {S : Nat → Bool} {v : Nat → Value} (hS : SlotsIn ops a0 S v a) (hC : zez ops S) {i : Nat} (hSi : S i = false) (d : Nat) (h : (ops.toList.all fun o => o.dst != some d || o.after.toList.any fun e => Region.binds .any e && e.on == i) = true) : a.eval (.tmp d) = a0.tmps.getD d undef := by
 refine hS.2.2.2 d fun j oj hj hd=>?_
 rw [List.all_eq_true] at h
 have:=h oj (by rw [←Array.getElem?_toList] at hj;exact List.mem_of_getElem? hj)
 rw [hd] at this
 simp only [bne_self_eq_false,Bool.false_or] at this
 rcases hq:S j with _ | _
 · rfl
 · have := zad (hC j oj hj hq) i this
   rw [hSi] at this
   cases this
def zbz (v : Nat → Value) : Nat → List Oper → Act → Act
 | _,[],a=>a
 | n,o::r,a=>zbz v (n+1) r (a.put o.dst (v n))
theorem zeX {ops : Array Oper} {a0 : Act} {v : Nat → Value} (hB : setB ops a0.tmps.size = true) : ∀ (l : List Oper) (n : Nat) (a : Act), n + l.length = ops.size → (∀ i o, l[i]? = some o → ops[n + i]? = some o) → SlotsIn ops a0 (fun j => decide (j < n)) v a → SlotsIn ops a0 (fun j => decide (j < ops.size)) v (zbz v n l a)
 | [],n,a,hn,_,h=>by rw [←hn];simpa [zbz] using h
 | o :: r, n, a, hn, hl, h => by
   refine zeX hB r (n+1) _ (by rw [←hn];simp;omega) (fun i o' e=>?_) ?_
   · have := hl (i + 1) o' (by simpa using e)
     rw [show n+1+i=n+(i+1) by omega];exact this
   · have := h.put (v' := v) hB (hl 0 o (by simp)) (fun _ _ => rfl)
     have e : (fun j => decide (j < n + 1)) = fun j => (decide (j < n) || j == n + 0) := by
      funext j
      by_cases h1:j < n
      · simp [h1];omega
      · by_cases h2 : j = n
        · simp [h2]
        · have h3 : ¬ j < n + 1 := by omega
          simp [h1,h2,h3]
     rw [e]
     exact this
theorem SlotsIn.uniq {ops : Array Oper} {a0 a a' : Act} {S : Nat → Bool} {v : Nat → Value} (h : SlotsIn ops a0 S v a) (h' : SlotsIn ops a0 S v a') : a = a' := by
 obtain ⟨d1,s1,p1,q1⟩:=h
 obtain ⟨d2,s2,p2,q2⟩:=h'
 have key : a.tmps = a'.tmps := by
  apply Array.ext (by rw [s1,s2])
  intro d h1 h2
  have e : a.tmps.getD d undef = a'.tmps.getD d undef := by
   by_cases hx:∃j oj,ops[j]? = some oj∧oj.dst=some d∧S j=true
   · obtain ⟨j, oj, hj, hd, hS⟩ := hx
     rw [p1 j oj d hj hd hS,p2 j oj d hj hd hS]
   · have hn : ∀ j oj, ops[j]? = some oj → oj.dst = some d → S j = false := fun j oj hj hd => by
      rcases hq:S j with _ | _
      · rfl
      · exact absurd ⟨j,oj,hj,hd,hq⟩ hx
     rw [q1 d hn,q2 d hn]
  simpa [Array.getD_eq_getD_getElem?,h1,h2] using e
 obtain ⟨t1,x1⟩:=a
 obtain ⟨t2,x2⟩:=a'
 simp only at key d1 d2
 rw [key,d1,d2]
theorem SlotsIn.all {ops : Array Oper} {a0 a : Act} {S : Nat → Bool} {v : Nat → Value} (hB : setB ops a0.tmps.size = true) (h : SlotsIn ops a0 S v a) (hall : ∀ j, j < ops.size → S j = true) : a = zbz v 0 ops.toList a0 := by
 refine SlotsIn.uniq (S:=fun j=>decide (j < ops.size)) (ops:=ops) (a0:=a0) (v:=v) ?_ (zeX hB ops.toList 0 a0 (by simp) (fun i o e=>by rw [Nat.zero_add];rw [Array.getElem?_toList] at e;exact e) ?_)
 · obtain ⟨h1, h2, h3, h4⟩ := h
   refine ⟨h1,h2,fun j oj d hj hd _=>h3 j oj d hj hd (hall j (Array.getElem?_eq_some_iff.1 hj).1),fun d hd=>h4 d fun j oj hj hdj=>?_⟩
   have:=hd j oj hj hdj
   have hlt:=(Array.getElem?_eq_some_iff.1 hj).1
   simp only [decide_eq_false_iff_not] at this
   exact absurd hlt this
 · exact ⟨rfl,rfl,fun j oj d _ _ h=>by simp at h,fun d _=>rfl⟩
theorem region_setX {P : Program} {ops : Array Oper} {Q : Exit → Act → World → Prop} {id : Nat} {w : World} (hm : P.follows .mixedOrders = true) (a0 : Act) {B : Type} (v : B → Nat → Value) (W : B → (Nat → Bool) → World → Prop) (hB : setB ops a0.tmps.size = true)
 (b0:B) (h0:W b0 (fun _=>false) { w with drawn:=w.drawn+1 })
 (hstep : ∀ (i : Nat) (o : Oper), ops[i]? = some o → ∀ (b : B) (S : Nat → Bool) (w : World) (a : Act), W b S w → S i = false → (∀ e ∈ o.after, Region.binds .any e = true → S e.on = true) → SlotsIn ops a0 S (v b) a → zez ops S →
  o.wp P a w (fun a' w'=>∃b',(∀j,S j=true→v b' j=v b j)∧a'=a.put o.dst (v b' i)∧W b' (fun j=>S j || j==i) w') Q)
 (hend:∀(b:B) (w:World) (S:Nat→Bool),(∀j,j < ops.size→S j=true)→W b S w→Q .normal (zbz (v b) 0 ops.toList a0) w):(Code.region id ops true).wp P Q a0 w:=by
 refine region_setE hm a0 v (fun b S w=>W b S w∧zez ops S) hB b0 ⟨h0,fun j oj _ h=>by cases h⟩ ?_ (fun b w a S h1 h2 h3=>by rw [h2.all hB h1];exact hend b w S h1 h3.1)
 intro i o ho b S w a hW hSi hdep hS
 refine Oper.wp_mono ?_ (hstep i o ho b S w a hW.1 hSi hdep hS hW.2)
 rintro a' w' ⟨b',h1,e0,h3⟩
 refine ⟨b',h1,e0,h3,fun j oj hj hSj e he hb=>?_⟩
 by_cases hji:j=i
 · subst hji
   rw [ho] at hj
   injection hj with hj
   subst hj
   show (S e.on || e.on==j)=true
   rw [hdep e he hb];rfl
 · have : S j = true := by simpa [hji] using hSj
   show (S e.on || e.on==i)=true
   rw [hW.2 j oj hj this e he hb];rfl
section
variable {P:Program} {a:Act} {w w':World} {K:Act→World→Prop} {Q:Exit→Act→World→Prop} {o:Oper}
theorem o_mv (x : Operand) (ho : o.op = .move x) {v : Value} (hx : a.eval x = v) (hK : K (a.put o.dst v) w) : o.wp P a w K Q := by
 unfold Oper.wp execOp
 simp only [ho,hx,Sem.run_pure]
 exact hK
theorem o_as (x : Operand) (ho : o.op = .assign x) {v : Value} (hx : a.eval x = v) (hK : K (a.put o.dst v) w) : o.wp P a w K Q := by
 unfold Oper.wp execOp
 simp only [ho,hx,Sem.run_pure]
 exact hK
theorem o_fa (T : TypeId) (x : Operand) (k : Nat) (ho : o.op = .fieldAddr T x k) {p q : Value} (hx : a.eval x = p) (hr : (Instr.fieldAt T p k).run P w = .ok q w) (hK : K (a.put o.dst q) w) : o.wp P a w K Q := by
 unfold Oper.wp execOp
 simp only [ho,hx,Sem.run_bind,hr,Result.andThen_ok,Sem.run_pure]
 exact hK
theorem o_ld (T : TypeId) (x : Operand) (ho : o.op = .load T x) {g k : Nat} {v : Value} (hx : a.eval x = .pointer (some ⟨g, k, none⟩)) (hc : w.cell? ⟨g, k, none⟩ = some v) (ha : ∀ w, (isAgg T).run P w = .ok false w) (hK : K (a.put o.dst v) w) : o.wp P a w K Q := by
 have hr:(loadVar T ⟨g,k,none⟩).run P w=.ok v w:=by simp [loadVar,ha,hc,go_sem]
 unfold Oper.wp execOp
 simp only [ho,hx,Instr.loadAt,Instr.sureAddr,Sem.run_bind,Sem.run_pure,Result.andThen_ok,hr]
 exact hK
theorem o_ix (T : TypeId) (x y : Operand) (ho : o.op = .indexAddr T x y) {v vx vy : Value} (hx : a.eval x = vx) (hy : a.eval y = vy) (hr : (Instr.indexAt T vx vy).run P w = .ok v w) (hK : K (a.put o.dst v) w) : o.wp P a w K Q := by
 unfold Oper.wp execOp
 simp only [ho,hx,hy,Sem.run_bind,hr,Result.andThen_ok,Sem.run_pure]
 exact hK
end
end Go.Proofs.YtnlhbknajdpnbaaGreatDoor
namespace Go.Proofs.YtnlhbknajdpnbaaGreatDoor
open Go.RowKit
def zfL (ops : Array Oper) (n : Nat) : Bool :=
 (List.range ops.size).all fun i => match ops[i]? with
  | none=>true
  | some o => o.guard.isNone && o.after.all (fun e => !Region.binds .any e || decide (e.on < i)) && (match o.dst with
    | none=>true
    | some d => decide (d < n) && (List.range ops.size).all fun j => decide (j = i) || match ops[j]? with
      | none=>true
      | some oj=>decide (oj.dst≠some d))
theorem setB_at2 {ops : Array Oper} {n i : Nat} {o : Oper} (h : zfL ops n = true) (hi : ops[i]? = some o) :
 o.guard=none∧(∀e∈o.after,Region.binds .any e=true→e.on < i)∧∀d,o.dst=some d→d < n∧∀(j:Nat) (oj:Oper),ops[j]? = some oj→oj.dst=some d→j=i:=by
 unfold zfL at h
 rw [List.all_eq_true] at h
 have hlt:i < ops.size:=(Array.getElem?_eq_some_iff.1 hi).1
 have h1:=h i (List.mem_range.2 hlt)
 rw [hi] at h1
 simp only [Bool.and_eq_true] at h1
 obtain ⟨⟨h2,h3⟩,h4⟩:=h1
 refine ⟨by simpa using h2,fun e he=>?_,fun d hd=>?_⟩
 · rw [Array.all_eq_true'] at h3
   intro hb
   have:=h3 e he
   rw [hb] at this
   simpa using this
 · rw [hd] at h4
   simp only [Bool.and_eq_true,decide_eq_true_eq,List.all_eq_true] at h4
   refine ⟨h4.1,fun j oj hj hdj=>?_⟩
   have h5:=h4.2 j (List.mem_range.2 (Array.getElem?_eq_some_iff.1 hj).1)
   rw [hj] at h5
   simp only [Bool.or_eq_true,decide_eq_true_eq] at h5
   rcases h5 with h5 | h5
   · exact h5
   · exact absurd hdj h5
theorem SlotsIn.put2 {ops : Array Oper} {a0 a : Act} {S : Nat → Bool} {v v' : Nat → Value} {i : Nat} {o : Oper} (h : SlotsIn ops a0 S v a) (hB : zfL ops a0.tmps.size = true) (hi : ops[i]? = some o) (hv : ∀ j, S j = true → v' j = v j) :
 SlotsIn ops a0 (fun j=>S j || j==i) v' (a.put o.dst (v' i)):=by
 obtain ⟨h1,h2,h3,h4⟩:=h
 obtain ⟨_,_,hd⟩:=setB_at2 hB hi
 rcases ho:o.dst with _ | d
 · refine ⟨h1, h2, fun j oj d hj hdj hS => ?_, fun d hd' => ?_⟩
   · have hne : j ≠ i := by rintro rfl; rw [hi] at hj; injection hj with hj; rw [← hj, ho] at hdj; cases hdj
     have hS':S j=true:=by simpa [hne] using hS
     rw [hv j hS']
     exact h3 j oj d hj hdj hS'
   · exact h4 d fun j oj hj hdj=>by have:=hd' j oj hj hdj;simp only [Bool.or_eq_false_iff] at this;exact this.1
 · obtain ⟨hlt, huniq⟩ := hd d ho
   have key : ∀ d', (a.put (some d) (v' i)).tmps.getD d' undef = if d' = d then v' i else a.tmps.getD d' undef := by
    intro d'
    show (a.tmps.setIfInBounds d (v' i)).getD d' undef=_
    by_cases e:d'=d
    · subst e
      simp [Array.getD_eq_getD_getElem?,h2,hlt]
    · rw [if_neg e]
      simp [Array.getD_eq_getD_getElem?,Ne.symm e]
   refine ⟨h1,by show (a.tmps.setIfInBounds d (v' i)).size=_;simpa using h2,fun j oj d' hj hdj hS=>?_,fun d' hd'=>?_⟩
   · rw [key]
     by_cases e:d'=d
     · subst e
       rw [if_pos rfl,huniq j oj hj hdj]
     · rw [if_neg e]
       have hne:j≠i:=by rintro rfl;rw [hi] at hj;injection hj with hj;rw [←hj,ho] at hdj;exact e (Option.some.inj hdj).symm
       have hS':S j=true:=by simpa [hne] using hS
       rw [hv j hS']
       exact h3 j oj d' hj hdj hS'
   · rw [key]
     have e : d' ≠ d := by
      rintro rfl
      have:=hd' i o hi ho
      simp at this
     rw [if_neg e]
     exact h4 d' fun j oj hj hdj=>by have:=hd' j oj hj hdj;simp only [Bool.or_eq_false_iff] at this;exact this.1
theorem zgx {P : Program} {ops : Array Oper} {Q : Exit → Act → World → Prop} (a0 : Act) {B : Type} (v : B → Nat → Value) (W : B → (Nat → Bool) → World → Prop) (hB : zfL ops a0.tmps.size = true)
 (hstep : ∀ (i : Nat) (o : Oper), ops[i]? = some o → ∀ (b : B) (S : Nat → Bool) (w : World) (a : Act), W b S w → S i = false → (∀ e ∈ o.after, Region.binds .any e = true → S e.on = true) → SlotsIn ops a0 S (v b) a →
  o.wp P a w (fun a' w'=>∃b',(∀j,S j=true→v b' j=v b j)∧a'=a.put o.dst (v b' i)∧W b' (fun j=>S j || j==i) w') Q)
 (hend:∀(b:B) (w:World) (a:Act) (S:Nat→Bool),(∀j,j < ops.size→S j=true)→SlotsIn ops a0 S (v b) a→W b S w→Q .normal a w) :
 ∀ (fuel : Nat) (listed : Array Bool) (a : Act) (w : World) (b : B), listed.size = ops.size → ((List.range ops.size).filter (fun i => !listed.getD i false)).length = fuel →
   SlotsIn ops a0 (fun j=>listed.getD j false) (v b) a→W b (fun j=>listed.getD j false) w→wpAny P .any ops Q fuel listed a w
 | 0, listed, a, w, b, hs, hf, hS, hW => by
   have hall : ∀ j, j < ops.size → listed.getD j false = true := by
    intro j hj
    have h0:=List.eq_nil_of_length_eq_zero hf
    rw [List.filter_eq_nil_iff] at h0
    simpa using h0 j (List.mem_range.2 hj)
   refine ⟨?_,hend b w a _ hall hS hW⟩
   unfold Region.ready
   rw [List.filter_eq_nil_iff]
   intro j hj
   have h1:=hall j (List.mem_range.1 hj)
   have h2 : listed.getD j true = true := by
    rw [Array.getD_eq_getD_getElem?] at h1 ⊢
    rcases h3:listed[j]? with _ | x
    · rfl
    · rw [h3] at h1;exact h1
   rw [h2]
   simp
 | fuel + 1, listed, a, w, b, hs, hf, hS, hW => by
   refine ⟨fun hnil=>?_,fun i hi=>?_⟩
   · -- the first that has not come up may come up
     exfalso
     obtain ⟨x, hx⟩ : ∃ x, x ∈ (List.range ops.size).filter (fun i => !listed.getD i false) := by
      rcases hl:(List.range ops.size).filter (fun i=>!listed.getD i false) with _ | ⟨x,l⟩
      · rw [hl] at hf;simp at hf
      · exact ⟨x,by simp⟩
     have hex:∃x,x < ops.size∧listed.getD x false=false:=⟨x,by simpa using (List.mem_filter.1 hx).1,by simpa using (List.mem_filter.1 hx).2⟩
     obtain ⟨m, ⟨hm1, hm2⟩, hmin⟩ : ∃ m, (m < ops.size ∧ listed.getD m false = false) ∧ ∀ y, y < m → ¬ (y < ops.size ∧ listed.getD y false = false) := by
      obtain ⟨x,hx⟩:=hex
      induction x using Nat.strongRecOn with
      | _ x ih =>
        by_cases h:∃y,y < x∧(y < ops.size∧listed.getD y false=false)
        · obtain ⟨y,h1,h2⟩:=h;exact ih y h1 h2
        · exact ⟨x,hx,fun y hy h2=>h ⟨y,hy,h2⟩⟩
     obtain ⟨o,ho⟩ : ∃o,ops[m]? = some o:=⟨_,Array.getElem?_eq_getElem hm1⟩
     have hmem : m ∈ Region.ready .any ops listed := by
      unfold Region.ready
      rw [List.mem_filter]
      refine ⟨List.mem_range.2 hm1,?_⟩
      have h2 : listed.getD m true = false := by
       rw [Array.getD_eq_getD_getElem?] at hm2 ⊢
       rw [Array.getElem?_eq_getElem (by omega)] at hm2 ⊢
       exact hm2
      rw [h2,ho]
      simp only [Bool.not_false,Bool.true_and,Option.map_some,Option.getD_some]
      rw [Array.all_eq_true']
      intro e he
      rcases hbd:Region.binds .any e with _ | _
      · rfl
      have h3:=(setB_at2 hB ho).2.1 e he hbd
      rcases h4:listed.getD e.on false with _ | _
      · exact absurd ⟨by omega,h4⟩ (hmin e.on h3)
      · simp
     rw [hnil] at hmem
     simp at hmem
   · unfold Region.ready at hi
     rw [List.mem_filter] at hi
     obtain ⟨hi1,hi2⟩:=hi
     have hlt:=List.mem_range.1 hi1
     obtain ⟨o,ho⟩ : ∃o,ops[i]? = some o:=⟨_,Array.getElem?_eq_getElem hlt⟩
     rw [ho] at hi2
     simp only [Option.map_some,Option.getD_some,Bool.and_eq_true,Bool.not_eq_true'] at hi2
     have hun : listed.getD i false = false := by
      have h1:=hi2.1
      rw [Array.getD_eq_getD_getElem?,Array.getElem?_eq_getElem (by omega)] at h1 ⊢
      exact h1
     have hdep : ∀ e ∈ o.after, Region.binds .any e = true → listed.getD e.on false = true := by
      intro e he hb
      have h1:=hi2.2
      rw [Array.all_eq_true'] at h1
      have:=h1 e he
      rw [hb] at this
      simpa using this
     obtain ⟨hg,_,_⟩:=setB_at2 hB ho
     have hwp:=hstep i o ho b _ w a hW hun hdep hS
     unfold wpOp
     rw [ho]
     have hw:Region.wanted o (yielded ops a.tmps)=true:=by simp [Region.wanted,hg]
     simp only [hw,if_true]
     left
     refine Oper.wp_mono ?_ hwp
     rintro a' w' ⟨b',hv,rfl,hW'⟩
     have hSe : (fun j => (listed.setIfInBounds i true).getD j false) = fun j => (listed.getD j false || j == i) := by
      funext j
      by_cases e:j=i
      · subst e
        simp [Array.getD_eq_getD_getElem?,hs,hlt]
      · simp [Array.getD_eq_getD_getElem?,Ne.symm e,e]
     refine zgx a0 v W hB hstep hend fuel _ _ _ b' (by simpa using hs) ?_ (by rw [hSe];exact hS.put2 hB ho hv) (by rw [hSe];exact hW')
     have hfe : (List.range ops.size).filter (fun j => !(listed.setIfInBounds i true).getD j false) = ((List.range ops.size).filter (fun j => !listed.getD j false)).erase i := by
      have hnd:((List.range ops.size).filter (fun j=>!listed.getD j false)).Nodup:=List.nodup_range.filter _
      rw [hnd.erase_eq_filter,List.filter_filter]
      apply List.filter_congr
      intro j _
      have h9:(listed.setIfInBounds i true).getD j false=(listed.getD j false || j==i):=congrFun hSe j
      rw [h9]
      have e1:∀c:Bool,(!(c || j==i))=(j != i && !c):=fun c=>by cases c <;> cases h:(j==i) <;> simp [bne,h]
      rw [e1]
     rw [hfe,List.length_erase_of_mem (List.mem_filter.2 ⟨hi1,by rw [hun];rfl⟩),hf]
     rfl
theorem region_setE2 {P : Program} {ops : Array Oper} {Q : Exit → Act → World → Prop} {id : Nat} {w : World} (hm : P.follows .mixedOrders = true) (a0 : Act) {B : Type} (v : B → Nat → Value) (W : B → (Nat → Bool) → World → Prop) (hB : zfL ops a0.tmps.size = true)
 (b0:B) (h0:W b0 (fun _=>false) { w with drawn:=w.drawn+1 })
 (hstep : ∀ (i : Nat) (o : Oper), ops[i]? = some o → ∀ (b : B) (S : Nat → Bool) (w : World) (a : Act), W b S w → S i = false → (∀ e ∈ o.after, Region.binds .any e = true → S e.on = true) → SlotsIn ops a0 S (v b) a →
  o.wp P a w (fun a' w'=>∃b',(∀j,S j=true→v b' j=v b j)∧a'=a.put o.dst (v b' i)∧W b' (fun j=>S j || j==i) w') Q)
 (hend:∀(b:B) (w:World) (a:Act) (S:Nat→Bool),(∀j,j < ops.size→S j=true)→SlotsIn ops a0 S (v b) a→W b S w→Q .normal a w):(Code.region id ops true).wp P Q a0 w:=by
 have hS : (fun j => (Array.replicate ops.size false).getD j false) = fun _ => false := by
  funext j
  rw [Array.getD_eq_getD_getElem?,Array.getElem?_replicate]
  split <;> rfl
 refine wp_region_any hm (zgx a0 v W hB hstep hend ops.size _ a0 _ b0 (by simp) ?_ ?_ (by rw [hS];exact h0))
 · have : (List.range ops.size).filter (fun i => !(Array.replicate ops.size false).getD i false) = List.range ops.size := by
    rw [List.filter_eq_self]
    intro j _
    rw [congrFun hS j];rfl
   rw [this];simp
 · rw [hS]
   exact ⟨rfl,rfl,fun j oj d _ _ h=>(by cases h),fun d _=>rfl⟩
theorem zei {ops : Array Oper} {a0 : Act} {v : Nat → Value} (hB : zfL ops a0.tmps.size = true) : ∀ (l : List Oper) (n : Nat) (a : Act), n + l.length = ops.size → (∀ i o, l[i]? = some o → ops[n + i]? = some o) → SlotsIn ops a0 (fun j => decide (j < n)) v a → SlotsIn ops a0 (fun j => decide (j < ops.size)) v (zbz v n l a)
 | [],n,a,hn,_,h=>by rw [←hn];simpa [zbz] using h
 | o :: r, n, a, hn, hl, h => by
   refine zei hB r (n+1) _ (by rw [←hn];simp;omega) (fun i o' e=>?_) ?_
   · have := hl (i + 1) o' (by simpa using e)
     rw [show n+1+i=n+(i+1) by omega];exact this
   · have := h.put2 (v' := v) hB (hl 0 o (by simp)) (fun _ _ => rfl)
     have e : (fun j => decide (j < n + 1)) = fun j => (decide (j < n) || j == n + 0) := by
      funext j
      by_cases h1:j < n
      · simp [h1];omega
      · by_cases h2 : j = n
        · simp [h2]
        · have h3 : ¬ j < n + 1 := by omega
          simp [h1,h2,h3]
     rw [e]
     exact this
theorem SlotsIn.all2 {ops : Array Oper} {a0 a : Act} {S : Nat → Bool} {v : Nat → Value} (hB : zfL ops a0.tmps.size = true) (h : SlotsIn ops a0 S v a) (hall : ∀ j, j < ops.size → S j = true) : a = zbz v 0 ops.toList a0 := by
 refine SlotsIn.uniq (S:=fun j=>decide (j < ops.size)) (ops:=ops) (a0:=a0) (v:=v) ?_ (zei hB ops.toList 0 a0 (by simp) (fun i o e=>by rw [Nat.zero_add];rw [Array.getElem?_toList] at e;exact e) ?_)
 · obtain ⟨h1, h2, h3, h4⟩ := h
   refine ⟨h1,h2,fun j oj d hj hd _=>h3 j oj d hj hd (hall j (Array.getElem?_eq_some_iff.1 hj).1),fun d hd=>h4 d fun j oj hj hdj=>?_⟩
   have:=hd j oj hj hdj
   have hlt:=(Array.getElem?_eq_some_iff.1 hj).1
   simp only [decide_eq_false_iff_not] at this
   exact absurd hlt this
 · exact ⟨rfl,rfl,fun j oj d _ _ h=>by simp at h,fun d _=>rfl⟩
end Go.Proofs.YtnlhbknajdpnbaaGreatDoor
