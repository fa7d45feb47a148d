/-
  What is proved here: a region that draws its order, as in the texts Rs and Os, where operations also name later ones in edges that bind no order of the model. Nothing of the program is used.
-/
import Derived.Test.YtkdlfbggddllhaaPG11
set_option linter.unusedVariables false
set_option linter.unusedSimpArgs false
namespace Go.Proofs.Ytkdlfbggddllhaa
open Go.RowKit
def setB2 (ops : Array Oper) (n : Nat) : Bool :=
 (List.range ops.size).all fun i => match ops[i]? with
  | none=>true
  | some o => o.guard.isNone && o.after.all (fun e => !Region.binds .any e || decide (e.on < i)) && (match o.dst with
    | none=>true
    | some d => decide (d < n) && (List.range ops.size).all fun j => decide (j = i) || match ops[j]? with
      | none=>true
      | some oj=>decide (oj.dst≠some d))
theorem setB_at2 {ops : Array Oper} {n i : Nat} {o : Oper} (h : setB2 ops n = true) (hi : ops[i]? = some o) :
 o.guard=none∧(∀e∈o.after,Region.binds .any e=true→e.on < i)∧∀d,o.dst=some d→d < n∧∀(j:Nat) (oj:Oper),ops[j]? = some oj→oj.dst=some d→j=i:=by
 unfold setB2 at h
 rw [List.all_eq_true] at h
 have hlt:i < ops.size:=(Array.getElem?_eq_some_iff.1 hi).1
 have h1:=h i (List.mem_range.2 hlt)
 rw [hi] at h1
 simp only [Bool.and_eq_true] at h1
 obtain ⟨⟨h2,h3⟩,h4⟩:=h1
 refine ⟨by simpa using h2,fun e he=>?_,fun d hd=>?_⟩
 · rw [Array.all_eq_true'] at h3
   intro hb
   have:=h3 e he
   rw [hb] at this
   simpa using this
 · rw [hd] at h4
   simp only [Bool.and_eq_true,decide_eq_true_eq,List.all_eq_true] at h4
   refine ⟨h4.1,fun j oj hj hdj=>?_⟩
   have h5:=h4.2 j (List.mem_range.2 (Array.getElem?_eq_some_iff.1 hj).1)
   rw [hj] at h5
   simp only [Bool.or_eq_true,decide_eq_true_eq] at h5
   rcases h5 with h5 | h5
   · exact h5
   · exact absurd hdj h5
theorem SlotsIn.put2 {ops : Array Oper} {a0 a : Act} {S : Nat → Bool} {v v' : Nat → Value} {i : Nat} {o : Oper} (h : SlotsIn ops a0 S v a) (hB : setB2 ops a0.tmps.size = true) (hi : ops[i]? = some o) (hv : ∀ j, S j = true → v' j = v j) :
 SlotsIn ops a0 (fun j=>S j || j==i) v' (a.put o.dst (v' i)):=by
 obtain ⟨h1,h2,h3,h4⟩:=h
 obtain ⟨_,_,hd⟩:=setB_at2 hB hi
 rcases ho:o.dst with _ | d
 · refine ⟨h1, h2, fun j oj d hj hdj hS => ?_, fun d hd' => ?_⟩
   · have hne : j ≠ i := by rintro rfl; rw [hi] at hj; injection hj with hj; rw [← hj, ho] at hdj; cases hdj
     have hS':S j=true:=by simpa [hne] using hS
     rw [hv j hS']
     exact h3 j oj d hj hdj hS'
   · exact h4 d fun j oj hj hdj=>by have:=hd' j oj hj hdj;simp only [Bool.or_eq_false_iff] at this;exact this.1
 · obtain ⟨hlt, huniq⟩ := hd d ho
   have key : ∀ d', (a.put (some d) (v' i)).tmps.getD d' undef = if d' = d then v' i else a.tmps.getD d' undef := by
    intro d'
    show (a.tmps.setIfInBounds d (v' i)).getD d' undef=_
    by_cases e:d'=d
    · subst e
      simp [Array.getD_eq_getD_getElem?,h2,hlt]
    · rw [if_neg e]
      simp [Array.getD_eq_getD_getElem?,Ne.symm e]
   refine ⟨h1,by show (a.tmps.setIfInBounds d (v' i)).size=_;simpa using h2,fun j oj d' hj hdj hS=>?_,fun d' hd'=>?_⟩
   · rw [key]
     by_cases e:d'=d
     · subst e
       rw [if_pos rfl,huniq j oj hj hdj]
     · rw [if_neg e]
       have hne:j≠i:=by rintro rfl;rw [hi] at hj;injection hj with hj;rw [←hj,ho] at hdj;exact e (Option.some.inj hdj).symm
       have hS':S j=true:=by simpa [hne] using hS
       rw [hv j hS']
       exact h3 j oj d' hj hdj hS'
   · rw [key]
     have e : d' ≠ d := by
      rintro rfl
      have:=hd' i o hi ho
      simp at this
     rw [if_neg e]
     exact h4 d' fun j oj hj hdj=>by have:=hd' j oj hj hdj;simp only [Bool.or_eq_false_iff] at this;exact this.1
theorem zbj {P : Program} {ops : Array Oper} {Q : Exit → Act → World → Prop} (a0 : Act) {B : Type} (v : B → Nat → Value) (W : B → (Nat → Bool) → World → Prop) (hB : setB2 ops a0.tmps.size = true)
 (hstep : ∀ (i : Nat) (o : Oper), ops[i]? = some o → ∀ (b : B) (S : Nat → Bool) (w : World) (a : Act), W b S w → S i = false → (∀ e ∈ o.after, Region.binds .any e = true → S e.on = true) → SlotsIn ops a0 S (v b) a →
  o.wp P a w (fun a' w'=>∃b',(∀j,S j=true→v b' j=v b j)∧a'=a.put o.dst (v b' i)∧W b' (fun j=>S j || j==i) w') Q)
 (hend:∀(b:B) (w:World) (a:Act) (S:Nat→Bool),(∀j,j < ops.size→S j=true)→SlotsIn ops a0 S (v b) a→W b S w→Q .normal a w) :
 ∀ (fuel : Nat) (listed : Array Bool) (a : Act) (w : World) (b : B), listed.size = ops.size → ((List.range ops.size).filter (fun i => !listed.getD i false)).length = fuel →
   SlotsIn ops a0 (fun j=>listed.getD j false) (v b) a→W b (fun j=>listed.getD j false) w→wpAny P .any ops Q fuel listed a w
 | 0, listed, a, w, b, hs, hf, hS, hW => by
   have hall : ∀ j, j < ops.size → listed.getD j false = true := by
    intro j hj
    have h0:=List.eq_nil_of_length_eq_zero hf
    rw [List.filter_eq_nil_iff] at h0
    simpa using h0 j (List.mem_range.2 hj)
   refine ⟨?_,hend b w a _ hall hS hW⟩
   unfold Region.ready
   rw [List.filter_eq_nil_iff]
   intro j hj
   have h1:=hall j (List.mem_range.1 hj)
   have h2 : listed.getD j true = true := by
    rw [Array.getD_eq_getD_getElem?] at h1 ⊢
    rcases h3:listed[j]? with _ | x
    · rfl
    · rw [h3] at h1;exact h1
   rw [h2]
   simp
 | fuel + 1, listed, a, w, b, hs, hf, hS, hW => by
   refine ⟨fun hnil=>?_,fun i hi=>?_⟩
   · -- the first that has not come up may come up
     exfalso
     obtain ⟨x, hx⟩ : ∃ x, x ∈ (List.range ops.size).filter (fun i => !listed.getD i false) := by
      rcases hl:(List.range ops.size).filter (fun i=>!listed.getD i false) with _ | ⟨x,l⟩
      · rw [hl] at hf;simp at hf
      · exact ⟨x,by simp⟩
     have hex:∃x,x < ops.size∧listed.getD x false=false:=⟨x,by simpa using (List.mem_filter.1 hx).1,by simpa using (List.mem_filter.1 hx).2⟩
     obtain ⟨m, ⟨hm1, hm2⟩, hmin⟩ : ∃ m, (m < ops.size ∧ listed.getD m false = false) ∧ ∀ y, y < m → ¬ (y < ops.size ∧ listed.getD y false = false) := by
      obtain ⟨x,hx⟩:=hex
      induction x using Nat.strongRecOn with
      | _ x ih =>
        by_cases h:∃y,y < x∧(y < ops.size∧listed.getD y false=false)
        · obtain ⟨y,h1,h2⟩:=h;exact ih y h1 h2
        · exact ⟨x,hx,fun y hy h2=>h ⟨y,hy,h2⟩⟩
     obtain ⟨o,ho⟩ : ∃o,ops[m]? = some o:=⟨_,Array.getElem?_eq_getElem hm1⟩
     have hmem : m ∈ Region.ready .any ops listed := by
      unfold Region.ready
      rw [List.mem_filter]
      refine ⟨List.mem_range.2 hm1,?_⟩
      have h2 : listed.getD m true = false := by
       rw [Array.getD_eq_getD_getElem?] at hm2 ⊢
       rw [Array.getElem?_eq_getElem (by omega)] at hm2 ⊢
       exact hm2
      rw [h2,ho]
      simp only [Bool.not_false,Bool.true_and,Option.map_some,Option.getD_some]
      rw [Array.all_eq_true']
      intro e he
      rcases hbd:Region.binds .any e with _ | _
      · rfl
      have h3:=(setB_at2 hB ho).2.1 e he hbd
      rcases h4:listed.getD e.on false with _ | _
      · exact absurd ⟨by omega,h4⟩ (hmin e.on h3)
      · simp
     rw [hnil] at hmem
     simp at hmem
   · unfold Region.ready at hi
     rw [List.mem_filter] at hi
     obtain ⟨hi1,hi2⟩:=hi
     have hlt:=List.mem_range.1 hi1
     obtain ⟨o,ho⟩ : ∃o,ops[i]? = some o:=⟨_,Array.getElem?_eq_getElem hlt⟩
     rw [ho] at hi2
     simp only [Option.map_some,Option.getD_some,Bool.and_eq_true,Bool.not_eq_true'] at hi2
     have hun : listed.getD i false = false := by
      have h1:=hi2.1
      rw [Array.getD_eq_getD_getElem?,Array.getElem?_eq_getElem (by omega)] at h1 ⊢
      exact h1
     have hdep : ∀ e ∈ o.after, Region.binds .any e = true → listed.getD e.on false = true := by
      intro e he hb
      have h1:=hi2.2
      rw [Array.all_eq_true'] at h1
      have:=h1 e he
      rw [hb] at this
      simpa using this
     obtain ⟨hg,_,_⟩:=setB_at2 hB ho
     have hwp:=hstep i o ho b _ w a hW hun hdep hS
     unfold wpOp
     rw [ho]
     have hw:Region.wanted o (yielded ops a.tmps)=true:=by simp [Region.wanted,hg]
     simp only [hw,if_true]
     left
     refine Oper.wp_mono ?_ hwp
     rintro a' w' ⟨b',hv,rfl,hW'⟩
     have hSe : (fun j => (listed.setIfInBounds i true).getD j false) = fun j => (listed.getD j false || j == i) := by
      funext j
      by_cases e:j=i
      · subst e
        simp [Array.getD_eq_getD_getElem?,hs,hlt]
      · simp [Array.getD_eq_getD_getElem?,Ne.symm e,e]
     refine zbj a0 v W hB hstep hend fuel _ _ _ b' (by simpa using hs) ?_ (by rw [hSe];exact hS.put2 hB ho hv) (by rw [hSe];exact hW')
     have hfe : (List.range ops.size).filter (fun j => !(listed.setIfInBounds i true).getD j false) = ((List.range ops.size).filter (fun j => !listed.getD j false)).erase i := by
      have hnd:((List.range ops.size).filter (fun j=>!listed.getD j false)).Nodup:=List.nodup_range.filter _
      rw [hnd.erase_eq_filter,List.filter_filter]
      apply List.filter_congr
      intro j _
      have h9:(listed.setIfInBounds i true).getD j false=(listed.getD j false || j==i):=congrFun hSe j
      rw [h9]
      have e1:∀c:Bool,(!(c || j==i))=(j != i && !c):=fun c=>by cases c <;> cases h:(j==i) <;> simp [bne,h]
      rw [e1]
     rw [hfe,List.length_erase_of_mem (List.mem_filter.2 ⟨hi1,by rw [hun];rfl⟩),hf]
     rfl
theorem region_setE2 {P : Program} {ops : Array Oper} {Q : Exit → Act → World → Prop} {id : Nat} {w : World} (hm : P.follows .mixedOrders = true) (a0 : Act) {B : Type} (v : B → Nat → Value) (W : B → (Nat → Bool) → World → Prop) (hB : setB2 ops a0.tmps.size = true)
 (b0:B) (h0:W b0 (fun _=>false) { w with drawn:=w.drawn+1 })
 (hstep : ∀ (i : Nat) (o : Oper), ops[i]? = some o → ∀ (b : B) (S : Nat → Bool) (w : World) (a : Act), W b S w → S i = false → (∀ e ∈ o.after, Region.binds .any e = true → S e.on = true) → SlotsIn ops a0 S (v b) a →
  o.wp P a w (fun a' w'=>∃b',(∀j,S j=true→v b' j=v b j)∧a'=a.put o.dst (v b' i)∧W b' (fun j=>S j || j==i) w') Q)
 (hend:∀(b:B) (w:World) (a:Act) (S:Nat→Bool),(∀j,j < ops.size→S j=true)→SlotsIn ops a0 S (v b) a→W b S w→Q .normal a w):(Code.region id ops true).wp P Q a0 w:=by
 have hS : (fun j => (Array.replicate ops.size false).getD j false) = fun _ => false := by
  funext j
  rw [Array.getD_eq_getD_getElem?,Array.getElem?_replicate]
  split <;> rfl
 refine wp_region_any hm (zbj a0 v W hB hstep hend ops.size _ a0 _ b0 (by simp) ?_ ?_ (by rw [hS];exact h0))
 · have : (List.range ops.size).filter (fun i => !(Array.replicate ops.size false).getD i false) = List.range ops.size := by
    rw [List.filter_eq_self]
    intro j _
    rw [congrFun hS j];rfl
   rw [this];simp
 · rw [hS]
   exact ⟨rfl,rfl,fun j oj d _ _ h=>(by cases h),fun d _=>rfl⟩
theorem zaL {ops : Array Oper} {a0 : Act} {v : Nat → Value} (hB : setB2 ops a0.tmps.size = true) : ∀ (l : List Oper) (n : Nat) (a : Act), n + l.length = ops.size → (∀ i o, l[i]? = some o → ops[n + i]? = some o) → SlotsIn ops a0 (fun j => decide (j < n)) v a → SlotsIn ops a0 (fun j => decide (j < ops.size)) v (zaF v n l a)
 | [],n,a,hn,_,h=>by rw [←hn];simpa [zaF] using h
 | o :: r, n, a, hn, hl, h => by
   refine zaL hB r (n+1) _ (by rw [←hn];simp;omega) (fun i o' e=>?_) ?_
   · have := hl (i + 1) o' (by simpa using e)
     rw [show n+1+i=n+(i+1) by omega];exact this
   · have := h.put2 (v' := v) hB (hl 0 o (by simp)) (fun _ _ => rfl)
     have e : (fun j => decide (j < n + 1)) = fun j => (decide (j < n) || j == n + 0) := by
      funext j
      by_cases h1:j < n
      · simp [h1];omega
      · by_cases h2 : j = n
        · simp [h2]
        · have h3 : ¬ j < n + 1 := by omega
          simp [h1,h2,h3]
     rw [e]
     exact this
theorem SlotsIn.all2 {ops : Array Oper} {a0 a : Act} {S : Nat → Bool} {v : Nat → Value} (hB : setB2 ops a0.tmps.size = true) (h : SlotsIn ops a0 S v a) (hall : ∀ j, j < ops.size → S j = true) : a = zaF v 0 ops.toList a0 := by
 refine SlotsIn.uniq (S:=fun j=>decide (j < ops.size)) (ops:=ops) (a0:=a0) (v:=v) ?_ (zaL hB ops.toList 0 a0 (by simp) (fun i o e=>by rw [Nat.zero_add];rw [Array.getElem?_toList] at e;exact e) ?_)
 · obtain ⟨h1, h2, h3, h4⟩ := h
   refine ⟨h1,h2,fun j oj d hj hd _=>h3 j oj d hj hd (hall j (Array.getElem?_eq_some_iff.1 hj).1),fun d hd=>h4 d fun j oj hj hdj=>?_⟩
   have:=hd j oj hj hdj
   have hlt:=(Array.getElem?_eq_some_iff.1 hj).1
   simp only [decide_eq_false_iff_not] at this
   exact absurd hlt this
 · exact ⟨rfl,rfl,fun j oj d _ _ h=>by simp at h,fun d _=>rfl⟩
end Go.Proofs.Ytkdlfbggddllhaa
