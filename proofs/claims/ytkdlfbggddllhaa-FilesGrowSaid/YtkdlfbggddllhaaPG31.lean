/-
  What is proved here: the makers of conditions and states; words for a maker's own blocks beside the dice.
-/
import Derived.Test.YtkdlfbggddllhaaPG30
import Derived.Test.YtkdlfbggddllhaaPG27
set_option linter.unusedVariables false
set_option linter.unusedSimpArgs false
namespace Go.Proofs.Ytkdlfbggddllhaa
open Go.RowKit
set_option maxRecDepth 8000
def OwnD (w : World) (D : Nat) (cur : World) (L : List (Nat × List Value)) : Prop :=
 (w.grownBy cur (some D)∧DiceOk cur D∧D < w.heap.size)∧(∀(i g:Nat) (vs:List Value),L[i]? = some (g,vs)→w.heap.size≤g∧RowV cur g vs)∧∀(i j g g':Nat) (vs vs':List Value),L[i]? = some (g,vs)→L[j]? = some (g',vs')→i≠j→g≠g'
section
variable {w cur cur':World} {D:Nat} {L:List (Nat×List Value)} {i g:Nat} {vs us:List Value}
theorem OwnD.start (h:DiceOk w D):OwnD w D w []:=⟨⟨World.grownBy.refl _ _,h,h.lt⟩,fun i g vs h=>by simp at h,fun i j g g' vs vs' h=>by simp at h⟩
theorem OwnD.grown (h:OwnD w D cur L):w.grownBy cur (some D):=h.1.1
theorem OwnD.ok (h:OwnD w D cur L):DiceOk cur D:=h.1.2.1
theorem OwnD.row (h:OwnD w D cur L) (e:L[i]? = some (g,vs)):RowV cur g vs:=(h.2.1 i g vs e).2
theorem OwnD.ge (h:OwnD w D cur L) (e:L[i]? = some (g,vs)):w.heap.size≤g:=(h.2.1 i g vs e).1
theorem OwnD.on (h : OwnD w D cur L) (hb : Below cur.heap.size cur cur') : OwnD w D cur' L :=
 ⟨⟨h.1.1.on hb,h.1.2.1.below hb,h.1.2.2⟩,fun i g vs e=>⟨h.ge e,(h.row e).on hb⟩,h.2.2⟩
theorem OwnD.dice (h : OwnD w D cur L) (hg : cur.grownBy cur' (some D)) (hd : DiceOk cur' D) : OwnD w D cur' L :=
 ⟨⟨zaC h.1.1 hg,hd,h.1.2.2⟩,fun i g vs e=>⟨h.ge e,(h.row e).dice hg (ne_dice (h.ge e) h.1.2.2)⟩,h.2.2⟩
theorem OwnD.new (h : OwnD w D cur L) (hf : Fresh cur cur' g) (hr : RowV cur' g vs) : OwnD w D cur' (L ++ [(g, vs)]) := by
 have hlt:∀(i g':Nat) (vs':List Value),L[i]? = some (g',vs')→g'≠g:=fun i g' vs' e=>(h.row e).ne hf
 have hge:w.heap.size≤g:=by rw [hf.1];exact h.1.1.size
 refine ⟨⟨h.1.1.on hf.bw,h.1.2.1.below hf.bw,h.1.2.2⟩,fun i g' vs' e=>?_,fun i j g1 g2 v1 v2 e1 e2 hne=>?_⟩
 · rw [List.getElem?_append] at e
   split at e
   · exact ⟨h.ge e,(h.row e).fresh hf⟩
   · have e' : g' = g ∧ vs' = vs := by
      rcases hk:i - L.length with _ | k
      · rw [hk] at e;simp at e;exact ⟨e.1.symm,e.2.symm⟩
      · rw [hk] at e;simp at e
     obtain ⟨rfl,rfl⟩:=e'
     exact ⟨hge,hr⟩
 · rw [List.getElem?_append] at e1 e2
   have key : ∀ (k : Nat) (x : Nat) (y : List Value), [(g, vs)][k]? = some (x, y) → k = 0 ∧ x = g := by
    intro k x y e
    rcases k with _ | k
    · simp at e;exact ⟨rfl,e.1.symm⟩
    · simp at e
   split at e1 <;> split at e2
   · exact h.2.2 i j g1 g2 v1 v2 e1 e2 hne
   · obtain ⟨_,rfl⟩:=key _ _ _ e2;exact hlt i g1 v1 e1
   · obtain ⟨_,rfl⟩:=key _ _ _ e1;exact (hlt j g2 v2 e2).symm
   · have:=(key _ _ _ e1).1;have:=(key _ _ _ e2).1;omega
theorem OwnD.set (h : OwnD w D cur L) (e : L[i]? = some (g, vs)) (hw : Wr cur cur' g) (hr : RowV cur' g us) : OwnD w D cur' (L.set i (g, us)) := by
 have hlt:i < L.length:=(List.getElem?_eq_some_iff.1 e).1
 have key : ∀ (j x : Nat) (y : List Value), (L.set i (g, us))[j]? = some (x, y) → (j = i ∧ x = g ∧ y = us) ∨ (j ≠ i ∧ L[j]? = some (x, y)) := by
  intro j x y hj
  by_cases hji:j=i
  · subst hji
    rw [List.getElem?_set_self hlt] at hj
    injection hj with hj
    injection hj with h1 h2
    exact .inl ⟨rfl,h1.symm,h2.symm⟩
  · rw [List.getElem?_set_ne (Ne.symm hji)] at hj
    exact .inr ⟨hji,hj⟩
 refine ⟨⟨h.1.1.wrote hw (h.ge e),h.1.2.1.wrote hw (Nat.lt_of_lt_of_le h.1.2.2 (h.ge e)),h.1.2.2⟩,fun j g' vs' hj=>?_,fun j k g1 g2 v1 v2 e1 e2 hne=>?_⟩
 · rcases key j g' vs' hj with ⟨rfl, rfl, rfl⟩ | ⟨hne, hj⟩
   · exact ⟨h.ge e,hr⟩
   · exact ⟨h.ge hj,(h.row hj).wr hw (h.2.2 j i g' g vs' vs hj e hne)⟩
 · rcases key j g1 v1 e1 with ⟨rfl, rfl, rfl⟩ | ⟨hn1, f1⟩ <;> rcases key k g2 v2 e2 with ⟨rfl, rfl, rfl⟩ | ⟨hn2, f2⟩
   · exact absurd rfl hne
   · exact h.2.2 _ _ _ _ _ _ e f2 hne
   · exact h.2.2 _ _ _ _ _ _ f1 e hne
   · exact h.2.2 _ _ _ _ _ _ f1 f2 hne
end
theorem next_l (D : Nat) : ∀ (n : Nat) (m : Int) (u : World), (n : Int) = m → 0 < n → n ≤ 1000000 → DiceOk u D → Calls Try.prog 17 #[.pointer (some ⟨D, 0, none⟩), .int .i64 m] u (NextIs u D n) := by
 intro n m u hm h0 h1 hd
 subst hm
 exact dice_next D n u h0 (by omega) hd
theorem one_l (D : Nat) : ∀ (n : Nat) (m : Int) (u : World), (n : Int) = m → 0 < n → n ≤ 1000000 → DiceOk u D → Calls Try.prog 15 #[.pointer (some ⟨D, 0, none⟩), .int .i64 m] u (OneIs u D) := by
 intro n m u hm h0 h1 hd
 subst hm
 exact dice_one D n u h0 (by omega) hd
theorem bld_cn1 (r:Int):Try.prog.built 54 [(0,.int .i64 r)]=some (cnV r 0).toArray:=by kernel_rfl
def AccD (w:World) (D:Nat) (e:Ending) (w':World):Prop:=∃lv rt:Int,e=.returned (.agg (cnV lv rt).toArray)∧w.grownBy w' (some D)∧DiceOk w' D
set_option maxHeartbeats 3200000 in
theorem dice_access (D : Nat) (w : World) (h : DiceOk w D) : Calls Try.prog 25 #[.pointer (some ⟨D, 0, none⟩)] w (AccD w D) := by
 have HN:=Lib.hid (next_l D)
 have H:=Lib.hid (OwnD.start h)
 clear h
 go_enter Try.func25,Try.ntmps25
 go_wp2_with (first
  | ((with_reducible refine zaj (d:=2) ?_);refine zae (op:=⟨some 2,_,_,_,_,_⟩) rfl 54 rfl (cnV 0 0) info_cz ?_;intro g2 w1 hf hr;have H:=Lib.hid (H.out.new hf hr);clear hf hr)
  | (go_at_call 17;(refine (HN.out 5 _ _ (by rfl) (by decide) (by decide) H.out.ok).mono ?_);(rintro e w2 ⟨r,hr,rfl,hg,hd⟩);have H:=Lib.hid (H.out.dice hg hd);clear hg hd)
  | ((with_reducible refine zal (d:=6) ?_);go_must (refine zai rfl 54 _ rfl (pe1v rfl) (bld_cn1 (r:Int)) ?_))
  | ((with_reducible refine zaj (d:=3) ?_);refine zae (op:=⟨some 3,_,_,_,_,_⟩) rfl 54 rfl (cnV 0 0) info_cz ?_;intro g3 w3 hf hr;have H:=Lib.hid (H.out.new hf hr);clear hf hr)
  | ((with_reducible refine zah (i:=3) ?_);go_must (refine zaf rfl 54 (.tmp 3) _ rfl g3 (cnV 0 0) (cnV (r:Int) 0) rfl rfl (H.out.row (i:=1) rfl) rfl (cn_one _ _) zat ?_);intro w4 hw hr2;have H:=Lib.hid (H.out.set (i:=1) rfl hw hr2);have c8:w4.cell? ⟨g3,0,none⟩=some (.int .i64 (r:Int)):=(hr2.cell 0).trans rfl;clear hw hr2)
  | (go_at_call 17;(refine (HN.out 16 _ _ (by rfl) (by decide) (by decide) H.out.ok).mono ?_);(rintro e w5 ⟨r2,hr2,rfl,hg,hd⟩);have H:=Lib.hid (H.out.dice hg hd);clear hg hd c8)
  | ((with_reducible refine zah (i:=12) ?_);go_must (refine zax rfl 3 (.tmp 12) _ rfl g3 1 (cnV _ 0) (.int .i64 (r2:Int)) rfl rfl (H.out.row (i:=1) rfl) (by decide:1 < 2) rfl rfl size_i ?_);intro w6 hw hr2;have H:=Lib.hid (H.out.set (us:=cnV _ (r2:Int)) (i:=1) rfl hw hr2);clear hw hr2)
  | ((with_reducible refine zac (d:=13) ?_);go_must (refine zab rfl 54 (.tmp 3) rfl g3 rfl (cnV _ _) _ (H.out.row (i:=1) rfl) Try.underlying54 rfl zat ?_))
  | ((with_reducible refine zah (i:=2) ?_);go_must (refine zaf rfl 54 (.tmp 2) _ rfl g2 (cnV 0 0) (cnV _ _) rfl rfl (H.out.row (i:=0) rfl) rfl (cn_one _ _) zat ?_);intro w7 hw hr2;have H:=Lib.hid (H.out.set (i:=0) rfl hw hr2);clear hw hr2))
 all_goals exact bodyPost_ret (results_v rfl _ _ g2 (cnV _ _) _ rfl (H.out.row (i:=0) rfl) Try.underlying54 rfl zat) rfl ⟨_,_,rfl,H.out.grown,H.out.ok⟩
theorem zaJ:(Try.prog.info? 29).map (·.zero)=some (some (.agg st0.cs.toArray)):=by kernel_rfl
theorem bld_st5 (p:Int) (b c t:Bool) (r:Int):Try.prog.built 29 [(0,.int .i64 p),(1,.bool b),(2,.bool c),(3,.bool t),(4,.int .i64 r)]=some (Sta.cs ⟨p,b,c,t,r⟩).toArray:=by kernel_rfl
theorem pe5 {a : Act} {x0 x1 x2 x3 x4 : Operand} {u0 u1 u2 u3 u4 : Value} (h0 : a.eval x0 = u0) (h1 : a.eval x1 = u1) (h2 : a.eval x2 = u2) (h3 : a.eval x3 = u3) (h4 : a.eval x4 = u4) :
 ((#[(0,x0),(1,x1),(2,x2),(3,x3),(4,x4)]:Array (Nat×Operand)).map fun (i,x)=>(i,a.eval x)).toList=[(0,u0),(1,u1),(2,u2),(3,u3),(4,u4)]:=by simp [h0,h1,h2,h3,h4]
def StaD (w:World) (D:Nat) (e:Ending) (w':World):Prop:=∃(s:Sta) (r:Nat),e=.returned (.agg s.cs.toArray)∧s.rs=(r:Int)∧r < 65536∧w.grownBy w' (some D)∧DiceOk w' D
set_option maxHeartbeats 3200000 in
theorem dice_state (D : Nat) (w : World) (h : DiceOk w D) : Calls Try.prog 14 #[.pointer (some ⟨D, 0, none⟩)] w (StaD w D) := by
 have HN:=Lib.hid (next_l D)
 have HO:=Lib.hid (one_l D)
 have H:=Lib.hid (OwnD.start h)
 clear h
 go_enter Try.func14,Try.ntmps14
 go_wp2_with (first
  | ((with_reducible refine zaj (d:=2) ?_);refine zae (op:=⟨some 2,_,_,_,_,_⟩) rfl 29 rfl st0.cs zaJ ?_;intro g2 w1 hf hr;have H:=Lib.hid (H.out.new hf hr);clear hf hr)
  | (go_at_call 17;(refine (HN.out 5 _ _ (by rfl) (by decide) (by decide) H.out.ok).mono ?_);(rintro e w2 ⟨p,hp,rfl,hg,hd⟩);have H:=Lib.hid (H.out.dice hg hd);clear hg hd)
  | (go_at_call 17;(refine (HN.out 65536 _ _ (by rfl) (by decide) (by decide) H.out.ok).mono ?_);(rintro e w6 ⟨r,hr,rfl,hg,hd⟩);have H:=Lib.hid (H.out.dice hg hd);clear hg hd)
  | (go_at_call 15;(refine (HO.out 3 _ _ (by rfl) (by decide) (by decide) H.out.ok).mono ?_);(rintro e w3 ⟨b,rfl,hg,hd⟩);have H:=Lib.hid (H.out.dice hg hd);clear hg hd)
  | (go_at_call 15;(refine (HO.out 2 _ _ (by rfl) (by decide) (by decide) H.out.ok).mono ?_);(rintro e w4 ⟨c,rfl,hg,hd⟩);have H:=Lib.hid (H.out.dice hg hd);clear hg hd)
  | ((with_reducible refine zal (d:=13) ?_);go_must (refine zai rfl 29 _ rfl (pe5 rfl rfl rfl rfl rfl) (bld_st5 _ _ _ _ _) ?_))
  | ((with_reducible refine zah (i:=2) ?_);go_must (refine zaf rfl 29 (.tmp 2) _ rfl g2 st0.cs (Sta.cs ⟨_,_,_,_,_⟩) rfl rfl (H.out.row (i:=0) rfl) rfl (Sta.cs_one _) zao ?_);intro w7 hw hr2;have H:=Lib.hid (H.out.set (i:=0) rfl hw hr2);clear hw hr2))
 exact bodyPost_ret (results_v rfl _ _ g2 (Sta.cs ⟨_,_,_,_,_⟩) _ rfl (H.out.row (i:=0) rfl) Try.underlying29 rfl zao) rfl ⟨⟨_,_,_,_,_⟩,r,rfl,rfl,hr,H.out.grown,H.out.ok⟩
end Go.Proofs.Ytkdlfbggddllhaa
