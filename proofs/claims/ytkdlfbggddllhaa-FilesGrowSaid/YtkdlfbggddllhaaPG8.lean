/-
  What is proved here: words for slices of byte slices in memory, and copy onto a row of the call's own; nothing of the program is used.
-/
import Derived.Test.YtkdlfbggddllhaaPG0
import Derived.Laws.CopyOwn
set_option linter.unusedVariables false
set_option linter.unusedSimpArgs false
namespace Go.Proofs.Ytkdlfbggddllhaa
open Go.RowKit
set_option maxRecDepth 8000
def Lists (w : World) (B : Nat) (vs : List Value) (ls : List (List UInt8)) : Prop :=
 vs.length=ls.length∧∀(i:Nat) (l:List UInt8),ls[i]? = some l→∃(A:Option Addr) (c:Nat),vs[i]? = some (Value.slice A l.length c)∧Sees w B A (Us l)
def SeesL (w:World) (B:Nat) (A:Option Addr) (ls:List (List UInt8)):Prop:=∃vs,Sees w B A vs∧Lists w B vs ls
theorem Lists.below {w w' : World} {B : Nat} {vs : List Value} {ls : List (List UInt8)} (h : Lists w B vs ls) (hb : Below B w w') : Lists w' B vs ls :=
 ⟨h.1,fun i l hl=>by obtain ⟨A,c,hv,hs⟩:=h.2 i l hl;exact ⟨A,c,hv,hs.below hb⟩⟩
theorem Lists.more {w : World} {B B' : Nat} {vs : List Value} {ls : List (List UInt8)} (h : Lists w B vs ls) (hB : B ≤ B') : Lists w B' vs ls :=
 ⟨h.1,fun i l hl=>by obtain ⟨A,c,hv,hs⟩:=h.2 i l hl;exact ⟨A,c,hv,hs.more hB⟩⟩
theorem SeesL.on {w w' : World} {A : Option Addr} {ls : List (List UInt8)} (h : SeesL w w.heap.size A ls) (hb : Below w.heap.size w w') : SeesL w' w'.heap.size A ls := by
 obtain ⟨vs,h1,h2⟩:=h
 exact ⟨vs,h1.on hb,(h2.below hb).more hb.size⟩
theorem SeesL.nil_ {w:World} {B:Nat} {A:Option Addr}:SeesL w B A []:=⟨[],.inl rfl,rfl,fun i l h=>by simp at h⟩
def Owned (w : World) (base : Nat) (e : TypeId) (vs : List Value) (ls : List (List UInt8)) : Prop :=
 vs.length=ls.length∧∀(i:Nat) (l:List UInt8),ls[i]? = some l→∃(A:Option Addr) (c:Nat),vs[i]? = some (Value.slice A l.length c)∧w.ownsRow base e 1 (.slice A l.length c) l.length (Us l)
theorem Owned.nil_ {w:World} {base:Nat} {e:TypeId}:Owned w base e [] []:=⟨rfl,fun i l h=>by simp at h⟩
theorem own_apart {w : World} {base base' : Nat} {e e' : TypeId} {v v' : Value} {n n' : Nat} {xs xs' : List Value} (h : w.ownsRow base e 1 v n xs) (h' : w.ownsRow base' e' 1 v' n' xs') (hne : e ≠ e') :
 v.ownBlock=none∨v.ownBlock≠v'.ownBlock:=by
 rcases h.2 with ⟨rfl,_⟩ | ⟨g,cap,cur,rfl,_,hh,_⟩
 · left;rfl
 · right
   rcases h'.2 with ⟨rfl,_⟩ | ⟨g',cap',cur',rfl,_,hh',_⟩
   · simp [Value.ownBlock]
   · intro he
     have:g=g':=by simpa [Value.ownBlock] using he
     subst this
     rw [hh] at hh'
     injection hh' with hh'
     injection hh' with _ ht
     exact hne ht
theorem Owned.kept {w w' : World} {base base' : Nat} {e e' : TypeId} {vs : List Value} {ls : List (List UInt8)} {v' : Value} {n' : Nat} {xs' : List Value} (h : Owned w base e vs ls) (h' : w.ownsRow base' e' 1 v' n' xs') (hne : e ≠ e')
 (hg:w.grownBy w' v'.ownBlock):Owned w' base e vs ls :=
 ⟨h.1,fun i l hl=>by obtain ⟨A,c,hv,hs⟩:=h.2 i l hl;exact ⟨A,c,hv,hs.kept hg (own_apart hs h' hne)⟩⟩
theorem Owned.alloc {w : World} {base : Nat} {e : TypeId} {vs : List Value} {ls : List (List UInt8)} (h : Owned w base e vs ls) (o : Obj) : Owned (w.alloc o) base e vs ls :=
 ⟨h.1,fun i l hl=>by obtain ⟨A,c,hv,hs⟩:=h.2 i l hl;exact ⟨A,c,hv,hs.alloc o⟩⟩
theorem Owned.new {w w' : World} {base : Nat} {e : TypeId} {vs : List Value} {ls : List (List UInt8)} (h : Owned w base e vs ls) (hg : w.grownBy w' none) : Owned w' base e vs ls :=
 ⟨h.1, fun i l hl => by
  obtain ⟨A,c,hv,hs⟩:=h.2 i l hl
  refine ⟨A,c,hv,hs.kept hg ?_⟩
  rcases hs.2 with ⟨h0,_⟩ | ⟨g,cap,cur,h0,_⟩
  · left;rw [h0];rfl
  · right;rw [h0];simp [Value.ownBlock]⟩
theorem zaD {P : Program} {w : World} {ops : Array Oper} {rest : List Oper} {o : Oper} {a : Act} {Q : Exit → Act → World → Prop} (hgd : o.guard = none) (d s : Operand) (dT sT : TypeId)
 (ho:o.op=.call { callee:=.builtin .copy,args:=#[d,s],argTypes:=#[dT,sT] }) (elem:TypeId) (hu:P.underlying dT=some (.slice elem)) (hsz:(P.info? elem).map (·.size)=some 1)
 (base g n cap:Nat) (xs:List Value) (hd:a.eval d=.slice (some ⟨g,0,none⟩) n cap) (hown:w.ownsRow base elem 1 (.slice (some ⟨g,0,none⟩) n cap) n xs)
 (A:Option Addr) (sLen sCap B:Nat) (ss:List Value) (hs:a.eval s=.slice A sLen sCap) (hl:ss.length=sLen) (hsees:Sees w B A ss) (h1:∀v∈ss,v.oneCell'=true)
 (hK:∀w',w'.ownsRow base elem 1 (.slice (some ⟨g,0,none⟩) n cap) n (ss.take n++xs.drop ss.length)→w.grownBy w' (some g)→wpList P ops Q rest (a.put o.dst (goInt (Nat.min sLen n))) w') :
 wpList P ops Q (o::rest) a w:=by
 subst hl
 have hxl:xs.length=n:=by simpa using hown.1
 by_cases h0:Nat.min ss.length n=0
 · refine wpList_copy_nothing hgd d s dT sT ho elem hu hsz _ _ n cap ss.length sCap hd hs h0 ?_
   have h0' : ss.take n = [] ∧ xs.drop ss.length = xs := by
    rcases Nat.eq_zero_or_pos n with rfl | hn
    · have : xs = [] := List.eq_nil_of_length_eq_zero hxl
      subst this;simp
    · have : ss.length = 0 := by
       have h:=h0
       simp only [Nat.min_def] at h
       split at h <;> omega
      have:ss=[]:=List.eq_nil_of_length_eq_zero this
      subst this;simp
   have h:=hK w (by rw [h0'.1,h0'.2];exact hown) (World.grownBy.refl _ _)
   rw [h0] at h
   exact h
 · obtain ⟨m, hm⟩ : ∃ m, Nat.min ss.length n = m := ⟨_, rfl⟩
   have hm1:m≤n:=by rw [←hm];exact Nat.min_le_right _ _
   have hm2:m≤ss.length:=by rw [←hm];exact Nat.min_le_left _ _
   have hm3 : m = n ∨ m = ss.length := by
    rw [←hm];simp only [Nat.min_def];split
    · right;rfl
    · left;rfl
   have hpos:0 < ss.length:=by omega
   have hcl:(ss.take n).length=m:=by rw [List.length_take];omega
   obtain ⟨b,off,rfl,hb,hc⟩:=hsees.at_ (k:=0) hpos
   rcases hown.2 with ⟨h',_⟩ | ⟨g',cap',cur,h',hbg,hg,hnc,hcm,hcs,htake⟩
   · simp at h'
   · simp only [Value.slice.injEq, Option.some.injEq, Addr.mk.injEq, and_true, true_and] at h'
     obtain ⟨rfl,rfl⟩:=h'
     have hcs':cur.toList.length=cap:=by rw [Array.length_toList,hcs,Nat.mul_one]
     have hx:xs=cur.toList.take n:=by rw [←htake,Nat.mul_one]
     refine wpList_copy_own hgd d s dT sT ho elem hu hsz g 0 n cap ⟨b,off,none⟩ ss.length sCap hd hs cur elem hg (ss.take n) (by rw [hcl];exact hm.symm) ?_ (by rw [hcl,hcs];omega) (fun v hv=>h1 v (List.mem_of_mem_take hv)) ?_
     · intro j v hj
       rw [List.getElem?_take] at hj
       split at hj
       · have hjl : j < ss.length := (List.getElem?_eq_some_iff.1 hj).1
         have hadd:(⟨b,off,none⟩ : Addr).add j=⟨b,off+j,none⟩:=by unfold Addr.add;split <;> simp_all
         rw [hadd,hc j hjl,hj]
       · cases hj
     · rw [hcl]
       rw [hm] at hK
       refine hK _ ?_ ⟨rfl,rfl,rfl,by simp [World.setRow],fun k _ hk=>setRow_other w g k _ (fun e=>hk (by simp [e]))⟩
       have hlen : (ss.take n ++ xs.drop ss.length).length = n := by
        rw [List.length_append,hcl,List.length_drop,hxl];omega
       refine ⟨by simpa using hlen,.inr ⟨g,cap,_,rfl,hbg,setRow_heap w g cur _ elem _ hg,hnc,hcm,?_,?_⟩⟩
       · simp only [List.take_zero, List.nil_append, List.size_toArray, List.length_append, List.length_drop, hcl, Nat.zero_add, Nat.mul_one]
         omega
       · simp only [List.take_zero, List.nil_append, Nat.mul_one, Nat.zero_add]
         rw [hx]
         rcases hm3 with e | e
         · rw [List.take_append_of_le_length (by omega), List.take_of_length_le (by omega)]
           have:(cur.toList.take n).drop ss.length=[]:=List.drop_eq_nil_of_le (by rw [List.length_take];omega)
           rw [this,List.append_nil]
         · have e2 : ss.take n = ss := List.take_of_length_le (by omega)
           rw [e2,e,List.take_append,List.take_of_length_le (by omega),List.drop_take]
end Go.Proofs.Ytkdlfbggddllhaa
