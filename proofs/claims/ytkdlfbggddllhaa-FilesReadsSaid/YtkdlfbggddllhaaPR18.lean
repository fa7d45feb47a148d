/-
  What is proved here: the program's reading of a list of templates: words, and the region that takes the first object and the rest.
-/
import Derived.Test.YtkdlfbggddllhaaPR17
import Derived.Test.YtkdlfbggddllhaaPR15
import Derived.Test.YtkdlfbggddllhaaPR16
set_option linter.unusedVariables false
set_option linter.unusedSimpArgs false
namespace Go.Proofs.Ytkdlfbggddllhaa
open Go.RowKit
def OlW (w1:World) (n1:List Value) (b:Nat) (S:Nat→Bool) (c:World):Prop:=Below w1.heap.size w1 c∧(S 11=true→w1.heap.size≤b∧RowV c b (if S 12=true then n1 else zerN))
theorem OlW.keep {w1 c : World} {n1 : List Value} {b i : Nat} {S : Nat → Bool} (h : OlW w1 n1 b S c) (h1 : 11 ≠ i) (h2 : 12 ≠ i) : OlW w1 n1 b (fun j => S j || j == i) c := by
 obtain ⟨g1,g2⟩:=h
 refine ⟨g1,fun hS=>?_⟩
 have e1:(S 11 || 11==i)=S 11:=by simp [h1]
 have e2:(S 12 || 12==i)=S 12:=by simp [h2]
 show _∧RowV c b (if (S 12 || 12==i)=true then n1 else zerN)
 rw [e2]
 exact g2 (by rw [←e1];exact hS)
def RowT (w c:World) (gT m:Nat) (vs:List Value) (L:List Tm):Prop:=RowV c gT vs∧vs.length=m*7∧w.heap.size≤gT∧∀k x,L[k]? = some x→TmIn c (fun b=>newB w c b∧b≠gT) vs k x
theorem RowT.on {w c c' : World} {gT m : Nat} {vs : List Value} {L : List Tm} (h : RowT w c gT m vs L) (hb : Below c.heap.size c c') : RowT w c' gT m vs L :=
 ⟨h.1.on hb,h.2.1,h.2.2.1,fun k x hx=>((h.2.2.2 k x hx).keep fun q hq=>hb.cell hq.1.2).imp fun b hq=>⟨⟨hq.1.1,Nat.lt_of_lt_of_le hq.1.2 hb.size⟩,hq.2⟩⟩
def spl (vs:List Value) (o:Nat) (us:List Value):List Value:=vs.take o++us++vs.drop (o+us.length)
theorem spl_len {vs us : List Value} {o : Nat} (h : o + us.length ≤ vs.length) : (spl vs o us).length = vs.length := by
 simp [spl];omega
theorem RowT.put {w c c' : World} {gT m j : Nat} {vs : List Value} {L : List Tm} {x : Tm} {A : Option Addr} {cd : Nat} (h : RowT w c gT m vs L) (hL : L.length = j) (hj : j < m) (hw : Wr c c' gT) (hr : RowV c' gT (spl vs (j * 7) (x.cs A cd)))
 (h0:(A=none→cd=0)∧x.d.length≤cd) (hd:SeesP c (fun b=>newB w c b∧b≠gT) A (Us x.d)):RowT w c' gT m (spl vs (j*7) (x.cs A cd)) (L++[x]):=by
 obtain ⟨h1,h2,h3,h4⟩:=h
 have hlen:j*7+(x.cs A cd).length≤vs.length:=by rw [h2];simp [Tm.cs];omega
 have kp:∀q:Addr,(newB w c q.block∧q.block≠gT)→c'.cell? q=c.cell? q:=fun q hq=>World.cell?_of_block (hw.2.2.2.2 _ hq.2)
 have ip:∀b,(newB w c b∧b≠gT)→newB w c' b∧b≠gT:=fun b hb=>⟨⟨hb.1.1,by rw [hw.2.2.2.1];exact hb.1.2⟩,hb.2⟩
 have el:(x.cs A cd).length=7:=rfl
 refine ⟨hr,by rw [spl_len hlen,h2],h3,fun k y hy=>?_⟩
 rw [List.getElem?_append] at hy
 split at hy
 · rename_i hk
   obtain ⟨A',c1,g0,g1,g2⟩:=h4 k y hy
   refine ⟨A',c1,g0,(g1.keep kp).imp ip,fun i hi=>?_⟩
   rw [←g2 i hi]
   unfold spl
   rw [List.append_assoc,List.getElem?_append,if_pos (by rw [List.length_take];omega),List.getElem?_take,if_pos (by omega)]
 · rename_i hk
   have hk0 : k - L.length = 0 := by
    have:=(List.getElem?_eq_some_iff.1 hy).1
    simpa using this
   rw [hk0] at hy
   injection hy with hy
   subst hy
   refine ⟨A,cd,h0,(hd.keep kp).imp ip,fun i hi=>?_⟩
   have ek:k=j:=by omega
   subst ek
   unfold spl
   rw [List.append_assoc,List.getElem?_append,if_neg (by rw [List.length_take];omega),List.getElem?_append,if_pos (by rw [List.length_take,el];omega)]
   congr 1
   rw [List.length_take];omega
theorem RowT.sees {w c : World} {gT m : Nat} {vs : List Value} {L : List Tm} (h : RowT w c gT m vs L) (hL : L.length = m) : SeesT c (newB w c) (some ⟨gT, 0, none⟩) L := by
 obtain ⟨h1,h2,h3,h4⟩:=h
 exact ⟨vs,.inr ⟨gT,0,rfl,⟨h3,h1.lt⟩,fun j hj=>by rw [Nat.zero_add,h1.cell]⟩,by rw [h2,hL];omega,fun k x hx=>(h4 k x hx).imp fun b hb=>hb.1⟩
end Go.Proofs.Ytkdlfbggddllhaa
namespace Go.Proofs.Ytkdlfbggddllhaa
open Go.RowKit
structure VarSp where
 al:Nat
 st:Nat
 z:List Value
 u:List Value
def VarW (w1 : World) (Sp : List VarSp) (b : Nat → Nat) (S : Nat → Bool) (c : World) : Prop :=
 Below w1.heap.size w1 c∧(∀s∈Sp,S s.al=true→w1.heap.size≤b s.al∧RowV c (b s.al) (if S s.st=true then s.u else s.z))∧(∀s∈Sp,∀s'∈Sp,s.al≠s'.al→S s.al=true→S s'.al=true→b s.al≠b s'.al)
def VarOk (Sp:List VarSp):Bool:=Sp.all fun s=>s.al != s.st && Sp.all fun s'=>s.al != s'.st && s.st != s'.al && (s.al==s'.al)==(s.st==s'.st)
section
variable {w1 c c':World} {Sp:List VarSp} {b:Nat→Nat} {S:Nat→Bool} {i:Nat}
theorem VarW.start (w1:World) (Sp:List VarSp) (b:Nat→Nat):VarW w1 Sp b (fun _=>false) w1:=⟨Below.refl _ _,fun s _ h=>(by cases h),fun s _ s' _ _ h=>(by cases h)⟩
theorem VarW.on (h : VarW w1 Sp b S c) (hb : Below c.heap.size c c') : VarW w1 Sp b S c' :=
 ⟨zac h.1 hb,fun s hs hS=>⟨(h.2.1 s hs hS).1,(h.2.1 s hs hS).2.on hb⟩,h.2.2⟩
theorem VarW.keep (h : VarW w1 Sp b S c) (hi : (Sp.all fun s => s.al != i && s.st != i) = true) : VarW w1 Sp b (fun j => S j || j == i) c := by
 rw [List.all_eq_true] at hi
 have ea : ∀ s ∈ Sp, (S s.al || s.al == i) = S s.al ∧ (S s.st || s.st == i) = S s.st := fun s hs => by
  have:=hi s hs
  simp at this
  simp [this.1,this.2]
 refine ⟨h.1,fun s hs hS=>?_,fun s hs s' hs' hne h1 h2=>h.2.2 s hs s' hs' hne (by rw [←(ea s hs).1];exact h1) (by rw [←(ea s' hs').1];exact h2)⟩
 show _∧RowV c (b s.al) (if (S s.st || s.st==i)=true then s.u else s.z)
 rw [(ea s hs).2]
 exact h.2.1 s hs (by rw [←(ea s hs).1];exact hS)
theorem VarW.new {s0 : VarSp} {g : Nat} (hok : VarOk Sp = true) (h : VarW w1 Sp b S c) (h0 : s0 ∈ Sp) (hi : s0.al = i) (hst : S s0.st = false) (hf : Fresh c c' g) (hr : RowV c' g s0.z) (hz : ∀ s ∈ Sp, s.al = s0.al → s.z = s0.z) :
 VarW w1 Sp (fun j=>if j=i then g else b j) (fun j=>S j || j==i) c':=by
 subst hi
 unfold VarOk at hok
 rw [List.all_eq_true] at hok
 have key : ∀ s ∈ Sp, (s.st == s0.al) = false ∧ (s.al = s0.al → s.st = s0.st) := fun s hs => by
  have h1:=hok s hs
  simp only [Bool.and_eq_true,List.all_eq_true] at h1
  have h2:=h1.2 s0 h0
  refine ⟨by simpa using h2.1.2,fun e=>?_⟩
  have h3:=h2.2
  simp [e] at h3
  first | exact h3 | exact h3.symm
 refine ⟨zac h.1 hf.bw,fun s hs hS=>?_,fun s hs s' hs' hne h1 h2=>?_⟩
 · show w1.heap.size ≤ (if s.al = s0.al then g else b s.al) ∧ RowV c' (if s.al = s0.al then g else b s.al) (if (S s.st || s.st == s0.al) = true then s.u else s.z)
   rw [(key s hs).1,Bool.or_false]
   by_cases e:s.al=s0.al
   · rw [if_pos e, (key s hs).2 e, hst]
     simp only [Bool.false_eq_true,if_false]
     rw [hz s hs e]
     exact ⟨hf.ge h.1,hr⟩
   · rw [if_neg e]
     have hS':S s.al=true:=by simpa [e] using hS
     exact ⟨(h.2.1 s hs hS').1,(h.2.1 s hs hS').2.on hf.bw⟩
 · show (if s.al = s0.al then g else b s.al) ≠ (if s'.al = s0.al then g else b s'.al)
   by_cases e:s.al=s0.al
   · have e' : s'.al ≠ s0.al := fun h => hne (e.trans h.symm)
     rw [if_pos e,if_neg e']
     have hS':S s'.al=true:=by simpa [e'] using h2
     exact ((h.2.1 s' hs' hS').2.ne hf).symm
   · rw [if_neg e]
     have hS':S s.al=true:=by simpa [e] using h1
     by_cases e':s'.al=s0.al
     · rw [if_pos e']
       exact (h.2.1 s hs hS').2.ne hf
     · rw [if_neg e']
       have hS2:S s'.al=true:=by simpa [e'] using h2
       exact h.2.2 s hs s' hs' hne hS' hS2
theorem VarW.row {s0 : VarSp} (h : VarW w1 Sp b S c) (h0 : s0 ∈ Sp) (ha : S s0.al = true) (hst : S s0.st = false) : RowV c (b s0.al) s0.z := by
 have:=(h.2.1 s0 h0 ha).2
 rw [hst] at this
 simpa using this
end
end Go.Proofs.Ytkdlfbggddllhaa
