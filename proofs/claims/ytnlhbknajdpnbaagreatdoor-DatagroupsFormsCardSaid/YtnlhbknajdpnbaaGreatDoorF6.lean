/-
  What is proved here: plain words for lists of objects in memory whose Values and Kids lie within their capacities, as loops and indexes want them; nothing of the program is used.
-/
import Derived.Test.YtnlhbknajdpnbaaGreatDoorF0
import Derived.Test.YtnlhbknajdpnbaaGreatDoorF5
import Derived.Test.YtnlhbknajdpnbaaGreatDoorF3
import Derived.Test.YtnlhbknajdpnbaaGreatDoorRows
import Derived.BigQuiet
import Derived.Test.YtnlhbknajdpnbaaGreatDoorF4
set_option linter.unusedVariables false
set_option linter.unusedSimpArgs false
namespace Go.Proofs.YtnlhbknajdpnbaaGreatDoor
open Go.RowKit
def HoldsN (w : World) (p : Nat → Prop) : F → List Value → Prop
 | .nil,cs=>cs=[]
 | .cons t v k r,cs=>∃Av cv Ak ck ks cs',cs=.int .i64 t::.slice Av v.length cv::.slice Ak k.len ck::cs'∧((Av=none→cv=0)∧v.length≤cv∧k.len≤ck)∧SeesP w p Av (Us v)∧SeesP w p Ak ks∧HoldsN w p k ks∧HoldsN w p r cs'
def SeesN (w:World) (p:Nat→Prop) (A:Option Addr) (f:F):Prop:=∃cs,SeesP w p A cs∧HoldsN w p f cs
def F.drop : F → Nat → F
 | f,0=>f
 | .nil,_+1=>.nil
 | .cons _ _ _ r,j+1=>r.drop j
section
variable {w w':World} {p p':Nat→Prop} {A:Option Addr} {cs:List Value}
theorem HoldsN.holds : ∀ {f : F} {cs : List Value}, HoldsN w p f cs → HoldsP w p f cs
 | .nil,_,h=>h
 | .cons _ _ _ _,_,⟨Av,cv,Ak,ck,ks,cs',e,h0,h1,h2,h3,h4⟩=>⟨Av,cv,Ak,ck,ks,cs',e,h0.1,h1,h2,HoldsN.holds h3,HoldsN.holds h4⟩
theorem HoldsN.keep (hk : ∀ q : Addr, p q.block → w'.cell? q = w.cell? q) : ∀ {f : F} {cs : List Value}, HoldsN w p f cs → HoldsN w' p f cs
 | .nil,_,h=>h
 | .cons _ _ _ _,_,⟨Av,cv,Ak,ck,ks,cs',e,h0,h1,h2,h3,h4⟩=>⟨Av,cv,Ak,ck,ks,cs',e,h0,h1.keep hk,h2.keep hk,HoldsN.keep hk h3,HoldsN.keep hk h4⟩
theorem HoldsN.imp (hp : ∀ b, p b → p' b) : ∀ {f : F} {cs : List Value}, HoldsN w p f cs → HoldsN w p' f cs
 | .nil,_,h=>h
 | .cons _ _ _ _,_,⟨Av,cv,Ak,ck,ks,cs',e,h0,h1,h2,h3,h4⟩=>⟨Av,cv,Ak,ck,ks,cs',e,h0,h1.imp hp,h2.imp hp,HoldsN.imp hp h3,HoldsN.imp hp h4⟩
theorem HoldsN.length {f:F} {cs:List Value} (h:HoldsN w p f cs):cs.length=3*f.len:=h.holds.length
theorem HoldsN.app : ∀ {f g : F} {cs ds : List Value}, HoldsN w p f cs → HoldsN w p g ds → HoldsN w p (f.app g) (cs ++ ds)
 | .nil,_,_,_,h,h'=>by cases h;exact h'
 | .cons _ _ _ _,_,_,_,⟨Av,cv,Ak,ck,ks,cs',e,h0,h1,h2,h3,h4⟩,h'=>⟨Av,cv,Ak,ck,ks,cs'++_,by rw [e];rfl,h0,h1,h2,h3,HoldsN.app h4 h'⟩
theorem SeesN.sees {f : F} (h : SeesN w p A f) : SeesF w p A f := by
 obtain ⟨cs,h1,h2⟩:=h
 exact ⟨cs,h1,h2.holds⟩
theorem SeesN.keep {f : F} (h : SeesN w p A f) (hk : ∀ q : Addr, p q.block → w'.cell? q = w.cell? q) : SeesN w' p A f := by
 obtain ⟨cs,h1,h2⟩:=h
 exact ⟨cs,h1.keep hk,HoldsN.keep hk h2⟩
theorem SeesN.imp {f : F} (h : SeesN w p A f) (hp : ∀ b, p b → p' b) : SeesN w p' A f := by
 obtain ⟨cs,h1,h2⟩:=h
 exact ⟨cs,h1.imp hp,HoldsN.imp hp h2⟩
theorem SeesN.on {f : F} (h : SeesN w (· < w.heap.size) A f) (hb : Below w.heap.size w w') : SeesN w' (· < w'.heap.size) A f :=
 (h.keep fun _ hq=>hb.cell hq).imp fun _ hb2=>Nat.lt_of_lt_of_le hb2 hb.size
theorem SeesN.nil_:SeesN w p A .nil:=⟨[],.inl rfl,rfl⟩
theorem SeesP.on2 (h : SeesP w (· < w.heap.size) A cs) (hb : Below w.heap.size w w') : SeesP w' (· < w'.heap.size) A cs :=
 (h.keep fun _ hq=>hb.cell hq).imp fun _ hb2=>Nat.lt_of_lt_of_le hb2 hb.size
theorem HoldsN.tail {t : Int} {v : List UInt8} {k r : F} (h : HoldsN w p (.cons t v k r) cs) : HoldsN w p r (cs.drop 3) := by
 obtain ⟨Av,cv,Ak,ck,ks,cs',e,_,_,_,_,h4⟩:=h
 rw [e];exact h4
theorem HoldsN.drop : ∀ {f : F} {cs : List Value} (j : Nat), HoldsN w p f cs → HoldsN w p (f.drop j) (cs.drop (3 * j))
 | f,cs,0,h=>by cases f <;> simpa [F.drop] using h
 | .nil, cs, j + 1, h => by
   have h:cs=[]:=h
   subst h
   simp [F.drop,HoldsN]
 | .cons _ _ _ r, cs, j + 1, h => by
   have h2:=HoldsN.drop j h.tail
   rw [List.drop_drop,show 3+3*j=3*(j+1) by omega] at h2
   exact h2
def nodV (t:Int) (Av:Option Addr) (lv cv:Nat) (Ak:Option Addr) (lk ck:Nat):List Value:=[.int .i64 t,.slice Av lv cv,.slice Ak lk ck]
theorem node_atN {f : F} {j : Nat} {t : Int} {v : List UInt8} {k r : F} (h : SeesN w p A f) (hg : f.drop j = .cons t v k r) :
 ∃b off Av cv Ak ck,A=some ⟨b,off,none⟩∧p b∧w.rangeAt b (off+j*3) (nodV t Av v.length cv Ak k.len ck)∧(Av=none→cv=0)∧v.length≤cv∧k.len≤ck∧SeesP w p Av (Us v)∧SeesN w p Ak k:=by
 obtain ⟨cs,h1,h2⟩:=h
 have h3:=h2.drop j
 rw [hg] at h3
 obtain ⟨Av,cv,Ak,ck,ks,cs',e,h0,g1,g2,g3,g4⟩:=h3
 have hl : 3 * j + 2 < cs.length := by
  have:=congrArg List.length e
  simp only [List.length_drop,List.length_cons] at this
  omega
 rcases h1 with h1 | ⟨b,off,rfl,hb,hc⟩
 · subst h1;simp at hl
 · refine ⟨b, off, Av, cv, Ak, ck, rfl, hb, fun i u hu => ?_, h0.1, h0.2.1, h0.2.2, g1, ks, g2, g3⟩
   have hi : i < 3 := by
    have:=(List.getElem?_eq_some_iff.1 hu).1
    simpa [nodV] using this
   rw [show off+j*3+i=off+(3*j+i) by omega,hc _ (by omega),←List.getElem?_drop,e,←hu]
   obtain rfl | rfl | rfl:i=0∨i=1∨i=2:=by omega
   all_goals rfl
theorem SeesN.tail {t : Int} {v : List UInt8} {k r : F} {b o : Nat} (h : SeesN w p (some ⟨b, o, none⟩) (.cons t v k r)) : SeesN w p (some ⟨b, o + 3, none⟩) r := by
 obtain ⟨cs,h1,h2⟩:=h
 have hl:=h2.length
 simp only [F.len] at hl
 refine ⟨cs.drop 3,?_,h2.tail⟩
 rcases h1 with h1 | ⟨b',off,e,hb,hc⟩
 · subst h1;simp at hl
 · injection e with e
   injection e with e1 e2 _
   subst e1;subst e2
   refine .inr ⟨_,_,rfl,hb,fun j hj=>?_⟩
   rw [List.length_drop] at hj
   rw [Nat.add_assoc,hc _ (by omega),List.getElem?_drop]
theorem SeesN.none_nil {f : F} (h : SeesN w p none f) : f = .nil := by
 obtain ⟨cs,h1,h2⟩:=h
 have:=h1.none_nil
 subst this
 have:=h2.length
 exact F.len_zero (by simp at this;omega)
end
theorem rangeAt_bl {w w':World} {B g o:Nat} {vs:List Value} (h:w.rangeAt g o vs) (hb:Below B w w') (hg:g < B):w'.rangeAt g o vs:=fun j v hv=>(hb.cell (p:=⟨g,o+j,none⟩) hg).trans (h j v hv)
theorem zbY {w w':World} {g o:Nat} {vs:List Value} (h:w.rangeAt g o vs) (hg:g < w.heap.size) (hb:Below w.heap.size w w'):w'.rangeAt g o vs:=rangeAt_bl h hb hg
theorem zaH {w w1 w2 w3:World} {b:Nat} (h:newB w1 w2 b) (h1:w.heap.size≤w1.heap.size) (h2:w2.heap.size≤w3.heap.size):newB w w3 b:=⟨Nat.le_trans h1 h.1,Nat.lt_of_lt_of_le h.2 h2⟩
theorem newB_lt {w w':World} {b:Nat} (h:newB w w' b):b < w'.heap.size:=h.2
theorem SeesN.newOn {w w1 w2 : World} {A : Option Addr} {f : F} (h : SeesN w1 (newB w w1) A f) (hb : Below w1.heap.size w1 w2) : SeesN w2 (newB w w2) A f :=
 (h.keep fun q hq=>hb.cell hq.2).imp fun b h=>⟨h.1,Nat.lt_of_lt_of_le h.2 hb.size⟩
theorem SeesP.newOn {w w1 w2 : World} {A : Option Addr} {cs : List Value} (h : SeesP w1 (newB w w1) A cs) (hb : Below w1.heap.size w1 w2) : SeesP w2 (newB w w2) A cs :=
 (h.keep fun q hq=>hb.cell hq.2).imp fun b h=>⟨h.1,Nat.lt_of_lt_of_le h.2 hb.size⟩
theorem SeesN.block {w w1 : World} {g : Nat} {f : F} {cs : List Value} (h : RowV w1 g cs) (hg : w.heap.size ≤ g) (hf : HoldsN w1 (newB w w1) f cs) : SeesN w1 (newB w w1) (some ⟨g, 0, none⟩) f :=
 ⟨cs,.inr ⟨g,0,rfl,⟨hg,h.lt⟩,fun j hj=>by rw [Nat.zero_add,h.cell]⟩,hf⟩
def HeldN (w wr:World) (v:Value) (f:F):Prop:=∃cs,wr.ownsRow w.heap.size 64 3 v f.len cs∧HoldsN wr (fun b=>newB w wr b∧v.ownBlock≠some b) f cs
theorem HeldN.start (w wr:World):HeldN w wr (.slice none 0 0) .nil:=⟨[],⟨rfl,.inl ⟨rfl,rfl⟩⟩,rfl⟩
theorem zaI {a b : World} {base n s : Nat} {e : TypeId} {v : Value} {xs : List Value} (h : a.ownsRow base e s v n xs) (hb : Below a.heap.size a b) : b.ownsRow base e s v n xs := by
 rcases h with ⟨h1,h2⟩
 rcases h2 with ⟨rfl,rfl⟩ | ⟨g,cap,cur,rfl,hg,hh,h4,h5,h6,h7⟩
 · exact ⟨h1,.inl ⟨rfl,rfl⟩⟩
 · exact ⟨h1,.inr ⟨g,cap,cur,rfl,hg,(hb.block g (lt_of_block hh)).trans hh,h4,h5,h6,h7⟩⟩
theorem zas {w : World} {base : Nat} {e : TypeId} {s : Nat} {v : Value} {n : Nat} {xs : List Value} (h : w.ownsRow base e s v n xs) : ∀ g, v.ownBlock = some g → base ≤ g ∧ g < w.heap.size := by
 intro g e
 rcases h.2 with ⟨rfl,rfl⟩ | ⟨g',cap,cur,rfl,hb,hh,_⟩
 · cases e
 · have : g' = g := by simpa [Value.ownBlock] using e
   subst this
   exact ⟨hb,lt_of_block hh⟩
theorem HeldN.on {w wr w' : World} {v : Value} {f : F} (h : HeldN w wr v f) (hb : Below wr.heap.size wr w') : HeldN w w' v f := by
 obtain ⟨cs,h1,h2⟩:=h
 exact ⟨cs,zaI h1 hb,HoldsN.imp (fun b h=>⟨⟨h.1.1,Nat.lt_of_lt_of_le h.1.2 hb.size⟩,h.2⟩) (HoldsN.keep (fun q hq=>hb.cell hq.1.2) h2)⟩
theorem HeldN.slice {w wr : World} {v : Value} {f : F} (h : HeldN w wr v f) : ∃ A c, v = .slice A f.len c ∧ f.len ≤ c ∧ SeesN wr (newB w wr) A f := by
 obtain ⟨cs,h1,h2⟩:=h
 rcases h1.2 with ⟨rfl,h0⟩ | ⟨g,cap,cur,rfl,hb,hh,hn,hm,hs,ht⟩
 · have : f = .nil := F.len_zero h0
   subst this
   exact ⟨none,0,rfl,Nat.le_refl _,SeesN.nil_⟩
 · refine ⟨_, cap, rfl, hn, cs, .inr ⟨g, 0, rfl, ⟨hb, lt_of_block hh⟩, fun j hj => ?_⟩, HoldsN.imp (fun _ hb => hb.1) h2⟩
   have hl:=h1.1
   rw [Nat.zero_add,cell_of_row wr g j cur _ (0,0) hh,←ht,List.getElem?_take,if_pos (by omega),Array.getElem?_toList]
theorem HeldN.snoc {w wr w1 wa w2 : World} {v : Value} {f : F} {t : Int} {x : List UInt8} {k : F} {Av Ak : Option Addr} {cv ck g cap n : Nat} (h01 : Below wr.heap.size wr w1) (ha : Below w1.heap.size w1 wa)
 (hn0:(Av=none→cv=0)∧x.length≤cv∧k.len≤ck) (hv:SeesP w1 (newB wr w1) Av (Us x)) (hk:SeesN w1 (newB wr w1) Ak k) (hww:w.heap.size≤wr.heap.size)
 (cs:List Value) (hc1:wr.ownsRow w.heap.size 64 3 v f.len cs) (hc2:HoldsN wr (fun b=>newB w wr b∧v.ownBlock≠some b) f cs) (hn:n=f.len+1)
 (ho:w2.ownsRow w.heap.size 64 3 (.slice (some ⟨g,0,none⟩) n cap) n (cs++[.int .i64 t,.slice Av x.length cv,.slice Ak k.len ck])) (hg:wa.grownBy w2 v.ownBlock)
 (hl:v.ownBlock=some g∨g=wa.heap.size):HeldN w w2 (.slice (some ⟨g,0,none⟩) n cap) (f.app (.cons t x k .nil)):=by
 subst hn
 have hold:=zas hc1
 have keep : ∀ q : Addr, q.block < w1.heap.size → v.ownBlock ≠ some q.block → w2.cell? q = w1.cell? q := fun q h1 h2 =>
  (World.cell?_of_block (w:=wa) (hg.block q.block (Nat.lt_of_lt_of_le h1 ha.size) (fun e=>h2 e.symm))).trans (ha.cell h1)
 have hsz:w1.heap.size≤w2.heap.size:=Nat.le_trans ha.size hg.size
 have hwa:=ha.size
 have h01s:=h01.size
 refine ⟨_,by rw [F.len_app];exact ho,HoldsN.app ?_ ?_⟩
 · refine HoldsN.imp ?_ (HoldsN.keep (w' := w2) (fun q hq => (keep q (Nat.lt_of_lt_of_le hq.1.2 h01s) hq.2).trans (h01.cell hq.1.2)) hc2)
   intro b hb
   have h4:=hb.1.2
   refine ⟨⟨hb.1.1,by omega⟩,?_⟩
   intro e
   injection e with e
   simp only at e
   rcases hl with h3 | h3
   · exact hb.2 (h3.trans (by rw [e]))
   · omega
 · have hp : ∀ b, newB wr w1 b → newB w w2 b ∧ (Value.slice (some ⟨g, 0, none⟩) (f.len + 1) cap).ownBlock ≠ some b := by
    intro b hb
    have h5:=hb.1
    have h6:=hb.2
    refine ⟨⟨by omega,by omega⟩,?_⟩
    intro e
    injection e with e
    simp only at e
    rcases hl with h3 | h3
    · have:=(hold g h3).2;omega
    · omega
   have kp : ∀ q : Addr, newB wr w1 q.block → w2.cell? q = w1.cell? q := by
    intro q hq
    refine keep q hq.2 ?_
    have h5:=hq.1
    intro e
    have:=(hold _ e).2
    omega
   obtain ⟨ks,hk1,hk2⟩:=hk
   exact ⟨Av,cv,Ak,ck,ks,[],rfl,hn0,(hv.keep kp).imp hp,(hk1.keep kp).imp hp,HoldsN.imp hp (HoldsN.keep kp hk2),rfl⟩
end Go.Proofs.YtnlhbknajdpnbaaGreatDoor
namespace Go.Proofs.YtnlhbknajdpnbaaGreatDoor
open Go.RowKit
def S (x:List UInt8):ByteArray:=⟨x.toArray⟩
theorem zao (x:List UInt8):(S x).size=x.length:=by simp [S,ByteArray.size]
theorem S_data (x:List UInt8):(S x).data.toList=x:=by simp [S]
theorem zcD (w : World) (B : Nat) (A : Option Addr) (x : List UInt8) (h : Sees w B A (Us x)) (n c : Nat) (hn : n = x.length) :
 (convert 27 9 (.slice A n c)).run Tryz.prog w=.ok (.string (S x)) w:=by
 subst hn
 have hx : strOfNums (x.map fun u => (u.toNat : Int)) = S x := by
  simp [strOfNums,S,Function.comp_def]
 rcases h with h | ⟨b,off,rfl,hb,hc⟩
 · have : x = [] := by simpa [Us] using h
   subst this
   rcases A with _ | a
   · exact run_convert_bytes_nil w _ _ Tryz.underlying27 Tryz.underlying5 _ _ _ Tryz.underlying9
   · rw [run_convert_bytes_string w _ _ _ _ _ _ Tryz.underlying27 Tryz.underlying5 Tryz.underlying9]
     exact run_bytesToString w a 0 c [] (by simpa using run_loadCells_list (P:=Tryz.prog) w a [] (fun j v hj=>by simp at hj))
 · have := run_convert_bytes_arg (P := Tryz.prog) w 27 5 Tryz.underlying27 Tryz.underlying5 b off x.length c (x.map fun u => (u.toNat : Int)) (by simp)
    (fun i hi=>by rw [hc i (by rw [zat];exact hi),zeT hi];simp [hi]) 9 Tryz.underlying9
   rw [hx] at this
   exact this
theorem zcB (x:List UInt8):(S x).toList=x:=ByteArray.toList_mk x
end Go.Proofs.YtnlhbknajdpnbaaGreatDoor
namespace Go.Proofs.YtnlhbknajdpnbaaGreatDoor
open Go.RowKit
theorem conv_drew {w : World} {p : Nat → Prop} {A : Option Addr} {x : List UInt8} (h : SeesP w p A (Us x)) (c : Nat) (q : Nat) : (convert 27 9 (.slice A x.length c)).run Tryz.prog (w.drewN q) = .ok (.string (S x)) (w.drewN q) := by
 rcases h with h | ⟨b,off,e,hp,hc⟩
 · exact zcD (w.drewN q) 0 A x (.inl h) x.length c rfl
 · exact zcD (w.drewN q) (b+1) A x (.inr ⟨b,off,e,by omega,hc⟩) x.length c rfl
set_option maxHeartbeats 2000000 in
theorem same_yes (n : Nat) (hn : n ≤ 1125899906842624) : ∀ (f : F) (A1 A2 : Option Addr) (c1 c2 : Nat) (w : World) (p1 p2 : Nat → Prop), f.size < n → f.ok → SeesF w p1 A1 f → SeesF w p2 A2 f →
 Calls Tryz.prog 12 #[.slice A1 f.len c1,.slice A2 f.len c2] w fun e w'=>e=.returned (.bool true)∧∃q,w'=w.drewN q:=by
 induction n with
 | zero=>intro f A1 A2 c1 c2 w p1 p2 h;omega
 | succ n ih =>
   intro f A1 A2 c1 c2 w p1 p2 hsz hok hs1 hs2
   obtain ⟨cs1,s1,k1⟩:=hs1
   obtain ⟨cs2,s2,k2⟩:=hs2
   have hlen:=f.len_le_size
   have IH:=Lib.hid (ih (by omega))
   have H0:=Lib.hid (show f.ok∧HoldsP w p1 f cs1∧HoldsP w p2 f cs2 from ⟨hok,k1,k2⟩)
   have HS:=Lib.hid (show SeesP w p1 A1 cs1∧SeesP w p2 A2 cs2 from ⟨s1,s2⟩)
   have hne:((f.len:Int) != (f.len:Int))=false:=by simp
   clear hok k1 k2 s1 s2 ih
   go_enter Tryz.func12,Tryz.ntmps12
   go_wp2_with fail
   go_loopw [5] (fun i wr=>∃(j d:Nat) (g:F),j+g.len=f.len∧i=.int .i64 j∧wr=w.drewN d∧Hid (g.ok∧g.size≤f.size∧HoldsP w p1 g (cs1.drop (3*j))∧HoldsP w p2 g (cs2.drop (3*j)))) (fun i _=>f.len - (intOf i).toNat)
   case atStart=>exact ⟨0,0,f,by omega,rfl,rfl,Lib.hid ⟨H0.out.1,Nat.le_refl _,H0.out.2.1,H0.out.2.2⟩⟩
   case round =>
    clear H0
    obtain ⟨j,d,g,hj,rfl,hw,HG⟩:=hrel
    have HW:=Lib.hid hw
    cases g with
    | nil =>
      have hj2:j=f.len:=hj
      clear hj HG hw
      go_wp2_with fail
      go_ret
      exact ⟨rfl,d,HW.out⟩
    | cons t v kk r =>
      have hj1:j+r.len+1=f.len:=hj
      have hgs:kk.size+r.size+1≤f.size:=HG.out.2.1
      obtain ⟨b1,o1,Av1,cv1,Ak1,ck1,rfl,hp1,x0,x1,x2,sv1,sk1,r1,_⟩:=zdt HS.out.1 HG.out.2.2.1
      obtain ⟨b2,o2,Av2,cv2,Ak2,ck2,rfl,hp2,y0,y1,y2,sv2,sk2,r2,_⟩:=zdt HS.out.2 HG.out.2.2.2
      have HR:=Lib.hid (show r.ok∧HoldsP w p1 r (cs1.drop (3*(j+1)))∧HoldsP w p2 r (cs2.drop (3*(j+1))) from ⟨HG.out.1.2.2.2,r1,r2⟩)
      have HSv:=Lib.hid (show SeesP w p1 Av1 (Us v)∧SeesP w p2 Av2 (Us v) from ⟨sv1,sv2⟩)
      have HI:=Lib.hid (fun q=>IH.out kk Ak1 Ak2 ck1 ck2 (w.drewN q) p1 p2 (by omega) HG.out.1.2.2.1 (sk1.keep fun _ _=>rfl) (sk2.keep fun _ _=>rfl))
      have hlt:j < f.len:=by omega
      have q0:wr.cell? ⟨b1,o1+j*3,none⟩=some (.int .i64 t):=by rw [hw];exact x0
      have q1:wr.cell? ⟨b1,o1+j*3+1,none⟩=some (.slice Av1 v.length cv1):=by rw [hw];exact x1
      have q2:wr.cell? ⟨b1,o1+j*3+2,none⟩=some (.slice Ak1 kk.len ck1):=by rw [hw];exact x2
      have z0:wr.cell? ⟨b2,o2+j*3,none⟩=some (.int .i64 t):=by rw [hw];exact y0
      have z1:wr.cell? ⟨b2,o2+j*3+1,none⟩=some (.slice Av2 v.length cv2):=by rw [hw];exact y1
      have z2:wr.cell? ⟨b2,o2+j*3+2,none⟩=some (.slice Ak2 kk.len ck2):=by rw [hw];exact y2
      obtain ⟨sx,hsx⟩ : ∃sx,sx=S v:=⟨_,rfl⟩
      have v1:∀q,(convert 27 9 (.slice Av1 v.length cv1)).run Tryz.prog (wr.drewN q)=.ok (.string sx) (wr.drewN q):=fun q=>by rw [hw,hsx,World.drewN_drewN];exact conv_drew HSv.out.1 cv1 _
      have v2:∀q,(convert 27 9 (.slice Av2 v.length cv2)).run Tryz.prog (wr.drewN q)=.ok (.string sx) (wr.drewN q):=fun q=>by rw [hw,hsx,World.drewN_drewN];exact conv_drew HSv.out.2 cv2 _
      have HC:=Lib.hid (show ∀q,Calls Tryz.prog 12 #[.slice Ak1 kk.len ck1,.slice Ak2 kk.len ck2] (wr.drewN q) fun e w'=>e=.returned (.bool true)∧∃q2,w'=(wr.drewN q).drewN q2 from fun q=>by rw [hw,World.drewN_drewN];exact HI.out _)
      have e1:(t != t)=false:=by simp
      have e2:(sx.toList != sx.toList)=false:=by simp
      clear hj HG x0 x1 x2 y0 y1 y2 sv1 sv2 sk1 sk2 r1 r2 hw hsx HI
      go_wp2_with fail
      go_quiet ((go_at_call 12;exact Calls.quiet_of (HC.out _)))
      go_wp2_with fail
      go_roundw
      case rel=>exact ⟨j+1,d+nq,r,by omega,by go_num,by rw [HW.out,World.drewN_drewN],Lib.hid ⟨HR.out.1,by omega,HR.out.2.1,HR.out.2.2⟩⟩
      case measure=>simp [intOf];omega
end Go.Proofs.YtnlhbknajdpnbaaGreatDoor
namespace Go.Proofs.YtnlhbknajdpnbaaGreatDoor.Cal
def lp (y:Int):Int:=if y % 4=0∧y≠1900 then 1 else 0
def dim (y m:Int):Int:=if m=2 then 28+lp y else if m=4∨m=6∨m=9∨m=11 then 30 else 31
def ys (y:Int):Int:=(y - 1900)*365+(if y≤1900 then 0 else (y - 1901) / 4)
def cm (l m : Int) : Int := if m ≤ 1 then 0 else if m = 2 then 31 else if m = 3 then 59 + l else if m = 4 then 90 + l else if m = 5 then 120 + l else if m = 6 then 151 + l
 else if m=7 then 181+l else if m=8 then 212+l else if m=9 then 243+l else if m=10 then 273+l else if m=11 then 304+l else if m=12 then 334+l else 365+l
def cum (y m:Int):Int:=cm (lp y) m
def num (y m d:Int):Int:=ys y+cum y m+d - 1
theorem lp_01 (y:Int):0≤lp y∧lp y≤1:=by unfold lp;split <;> omega
theorem dim_bd (y m : Int) : 28 ≤ dim y m ∧ dim y m ≤ 31 := by
 have:=lp_01 y
 unfold dim;split
 · omega
 · split <;> omega
theorem ys_bd (y:Int) (a:1900≤y) (b:y≤2100):0≤ys y∧ys y≤73049:=by unfold ys;split <;> omega
theorem ys_first:ys 1900=0:=by decide
theorem ys_end:ys 2100=73049:=by decide
theorem ys_succ (y : Int) (a : 1900 ≤ y) (b : y ≤ 2099) : ys (y + 1) = ys y + 365 + lp y := by
 unfold ys lp;repeat' split
 all_goals omega
theorem ys_mono (a b : Int) (h0 : 1900 ≤ a) (h : a < b) : ys a + 365 ≤ ys b := by unfold ys; repeat' split
                                                                                  all_goals omega
theorem cum_one (y:Int):cum y 1=0:=by unfold cum cm;simp
theorem cum_end (y:Int):cum y 13=365+lp y:=by unfold cum cm;simp
theorem cum_bd (y m : Int) (a : 1 ≤ m) (b : m ≤ 12) : 0 ≤ cum y m ∧ cum y m ≤ 335 := by
 have:=lp_01 y
 have h:m=1∨m=2∨m=3∨m=4∨m=5∨m=6∨m=7∨m=8∨m=9∨m=10∨m=11∨m=12:=by omega
 unfold cum cm
 rcases h with rfl | rfl | rfl | rfl | rfl | rfl | rfl | rfl | rfl | rfl | rfl | rfl <;> simp <;> omega
theorem cum_succ (y m : Int) (a : 1 ≤ m) (b : m ≤ 12) : cum y (m + 1) = cum y m + dim y m := by
 have h:m=1∨m=2∨m=3∨m=4∨m=5∨m=6∨m=7∨m=8∨m=9∨m=10∨m=11∨m=12:=by omega
 unfold cum cm dim
 rcases h with rfl | rfl | rfl | rfl | rfl | rfl | rfl | rfl | rfl | rfl | rfl | rfl <;> simp <;> omega
theorem cum_lt (y a b : Int) (h0 : 1 ≤ a) (h : a < b) (hb : b ≤ 13) : cum y a + 28 ≤ cum y b := by
 have:=lp_01 y
 unfold cum cm
 repeat' split
 all_goals omega
def yr (n:Int):Int:=if ys (1900+n / 366+1)≤n then 1900+n / 366+1 else 1900+n / 366
def mf (l r : Int) : Int := if r < 31 then 1 else if r < 59 + l then 2 else if r < 90 + l then 3 else if r < 120 + l then 4 else if r < 151 + l then 5 else if r < 181 + l then 6
 else if r < 212+l then 7 else if r < 243+l then 8 else if r < 273+l then 9 else if r < 304+l then 10 else if r < 334+l then 11 else 12
def mo (n:Int):Int:=mf (lp (yr n)) (n - ys (yr n))
def da (n:Int):Int:=n - ys (yr n) - cum (yr n) (mo n)+1
theorem yr_lo (n : Int) (a : 0 ≤ n) (b : n ≤ 73048) : 1900 ≤ yr n ∧ yr n ≤ 2099 ∧ ys (yr n) ≤ n ∧ n < ys (yr n + 1) := by
 unfold yr ys
 repeat' split
 all_goals omega
theorem mf_ok (l r : Int) (_h : 0 ≤ l) (_h1 : l ≤ 1) (a : 0 ≤ r) (b : r < 365 + l) : 1 ≤ mf l r ∧ mf l r ≤ 12 ∧ cm l (mf l r) ≤ r ∧ r < cm l (mf l r + 1) := by
 unfold mf
 repeat' split
 all_goals (simp [cm];omega)
theorem date_ok (n : Int) (a : 0 ≤ n) (b : n ≤ 73048) :
 1900≤yr n∧yr n≤2099∧1≤mo n∧mo n≤12∧1≤da n∧da n≤dim (yr n) (mo n)∧num (yr n) (mo n) (da n)=n:=by
 obtain ⟨y1,y2,y3,y4⟩:=yr_lo n a b
 have hs:=ys_succ (yr n) y1 y2
 have hl:=lp_01 (yr n)
 obtain ⟨m1,m2,m3,m4⟩:=mf_ok (lp (yr n)) (n - ys (yr n)) (by omega) (by omega) (by omega) (by omega)
 have hc:=cum_succ (yr n) (mo n) m1 m2
 have m3':cum (yr n) (mo n)≤n - ys (yr n):=m3
 have m4':n - ys (yr n) < cum (yr n) (mo n+1):=m4
 refine ⟨y1,y2,m1,m2,?_,?_,?_⟩
 · unfold da;omega
 · unfold da;omega
 · unfold num da;omega
theorem date_one {y m d y' m' d' : Int} (a1 : 1900 ≤ y) (a2 : 1 ≤ m) (a3 : m ≤ 12) (a4 : 1 ≤ d) (a5 : d ≤ dim y m) (y2 : y ≤ 2099) (y2' : y' ≤ 2099)
 (b1:1900≤y') (b2:1≤m') (b3:m'≤12) (b4:1≤d') (b5:d'≤dim y' m') (h:num y m d=num y' m' d'):y=y'∧m=m'∧d=d':=by
 unfold num at h
 have c1:=cum_bd y m a2 a3
 have c2:=cum_bd y' m' b2 b3
 have c3:=cum_succ y m a2 a3
 have c4:=cum_succ y' m' b2 b3
 have c5:=cum_end y
 have c6:=cum_end y'
 have top : ∀ z k : Int, 1 ≤ k → k ≤ 12 → cum z (k + 1) ≤ 365 + lp z := by
  intro z k k1 k2
  by_cases e:k=12
  · subst e;rw [show (12:Int)+1=13 from rfl,cum_end];omega
  · have := cum_lt z (k + 1) 13 (by omega) (by omega) (by omega)
    rw [cum_end] at this;omega
 have t1:=top y m a2 a3
 have t2:=top y' m' b2 b3
 have s1:=ys_succ y a1 y2
 have s2:=ys_succ y' b1 y2'
 have hy : y = y' := by
  rcases Int.lt_trichotomy y y' with g | g | g
  · by_cases e : y' = y + 1
    · subst e;omega
    · have:=ys_mono (y+1) y' (by omega) (by omega);omega
  · exact g
  · by_cases e : y = y' + 1
    · subst e;omega
    · have:=ys_mono (y'+1) y (by omega) (by omega);omega
 subst hy
 have hm : m = m' := by
  rcases Int.lt_trichotomy m m' with g | g | g
  · by_cases e : m' = m + 1
    · subst e;omega
    · have:=cum_lt y (m+1) m' (by omega) (by omega) (by omega);omega
  · exact g
  · by_cases e : m = m' + 1
    · subst e;omega
    · have:=cum_lt y (m'+1) m (by omega) (by omega) (by omega);omega
 subst hm
 exact ⟨rfl,rfl,by omega⟩
theorem date_is {n y m d : Int} (a1 : 1900 ≤ y) (y2 : y ≤ 2099) (a2 : 1 ≤ m) (a3 : m ≤ 12) (a4 : 1 ≤ d) (a5 : d ≤ dim y m) (h : num y m d = n) (a : 0 ≤ n) (b : n ≤ 73048) :
 y=yr n∧m=mo n∧d=da n:=by
 obtain ⟨e1,e2,e3,e4,e5,e6,e7⟩:=date_ok n a b
 exact date_one a1 a2 a3 a4 a5 y2 e2 e1 e3 e4 e5 e6 (h.trans e7.symm)
end Go.Proofs.YtnlhbknajdpnbaaGreatDoor.Cal
namespace Go.Proofs.YtnlhbknajdpnbaaGreatDoor
open Go.RowKit
def lpB (y:Int):Bool:=decide (Cal.lp y=1)
end Go.Proofs.YtnlhbknajdpnbaaGreatDoor
namespace Go.Proofs.YtnlhbknajdpnbaaGreatDoor
open Go.RowKit
def dayB (n:Int):Bool:=decide (0≤n) && decide (n≤73048)
theorem dayB_yes {n:Int} (h:dayB n=true):0≤n∧n≤73048:=by simpa [dayB] using h
theorem dayB_mk {n:Int} (a:0≤n) (b:n≤73048):dayB n=true:=by simp [dayB,a,b]
def zfc (y m d:Int):Bool:=decide (1900≤y∧y≤2099∧1≤m∧m≤12∧1≤d∧d≤Cal.dim y m)
theorem dateB_yes {y m d:Int} (h:zfc y m d=true):1900≤y∧y≤2099∧1≤m∧m≤12∧1≤d∧d≤Cal.dim y m:=by simpa [zfc] using h
theorem dateB_mk {y m d:Int} (h:1900≤y∧y≤2099∧1≤m∧m≤12∧1≤d∧d≤Cal.dim y m):zfc y m d=true:=by simpa [zfc] using h
def ofV (y m d:Int):Int:=if zfc y m d=true then Cal.num y m d else 0
def ofE (y m d:Int):Int:=if zfc y m d=true then 0 else 8
theorem of_yes {y m d:Int} (h:zfc y m d=true):ofV y m d=Cal.num y m d∧ofE y m d=0:=by simp [ofV,ofE,h]
theorem of_no {y m d:Int} (h:zfc y m d=false):ofV y m d=0∧ofE y m d=8:=by simp [ofV,ofE,h]
theorem ret2_int {a b c d:Int} (h:a=b) (g:c=d):Ending.returned (.tuple #[.int .i64 a,.int .i64 c])=.returned (.tuple #[.int .i64 b,.int .i64 d]):=by rw [h,g]
end Go.Proofs.YtnlhbknajdpnbaaGreatDoor
namespace Go.Proofs.YtnlhbknajdpnbaaGreatDoor
open Go.RowKit
set_option maxRecDepth 8000
theorem made_mod (n m : Int) (lo : -9223372036854775808 ≤ n) (hi : n ≤ 9223372036854775807) (hm : 0 < m) (hm2 : m ≤ 4611686018427387903) (w : World) :
 Calls Tryz.prog 27 #[.int .i64 n,.int .i64 m] w fun e w'=>e=.returned (.int .i64 (n % m))∧w'=w:=by
 have hne:m≠0:=by omega
 have ht:=Int.tmod_eq_emod (a:=n) (b:=m)
 have hr0:=Int.emod_nonneg n hne
 have hr1:=Int.emod_lt_of_pos n hm
 by_cases h:n.tmod m < 0
 · have e : n.tmod m + m = n % m := by
    split at ht
    · omega
    · have : ((m.natAbs : Int)) = m := by omega
      omega
   have lt:-m≤n.tmod m:=by rw [←e] at hr0;omega
   have E:=Lib.hid e
   have HM:=Lib.hid hm2
   clear ht e
   go_enter Tryz.func27,Tryz.ntmps27
   go_wp2_with fail
   go_ret
   exact ⟨by rw [←E.out];rfl,rfl⟩
 · have e : n.tmod m = n % m := by
    split at ht
    · omega
    · have : ((m.natAbs : Int)) = m := by omega
      omega
   have E:=Lib.hid e
   clear ht e
   go_enter Tryz.func27,Tryz.ntmps27
   go_wp2_with fail
   go_ret
   exact ⟨by rw [←E.out];rfl,rfl⟩
end Go.Proofs.YtnlhbknajdpnbaaGreatDoor
namespace Go.Proofs.YtnlhbknajdpnbaaGreatDoor
open Go.RowKit
set_option maxRecDepth 8000
def DiceOk (w : World) (D : Nat) : Prop := ∃ (AL : Option Addr) (cL k : Nat) (ls : List Int), w.heap[D]? = some (.cells #[.slice AL ls.length cL, .int .i64 (k : Int)] 43 (0, 0)) ∧
 k≤ls.length∧ls.length≤140737488351232∧(∀x∈ls,-9223372036854775808≤x∧x≤9223372036854775807)∧SeesP w (· < D) AL (ls.map (Value.int .i64))
theorem DiceOk.lt {w : World} {D : Nat} (h : DiceOk w D) : D < w.heap.size := by
 obtain ⟨_,_,_,_,h1,_⟩:=h
 exact lt_of_block h1
theorem DiceOk.keep {w w' : World} {D : Nat} (h : DiceOk w D) (hk : ∀ k, k ≤ D → w'.heap[k]? = w.heap[k]?) : DiceOk w' D := by
 obtain ⟨AL,cL,k,ls,h1,h2,h3,h4,h5⟩:=h
 exact ⟨AL,cL,k,ls,(hk D (Nat.le_refl _)).trans h1,h2,h3,h4,h5.keep fun q hq=>World.cell?_of_block (hk _ (Nat.le_of_lt hq))⟩
theorem DiceOk.below {w w' : World} {D : Nat} (h : DiceOk w D) (hb : Below w.heap.size w w') : DiceOk w' D :=
 h.keep fun k hk=>hb.block k (Nat.lt_of_le_of_lt hk h.lt)
theorem DiceOk.grown {w w' : World} {D : Nat} {row : Option Nat} (h : DiceOk w D) (hg : w.grownBy w' row) (hr : ∀ g, row = some g → D < g) : DiceOk w' D :=
 h.keep fun k hk=>hg.block k (Nat.lt_of_le_of_lt hk h.lt) (by intro e;have:=hr k e.symm;omega)
def zbj (w:World) (D n:Nat) (e:Ending) (w':World):Prop:=∃r:Nat,r < n∧e=.returned (.int .i64 (r:Int))∧w.grownBy w' (some D)∧DiceOk w' D
set_option maxHeartbeats 1000000 in
theorem zar (D n : Nat) (w : World) (hn : 0 < n) (hn2 : n ≤ 4611686018427387903) (h : DiceOk w D) :
 Calls Tryz.prog 8 #[.pointer (some ⟨D,0,none⟩),.int .i64 (n:Int)] w (zbj w D n):=by
 obtain ⟨AL,cL,k,ls,h1,h2,h3,h4,h5⟩:=h
 have c0:=cell_of_row w D 0 _ _ _ h1
 have c1:=cell_of_row w D 1 _ _ _ h1
 have f1:=frozen_of_row w D 1 _ _ h1
 simp only [List.getElem?_toArray,List.getElem?_cons_succ,List.getElem?_cons_zero] at c0 c1
 by_cases hlt:k < ls.length
 · obtain ⟨x, hx⟩ : ∃ x, x = ls[k] := ⟨_, rfl⟩
   have hxr:=h4 x (by rw [hx];exact List.getElem_mem hlt)
   obtain ⟨b, o, hA, hb, hc⟩ : ∃ b o, AL = some ⟨b, o, none⟩ ∧ b < D ∧ w.cell? ⟨b, o + k, none⟩ = some (.int .i64 x) := by
    rcases h5 with h | ⟨b,o,e,hb,hc⟩
    · have : ls = [] := by simpa using h
      subst this;simp at hlt
    · exact ⟨b,o,e,hb,(hc k (by simpa using hlt)).trans (by simp [hlt,hx])⟩
   have hne:b≠D:=by omega
   have HS:=Lib.hid h5
   subst hA
   obtain ⟨r,hr⟩ : ∃r:Nat,x % (n:Int)=(r:Int):=⟨(x % (n:Int)).toNat,by have:=Int.emod_nonneg x (show (n:Int)≠0 by omega);omega⟩
   have hrn:r < n:=by have:=Int.emod_lt_of_pos x (show (0:Int) < n by omega);omega
   have hM : ∀ u, Calls Tryz.prog 27 #[.int .i64 x, .int .i64 (n : Int)] u fun e w' => e = .returned (.int .i64 (r : Int)) ∧ ∃ q, w' = u.drewN q := fun u => by
    have:=made_mod x (n:Int) hxr.1 hxr.2 (by omega) (by omega) u
    rw [hr] at this
    exact this.mono fun e w' ⟨h1,h2⟩=>⟨h1,0,h2⟩
   have HM:=Lib.hid hM
   have H1:=Lib.hid (show _∧(∀x∈ls,-9223372036854775808≤x∧x≤9223372036854775807) from ⟨h1,h4⟩)
   clear hM hx hr h1 h4 h5 hxr
   go_enter Tryz.func8,Tryz.ntmps8
   go_wp2_with fail
   go_quiet (fail)
   go_wp2_with fail
   obtain ⟨W,hW⟩ : ∃W,W=(w.drewN nq).setCell ⟨D,1,none⟩ (.int .i64 ((k:Int)+1)):=⟨_,rfl⟩
   have e0:W.cell? ⟨D,0,none⟩=some (.slice (some ⟨b,o,none⟩) ls.length cL):=by rw [hW,cell_of_row _ D 0 _ _ _ (zai (w:=w.drewN nq) (i:=1) H1.out.1 _)];rfl
   have e1:W.cell? ⟨D,1,none⟩=some (.int .i64 ((k:Int)+1)):=by rw [hW,cell_of_row _ D 1 _ _ _ (zai (w:=w.drewN nq) (i:=1) H1.out.1 _)];rfl
   have e2:W.cell? ⟨b,o+k,none⟩=some (.int .i64 x):=by rw [hW];exact (World.cell?_of_block (Below.heap_setCell _ _ _ b hne)).trans hc
   have hg : w.grownBy W (some D) := by
    rw [hW]
    exact ⟨rfl,rfl,rfl,Nat.le_of_eq (by simp),fun j _ hj=>Below.heap_setCell (w.drewN nq) _ _ j (by simpa using fun e=>hj (by rw [e]))⟩
   have hd:DiceOk W D:=⟨some ⟨b,o,none⟩,cL,k+1,ls,by rw [hW];exact zai (w:=w.drewN nq) (i:=1) H1.out.1 _,by omega,h3,H1.out.2,HS.out.keep fun q hq=>zau hg (Nat.lt_trans hq (lt_of_block H1.out.1)) (Nat.ne_of_lt hq)⟩
   have HF:=Lib.hid (show ∀q,zbj w D n (.returned (.int .i64 (r:Int))) (W.drewN q) from fun q=>⟨r,hrn,rfl,⟨hg.os,hg.tape,hg.output,hg.size,hg.block⟩,hd.keep fun _ _=>rfl⟩)
   rw [←hW]
   clear hW hg hd c0 c1 f1 hc HS H1
   go_quiet ((go_at_call 27;exact Calls.quiet_of (HM.out _)))
   go_wp2_with fail
   go_ret
   exact HF.out _
 · have HF := Lib.hid (show DiceOk w D from ⟨AL, cL, k, ls, h1, h2, h3, h4, h5⟩)
   clear h1 h4 h5
   go_enter Tryz.func8,Tryz.ntmps8
   go_wp2_with fail
   go_quiet (fail)
   go_wp2_with fail
   go_ret
   exact ⟨0,hn,rfl,⟨rfl,rfl,rfl,Nat.le_refl _,fun _ _ _=>rfl⟩,HF.out.keep fun _ _=>rfl⟩
def OneIs (w:World) (D:Nat) (e:Ending) (w':World):Prop:=∃q:Bool,e=.returned (.bool q)∧w.grownBy w' (some D)∧DiceOk w' D
theorem zeg (D n : Nat) (w : World) (hn : 0 < n) (hn2 : n ≤ 4611686018427387903) (h : DiceOk w D) :
 Calls Tryz.prog 41 #[.pointer (some ⟨D,0,none⟩),.int .i64 (n:Int)] w (OneIs w D):=by
 have HN:=Lib.hid (zar D n w hn hn2 h)
 clear h
 go_enter Tryz.func41,Tryz.ntmps41
 go_wp2_with fail
 refine HN.out.mono ?_
 rintro e w1 ⟨r,hr,rfl,hg,hd⟩
 have HF:=Lib.hid (show _∧_ from ⟨hg,hd⟩)
 clear hg hd
 go_wp2_with fail
 go_ret
 exact ⟨_,rfl,HF.out.1,HF.out.2⟩
def TagRs (w:World) (D:Nat) (c:Bool) (e:Ending) (w':World):Prop:=∃t:Nat,e=.returned (.int .i64 (t:Int))∧zaA t=true∧zaE t=c∧w.grownBy w' (some D)∧DiceOk w' D
theorem tag_two {r1 r2 : Nat} (h1 : r1 < 4) (h2 : r2 < 127) (c : Nat) (hc : c ≤ 1) : zaA ((256 * (31 + 64 * r1) + 1 + r2 + 8192 * c : Nat) : Int) = true ∧ zaE ((256 * (31 + 64 * r1) + 1 + r2 + 8192 * c : Nat) : Int) = decide (c = 1) := by
 have hv : zaA ((256 * (31 + 64 * r1) + 1 + r2 + 8192 * c : Nat) : Int) = true := by
  unfold zaA
  rw [if_neg (by omega)]
  simp only [Bool.and_eq_true,decide_eq_true_eq]
  omega
 refine ⟨hv,?_⟩
 unfold zaE zfO
 rw [hv,Bool.true_and,if_neg (by omega)]
 by_cases h:c=1
 · rw [decide_eq_true (by omega),decide_eq_true h]
 · rw [decide_eq_false (by omega),decide_eq_false h]
theorem tag_one {r1 r2 : Nat} (h1 : r1 < 30) (h2 : r2 < 4) (c : Nat) (hc : c ≤ 1) : zaA ((1 + r1 + 64 * r2 + 32 * c : Nat) : Int) = true ∧ zaE ((1 + r1 + 64 * r2 + 32 * c : Nat) : Int) = decide (c = 1) := by
 have hv : zaA ((1 + r1 + 64 * r2 + 32 * c : Nat) : Int) = true := by
  unfold zaA
  rw [if_pos (by omega)]
  simp only [Bool.and_eq_true,decide_eq_true_eq]
  omega
 refine ⟨hv,?_⟩
 unfold zaE zfO
 rw [hv,Bool.true_and,if_pos (by omega)]
 by_cases h:c=1
 · rw [decide_eq_true (by omega),decide_eq_true h]
 · rw [decide_eq_false (by omega),decide_eq_false h]
theorem tag_is {w w' : World} {D : Nat} {c : Bool} {t : Nat} {z : Int} (hz : z = (t : Int)) (h : zaA (t : Int) = true ∧ zaE (t : Int) = c) (hg : w.grownBy w' (some D)) (hd : DiceOk w' D) : TagRs w D c (.returned (.int .i64 z)) w' :=
 ⟨t,by rw [hz],h.1,h.2,hg,hd⟩
set_option maxHeartbeats 1000000 in
theorem zep (D : Nat) (c : Bool) (w : World) (h : DiceOk w D) :
 Calls Tryz.prog 57 #[.pointer (some ⟨D,0,none⟩),.bool c] w (TagRs w D c):=by
 have HN:=Lib.hid (zar D 4 w (by decide) (by decide) h)
 clear h
 go_enter Tryz.func57,Tryz.ntmps57
 go_wp2_with fail
 refine HN.out.mono ?_
 rintro e w1 ⟨r,hr,rfl,hg,hd⟩
 by_cases h0:r=0
 · subst h0
   have HN1:=Lib.hid (zar D 4 w1 (by decide) (by decide) hd)
   have HG:=Lib.hid hg
   clear HN hd hg
   go_wp2_with fail
   refine HN1.out.mono ?_
   rintro e w2 ⟨r1,hr1,rfl,hg,hd⟩
   have HN2:=Lib.hid (zar D 127 w2 (by decide) (by decide) hd)
   have HG1:=Lib.hid (zae HG.out hg)
   clear HN1 hd hg
   go_wp2_with fail
   refine HN2.out.mono ?_
   rintro e w3 ⟨r2,hr2,rfl,hg,hd⟩
   have HG2:=Lib.hid (show _∧_ from ⟨zae HG1.out hg,hd⟩)
   clear HN2 hd hg
   cases c
   · go_wp2_with fail
     go_ret
     exact tag_is (t:=256*(31+64*r1)+1+r2+8192*0) (by omega) (tag_two hr1 hr2 0 (by decide)) HG2.out.1 HG2.out.2
   · go_wp2_with fail
     go_ret
     exact tag_is (t:=256*(31+64*r1)+1+r2+8192*1) (by omega) (tag_two hr1 hr2 1 (by decide)) HG2.out.1 HG2.out.2
 · have HN1 := Lib.hid (zar D 30 w1 (by decide) (by decide) hd)
   have HG:=Lib.hid hg
   have d0:((r:Int)==0)=false:=by simp;omega
   have d0':(r==0)=false:=by simp;omega
   clear HN hd hg
   go_wp2_with fail
   refine HN1.out.mono ?_
   rintro e w2 ⟨r1,hr1,rfl,hg,hd⟩
   have HN2:=Lib.hid (zar D 4 w2 (by decide) (by decide) hd)
   have HG1:=Lib.hid (zae HG.out hg)
   clear HN1 hd hg
   go_wp2_with fail
   refine HN2.out.mono ?_
   rintro e w3 ⟨r2,hr2,rfl,hg,hd⟩
   have HG2:=Lib.hid (show _∧_ from ⟨zae HG1.out hg,hd⟩)
   clear HN2 hd hg
   cases c
   · go_wp2_with fail
     go_ret
     exact tag_is (t:=1+r1+64*r2+32*0) (by omega) (tag_one hr1 hr2 0 (by decide)) HG2.out.1 HG2.out.2
   · go_wp2_with fail
     go_ret
     exact tag_is (t:=1+r1+64*r2+32*1) (by omega) (tag_one hr1 hr2 1 (by decide)) HG2.out.1 HG2.out.2
end Go.Proofs.YtnlhbknajdpnbaaGreatDoor
