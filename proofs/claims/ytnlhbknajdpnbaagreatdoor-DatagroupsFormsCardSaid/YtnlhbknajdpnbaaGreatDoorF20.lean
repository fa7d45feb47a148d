/-
  What is proved here: the file with details: plain words; belongs and Details of the reference.
-/
import Derived.Test.YtnlhbknajdpnbaaGreatDoorF19
import Derived.Deep.DeepMust
import Derived.Laws.AppendOwnNone
set_option linter.unusedVariables false
set_option linter.unusedSimpArgs false
namespace Go.Proofs.YtnlhbknajdpnbaaGreatDoor
open Go.RowKit
set_option maxRecDepth 8000
section
variable {P:Program} {ops:Array Oper} {rest:List Oper} {o:Oper} {a:Act} {w:World} {Q:Exit→Act→World→Prop}
theorem wpList_binD (hgd : o.guard = none) (b : BinOp) (T T2 : TypeId) (x y : Operand) (ho : o.op = .binOp b T x y T2) {v vx vy : Value} (hx : a.eval x = vx) (hy : a.eval y = vy) (hr : (do eqGuard b T x y vx vy; binOp b T vx vy).run P w = .ok v w) (hK : wpList P ops Q rest (a.put o.dst v) w) : wpList P ops Q (o :: rest) a w :=
 wpList_plain hgd fun _ hK2=>o_bin b T T2 x y ho hx hy hr (hK2 _ _ hK)
theorem wpList_cvD (hgd : o.guard = none) (T1 T2 : TypeId) (x : Operand) (ho : o.op = .convert T1 T2 x) {v vx : Value} {w' : World} (hx : a.eval x = vx) (hr : (convert T1 T2 vx).run P w = .ok v w') (hK : wpList P ops Q rest (a.put o.dst v) w') : wpList P ops Q (o :: rest) a w := by
 refine wpList_plain hgd fun K hK2=>?_
 unfold Oper.wp execOp
 simp only [ho,hx]
 rw [Sem.run_bind,hr]
 exact hK2 _ _ hK
end
theorem ex_seesD {w : World} {g z : Nat} {l : List UInt8} (h : ExR w g l z) : SeesP w (· < w.heap.size) (some ⟨g, 0, none⟩) (Us l) := by
 refine .inr ⟨g,0,rfl,?_,fun j hj=>?_⟩
 · obtain ⟨m, _, h⟩ := h
   exact lt_of_block h
 · rw [zat] at hj
   rw [Nat.zero_add,h.cell (List.getElem?_eq_getElem hj),zeT hj]
theorem HoldsN.qD {w : World} {p : Nat → Prop} : ∀ {f : F} {cs : List Value}, HoldsN w p f cs → HoldsQ w p f cs
 | .nil,_,h=>h
 | .cons _ _ _ _,_,⟨Av,cv,Ak,ck,ks,cs',e,h0,h1,h2,h3,h4⟩=>⟨Av,cv,Ak,ck,ks,cs',e,⟨h0.1,fun _=>h0.2.1⟩,h1,h2,HoldsN.qD h3,HoldsN.qD h4⟩
theorem SeesN.qD {w : World} {p : Nat → Prop} {A : Option Addr} {f : F} (h : SeesN w p A f) : SeesQ w p A f := by
 obtain ⟨cs,h1,h2⟩:=h
 exact ⟨cs,h1,h2.qD⟩
abbrev Dtl:=Int×List UInt8
def Dcs : List Dtl → List Value
 | []=>[]
 | d::r=>.int .i64 d.1::.string (S d.2)::Dcs r
theorem zfG : ∀ L : List Dtl, (Dcs L).length = 2 * L.length
 | []=>rfl
 | d::r=>by simp only [Dcs,List.length_cons,zfG r];omega
theorem Dcs_at : ∀ {L : List Dtl} {j : Nat} {d : Dtl}, L[j]? = some d → (Dcs L)[j * 2]? = some (.int .i64 d.1) ∧ (Dcs L)[j * 2 + 1]? = some (.string (S d.2))
 | [],j,d,h=>by simp at h
 | x :: r, 0, d, h => by
   have h:x=d:=by simpa using h
   subst h
   exact ⟨rfl,rfl⟩
 | x :: r, j + 1, d, h => by
   have h2:r[j]? = some d:=by simpa using h
   obtain ⟨h3,h4⟩:=Dcs_at h2
   refine ⟨?_,?_⟩
   · rw [show (j+1)*2=j*2+1+1 by omega];simpa [Dcs] using h3
   · rw [show (j+1)*2+1=j*2+1+1+1 by omega];simpa [Dcs] using h4
theorem dcs_cell {w : World} {p : Nat → Prop} {A : Option Addr} {L : List Dtl} {j : Nat} {d : Dtl} (h : SeesP w p A (Dcs L)) (hd : L[j]? = some d) : ∃ b off, A = some ⟨b, off, none⟩ ∧ p b ∧ w.cell? ⟨b, off + j * 2, none⟩ = some (.int .i64 d.1) ∧ w.cell? ⟨b, off + j * 2 + 1, none⟩ = some (.string (S d.2)) := by
 have hj:j < L.length:=(List.getElem?_eq_some_iff.1 hd).1
 obtain ⟨e1,e2⟩:=Dcs_at hd
 have hl:=zfG L
 rcases h with h | ⟨b,off,rfl,hp,hc⟩
 · rw [h] at hl;simp at hl;omega
 · exact ⟨b,off,rfl,hp,(hc (j*2) (by omega)).trans e1,by rw [Nat.add_assoc];exact (hc (j*2+1) (by omega)).trans e2⟩
def belB (n t:Int):Bool:=if n=11 then (t==24334 || (decide (24336≤t) && decide (t≤24341)) || t==24386) else (t==24345 || t==24358 || t==24347 || t==24405)
theorem belB_bd {n t : Int} (h : belB n t = true) : 24334 ≤ t ∧ t ≤ 24405 := by
 unfold belB at h
 split at h <;> simp at h <;> omega
def dtE (n : Int) (seen : List Int) : List Dtl → Int
 | []=>0
 | d::r=>if belB n d.1=false then 4 else if d.1∈seen then 15 else if d.2.length < 1∨99 < d.2.length then 2 else dtE n (seen++[d.1]) r
def detE (n:Int) (L:List Dtl):Int:=if n≠11∧n≠12 then 3 else if 16 < L.length then 2 else dtE n [] L
def tgL (L:List Dtl):List UInt8:=L.flatMap fun d=>[UInt8.ofNat (d.1.toNat / 256),UInt8.ofNat d.1.toNat]
def kidD : List Dtl → F
 | []=>.nil
 | d::r=>.cons d.1 d.2 .nil (kidD r)
def deF (L:List Dtl):F:=.cons 92 (tgL L) .nil (kidD L)
def dsE (n:Int) (L:List Dtl):Int:=if detE n L=0 then wrE n (deF L) else detE n L
def dsB (n:Int) (L:List Dtl):List UInt8:=if detE n L=0 then wrB n (deF L) else []
theorem dtE_at {L : List Dtl} {j : Nat} {d : Dtl} (h : L[j]? = some d) (n : Int) (seen : List Int) : dtE n seen (L.drop j) = if belB n d.1 = false then 4 else if d.1 ∈ seen then 15 else if d.2.length < 1 ∨ 99 < d.2.length then 2 else dtE n (seen ++ [d.1]) (L.drop (j + 1)) := by
 have hj:j < L.length:=(List.getElem?_eq_some_iff.1 h).1
 have e : L.drop j = d :: L.drop (j + 1) := by
  rw [List.drop_eq_getElem_cons hj]
  rw [List.getElem?_eq_getElem hj] at h
  injection h with h
  rw [h]
 rw [e]
 rfl
theorem tgL_snoc {L : List Dtl} {j : Nat} {d : Dtl} (h : L[j]? = some d) : tgL (L.take (j + 1)) = tgL (L.take j) ++ [UInt8.ofNat (d.1.toNat / 256), UInt8.ofNat d.1.toNat] := by
 unfold tgL
 rw [List.take_add_one,h]
 simp
theorem tgL_len (L : List Dtl) : (tgL L).length = 2 * L.length := by
 unfold tgL
 induction L with
 | nil=>rfl
 | cons d r ih=>simp only [List.flatMap_cons,List.length_append,List.length_cons,List.length_nil,ih];omega
theorem kidD_app : ∀ (K L : List Dtl), kidD (K ++ L) = (kidD K).app (kidD L)
 | [],_=>rfl
 | d::r,L=>by simp only [List.cons_append,kidD,F.app,kidD_app r L]
theorem kidD_snoc {L : List Dtl} {j : Nat} {d : Dtl} (h : L[j]? = some d) : kidD (L.take (j + 1)) = (kidD (L.take j)).app (.cons d.1 d.2 .nil .nil) := by
 rw [List.take_add_one,h,kidD_app]
 rfl
theorem zfg : ∀ L : List Dtl, (kidD L).len = L.length
 | []=>rfl
 | d::r=>by simp only [kidD,F.len,zfg r,List.length_cons]
theorem kidD_size : ∀ L : List Dtl, (kidD L).size = L.length
 | []=>rfl
 | d::r=>by simp only [kidD,F.size,kidD_size r,List.length_cons];omega
theorem tags_snoc {L : List Dtl} {j : Nat} {d : Dtl} (h : L[j]? = some d) : (L.take (j + 1)).map Prod.fst = (L.take j).map Prod.fst ++ [d.1] := by
 rw [List.take_add_one,h]
 simp
def DtOk (n:Int) (L:List Dtl):Prop:=∀d∈L,belB n d.1=true∧d.2.length≤99
theorem kidD_ok {n : Int} : ∀ {L : List Dtl}, DtOk n L → (kidD L).ok ∧ (kidD L).sq
 | [],_=>⟨trivial,trivial⟩
 | d :: r, h => by
   have h1:=h d (List.mem_cons_self ..)
   have h2:=belB_bd h1.1
   obtain ⟨h3,h4⟩:=kidD_ok (L:=r) fun x hx=>h x (List.mem_cons_of_mem _ hx)
   exact ⟨⟨by omega,by omega,trivial,h3⟩,by omega,trivial,h4⟩
theorem deF_ok {n : Int} {L : List Dtl} (h : DtOk n L) (hl : L.length ≤ 16) : (deF L).ok ∧ (deF L).sq := by
 obtain ⟨h1,h2⟩:=kidD_ok h
 have:=tgL_len L
 exact ⟨⟨by decide,by omega,trivial,h1⟩,by omega,trivial,h2⟩
theorem DtOk.snoc {n : Int} {L : List Dtl} {j : Nat} {d : Dtl} (h : DtOk n (L.take j)) (hd : L[j]? = some d) (h1 : belB n d.1 = true) (h2 : d.2.length ≤ 99) : DtOk n (L.take (j + 1)) := by
 intro x hx
 rw [List.take_add_one,hd] at hx
 simp only [Option.toList_some,List.mem_append,List.mem_singleton] at hx
 rcases hx with hx | rfl
 · exact h x hx
 · exact ⟨h1,h2⟩
set_option maxHeartbeats 1600000 in
theorem r_belongs (n t : Int) (w : World) : Calls Tryz.prog 48 #[.int .i64 n, .int .i64 t] w fun e w' => e = .returned (.bool (belB n t)) ∧ w' = w := by
 by_cases hn:n=11
 · have dn : (n == 11) = true := by simpa using hn
   have e0:belB n t=(t==24334 || (decide (24336≤t) && decide (t≤24341)) || t==24386):=by unfold belB;rw [if_pos hn]
   rw [e0]
   clear e0 hn
   cases b1:(t==24334)
   · cases b2 : decide (24336 ≤ t)
     · obtain ⟨b4, h4⟩ : ∃ b, (t == 24386) = b := ⟨_, rfl⟩
       rw [h4]
       go_enter Tryz.func48,Tryz.ntmps48
       go_wp2
       go_ret
       exact ⟨by simp,rfl⟩
     · cases b3 : decide (t ≤ 24341)
       · obtain ⟨b4, h4⟩ : ∃ b, (t == 24386) = b := ⟨_, rfl⟩
         rw [h4]
         go_enter Tryz.func48,Tryz.ntmps48
         go_wp2
         go_ret
         exact ⟨by simp,rfl⟩
       · go_enter Tryz.func48, Tryz.ntmps48
         go_wp2
         go_ret
         exact ⟨by simp,rfl⟩
   · go_enter Tryz.func48, Tryz.ntmps48
     go_wp2
     go_ret
     exact ⟨by simp,rfl⟩
 · have dn : (n == 11) = false := by simpa using hn
   have e0:belB n t=(t==24345 || t==24358 || t==24347 || t==24405):=by unfold belB;rw [if_neg hn]
   rw [e0]
   clear e0 hn
   cases b1:(t==24345)
   · cases b2 : (t == 24358)
     · cases b3 : (t == 24347)
       · obtain ⟨b4, h4⟩ : ∃ b, (t == 24405) = b := ⟨_, rfl⟩
         rw [h4]
         go_enter Tryz.func48,Tryz.ntmps48
         go_wp2
         go_ret
         exact ⟨by simp,rfl⟩
       · go_enter Tryz.func48, Tryz.ntmps48
         go_wp2
         go_ret
         exact ⟨by simp,rfl⟩
     · go_enter Tryz.func48, Tryz.ntmps48
       go_wp2
       go_ret
       exact ⟨by simp,rfl⟩
   · go_enter Tryz.func48, Tryz.ntmps48
     go_wp2
     go_ret
     exact ⟨by simp,rfl⟩
def DtR (w wr : World) (v6 v7 : Value) (lb : List UInt8) (f : F) : Prop := ∃ cs, wr.ownsRow w.heap.size 5 1 v6 lb.length (Us lb) ∧ wr.ownsRow w.heap.size 64 3 v7 f.len cs ∧
 HoldsN wr (fun b=>newB w wr b∧v7.ownBlock≠some b∧v6.ownBlock≠some b) f cs∧∀g,v6.ownBlock=some g→v7.ownBlock≠some g
theorem DtR.start (w:World):DtR w w (.slice none 0 0) (.slice none 0 0) [] .nil:=⟨[],World.ownsRow_nil w _ _ 1,⟨rfl,.inl ⟨rfl,rfl⟩⟩,rfl,fun g h=>by cases h⟩
theorem DtR.on {w wr w' : World} {v6 v7 : Value} {lb : List UInt8} {f : F} (h : DtR w wr v6 v7 lb f) (hb : Below wr.heap.size wr w') : DtR w w' v6 v7 lb f := by
 obtain ⟨cs,h1,h2,h3,h4⟩:=h
 exact ⟨cs,zaI h1 hb,zaI h2 hb,HoldsN.imp (fun b h=>⟨⟨h.1.1,Nat.lt_of_lt_of_le h.1.2 hb.size⟩,h.2⟩) (HoldsN.keep (fun q hq=>hb.cell hq.1.2) h3),h4⟩
theorem DtR.bytes {w wr wa w2 : World} {v6 v7 : Value} {lb xs : List UInt8} {f : F} {g cap n : Nat} (h : DtR w wr v6 v7 lb f) (ha : Below wr.heap.size wr wa) (hn : n = lb.length + xs.length)
 (ho:w2.ownsRow w.heap.size 5 1 (.slice (some ⟨g,0,none⟩) n cap) n (Us lb++Us xs)) (hg:wa.grownBy w2 v6.ownBlock) (hl:v6.ownBlock=some g∨g=wa.heap.size) :
 DtR w w2 (.slice (some ⟨g,0,none⟩) n cap) v7 (lb++xs) f:=by
 subst hn
 obtain ⟨cs,h1,h2,h3,h4⟩:=h
 have hold:=zas h1
 have hold7:=zas h2
 have hsz:wr.heap.size≤w2.heap.size:=Nat.le_trans ha.size hg.size
 have has:=ha.size
 have keep : ∀ q : Addr, q.block < wr.heap.size → v6.ownBlock ≠ some q.block → w2.cell? q = wr.cell? q := fun q h1 h2 =>
  (World.cell?_of_block (w:=wa) (hg.block q.block (Nat.lt_of_lt_of_le h1 has) (fun e=>h2 e.symm))).trans (ha.cell h1)
 refine ⟨cs,?_,?_,?_,?_⟩
 · rw [List.length_append,zaP];exact ho
 · refine World.ownsRow.kept (zaI h2 ha) hg ?_
   rcases h7:v7.ownBlock with _ | g7
   · exact .inl rfl
   · exact .inr fun e=>h4 g7 e.symm h7
 · refine HoldsN.imp ?_ (HoldsN.keep (w' := w2) (fun q hq => keep q hq.1.2 hq.2.2) h3)
   intro b hb
   have h5:=hb.1.2
   refine ⟨⟨hb.1.1,by omega⟩,hb.2.1,?_⟩
   intro e
   injection e with e
   simp only at e
   rcases hl with h6 | h6
   · exact hb.2.2 (h6.trans (by rw [e]))
   · omega
 · intro g' e
   injection e with e
   simp only at e
   subst e
   rcases hl with h6 | h6
   · exact h4 g h6
   · intro e2
     have:=(hold7 g e2).2
     omega
theorem DtR.node {w wr w1 wa w2 : World} {v6 v7 : Value} {lb : List UInt8} {f : F} {t : Int} {x : List UInt8} {Av : Option Addr} {cv g cap n : Nat} (h : DtR w wr v6 v7 lb f) (h01 : Below wr.heap.size wr w1) (ha : Below w1.heap.size w1 wa)
 (hn0:(Av=none→cv=0)∧x.length≤cv) (hv:SeesP w1 (newB wr w1) Av (Us x)) (hww:w.heap.size≤wr.heap.size) (cs:List Value) (hcs:wr.ownsRow w.heap.size 64 3 v7 f.len cs∧HoldsN wr (fun b=>newB w wr b∧v7.ownBlock≠some b∧v6.ownBlock≠some b) f cs) (hn:n=f.len+1)
 (ho:w2.ownsRow w.heap.size 64 3 (.slice (some ⟨g,0,none⟩) n cap) n (cs++[.int .i64 t,.slice Av x.length cv,.slice none 0 0])) (hg:wa.grownBy w2 v7.ownBlock)
 (hl:v7.ownBlock=some g∨g=wa.heap.size):DtR w w2 v6 (.slice (some ⟨g,0,none⟩) n cap) lb (f.app (.cons t x .nil .nil)):=by
 subst hn
 obtain ⟨cs0,h1,h2,h3,h4⟩:=h
 obtain ⟨hc1,hc2⟩:=hcs
 have hold:=zas hc1
 have hold6:=zas h1
 have h01s:=h01.size
 have hwa:=ha.size
 have hsz:w1.heap.size≤w2.heap.size:=Nat.le_trans ha.size hg.size
 have keep : ∀ q : Addr, q.block < w1.heap.size → v7.ownBlock ≠ some q.block → w2.cell? q = w1.cell? q := fun q h1 h2 =>
  (World.cell?_of_block (w:=wa) (hg.block q.block (Nat.lt_of_lt_of_le h1 ha.size) (fun e=>h2 e.symm))).trans (ha.cell h1)
 refine ⟨_,?_,by rw [F.len_app];exact ho,HoldsN.app ?_ ?_,?_⟩
 · refine World.ownsRow.kept (zaI (zaI h1 h01) ha) hg ?_
   rcases h6:v6.ownBlock with _ | g6
   · exact .inl rfl
   · exact .inr fun e=>h4 g6 h6 e.symm
 · refine HoldsN.imp ?_ (HoldsN.keep (w' := w2) (fun q hq => (keep q (Nat.lt_of_lt_of_le hq.1.2 h01s) hq.2.1).trans (h01.cell hq.1.2)) hc2)
   intro b hb
   have h5:=hb.1.2
   refine ⟨⟨hb.1.1,by omega⟩,?_,hb.2.2⟩
   intro e
   injection e with e
   simp only at e
   rcases hl with h6 | h6
   · exact hb.2.1 (h6.trans (by rw [e]))
   · omega
 · have hp : ∀ b, newB wr w1 b → newB w w2 b ∧ (Value.slice (some ⟨g, 0, none⟩) (f.len + 1) cap).ownBlock ≠ some b ∧ v6.ownBlock ≠ some b := by
    intro b hb
    have h5:=hb.1
    have h6:=hb.2
    refine ⟨⟨by omega,by omega⟩,?_,?_⟩
    · intro e
      injection e with e
      simp only at e
      rcases hl with h3 | h3
      · have:=(hold g h3).2;omega
      · omega
    · intro e
      have:=(hold6 b e).2
      omega
   have kp : ∀ q : Addr, newB wr w1 q.block → w2.cell? q = w1.cell? q := by
    intro q hq
    refine keep q hq.2 ?_
    have h5:=hq.1
    intro e
    have:=(hold _ e).2
    omega
   exact ⟨Av,cv,none,0,[],[],rfl,⟨hn0.1,hn0.2,Nat.le_refl _⟩,(hv.keep kp).imp hp,.inl rfl,rfl,rfl⟩
 · intro g6 e e2
   injection e2 with e2
   simp only at e2
   subst e2
   rcases hl with h6 | h6
   · exact h4 _ e h6
   · have := (hold6 _ e).2
     omega
theorem DtR.cells {w wr : World} {v6 v7 : Value} {lb : List UInt8} {f : F} (h : DtR w wr v6 v7 lb f) : ∃ cs, wr.ownsRow w.heap.size 64 3 v7 f.len cs ∧ HoldsN wr (fun b => newB w wr b ∧ v7.ownBlock ≠ some b ∧ v6.ownBlock ≠ some b) f cs := by
 obtain ⟨cs,_,h2,h3,_⟩:=h
 exact ⟨cs,h2,h3⟩
theorem DtR.bts {w wr : World} {v6 v7 : Value} {lb : List UInt8} {f : F} (h : DtR w wr v6 v7 lb f) : wr.ownsRow w.heap.size 5 1 v6 lb.length (Us lb) := by
 obtain ⟨cs,h1,_⟩:=h
 exact h1
theorem zgf {P : Program} {ops : Array Oper} {rest : List Oper} {o : Oper} {a : Act} {w : World} {Q : Exit → Act → World → Prop} (hgd : o.guard = none) (t e : TypeId) (len : Nat) (parts : Array (Nat × Operand)) (ho : o.op = .buildSlice t len parts) (hu : P.underlying t = some (.slice e)) {ps : List (Nat × Value)} (hp : (parts.map fun (i, x) => (i, a.eval x)).toList = ps) {vs : List Value} (hf : P.builtSlice e len ps = some vs.toArray) (size : Nat) (hl : vs.length = len * size) (hm : len ≤ maxLen)
 (hK:∀g w',Fresh w w' g→w'.ownsRow w.heap.size e size (.slice (some ⟨g,0,none⟩) len len) len vs→wpList P ops Q rest (a.put o.dst (.slice (some ⟨g,0,none⟩) len len)) w'):wpList P ops Q (o::rest) a w:=by
 refine wpList_plain hgd fun K hK2=>?_
 unfold Program.builtSlice at hf
 cases hie:P.info? e with
 | none=>simp [hie] at hf
 | some ie =>
   simp only [hie] at hf
   cases hz:ie.zero with
   | none=>simp [hz] at hf
   | some z =>
     simp only [hz] at hf
     by_cases hc:len*ie.size > 2 ^ 24∨len*ie.size=0
     · simp [hc] at hf
     · rw [if_neg hc] at hf
       refine wp_buildSlice t e len parts ho vs.toArray ie z hu hie hz (fun h=>hc (.inl h)) (fun h=>hc (.inr h)) (by rw [hp];exact hf) (hK2 _ _ (hK _ _ ⟨rfl,_,rfl⟩ ⟨hl,.inr ⟨w.heap.size,len,vs.toArray,rfl,Nat.le_refl _,heap_alloc_new w _,Nat.le_refl _,hm,by simpa using hl,?_⟩⟩))
       rw [←hl]
       simp
theorem HoldsN.one15 {w : World} {p : Nat → Prop} : ∀ {f : F} {cs : List Value}, HoldsN w p f cs → ∀ u ∈ cs, u.oneCell' = true
 | .nil, cs, h, u, hu => by
   have h:cs=[]:=h
   subst h
   cases hu
 | .cons t v k r, cs, h, u, hu => by
   obtain ⟨Av,cv,Ak,ck,ks,cs',e,_,_,_,_,h4⟩:=h
   subst e
   simp only [List.mem_cons] at hu
   rcases hu with rfl | rfl | rfl | hu
   · rfl
   · rfl
   · rfl
   · exact HoldsN.one15 h4 u hu
theorem zgL {w : World} {base g n cap : Nat} {e : TypeId} {size : Nat} {xs : List Value} (h : w.ownsRow base e size (.slice (some ⟨g, 0, none⟩) n cap) n xs) : SeesP w (· < w.heap.size) (some ⟨g, 0, none⟩) xs := by
 rcases h.2 with ⟨h1,_⟩ | ⟨g',cap',cur,h1,_,hh,_,_,_,ht⟩
 · cases h1
 · injection h1 with h1 _ _
   injection h1 with h1
   injection h1 with h1
   subst h1
   refine .inr ⟨g,0,rfl,lt_of_block hh,fun j hj=>?_⟩
   have hl:=h.1
   rw [Nat.zero_add,cell_of_row w g j cur _ (0,0) hh,←ht,List.getElem?_take,if_pos (by omega),Array.getElem?_toList]
theorem ds_close {w wr w1 wa w2 : World} {q : Nat → Prop} {f : F} {cs : List Value} {t : Int} {x : List UInt8} {Av : Option Addr} {cv base g g5 n cap : Nat} (hf : HoldsN wr (fun b => newB w wr b ∧ q b) f cs) (h01 : Below wr.heap.size wr w1) (hv : SeesP w1 (newB wr w1) Av (Us x)) (hn0 : (Av = none → cv = 0) ∧ x.length ≤ cv)
 (ha:Below w1.heap.size w1 wa) (hg5:w1.heap.size≤g5) (hg:wa.grownBy w2 (some g5)) (ho:w2.ownsRow base 64 3 (.slice (some ⟨g,0,none⟩) n cap) n ([.int .i64 t,.slice Av x.length cv,.slice none 0 0]++cs)) :
 SeesN w2 (· < w2.heap.size) (some ⟨g,0,none⟩) (.cons t x .nil f):=by
 have h01s:=h01.size
 have has:=ha.size
 have hgs:=hg.size
 have keep : ∀ k : Addr, k.block < w1.heap.size → w2.cell? k = w1.cell? k := fun k hk =>
  (World.cell?_of_block (w:=wa) (hg.block k.block (Nat.lt_of_lt_of_le hk has) (by intro e;injection e with e;omega))).trans (ha.cell hk)
 refine ⟨_,zgL ho,Av,cv,none,0,[],cs,rfl,⟨hn0.1,hn0.2,Nat.le_refl _⟩,?_,.inl rfl,rfl,?_⟩
 · exact (hv.keep fun k hk=>keep k hk.2).imp fun b hb=>by have:=hb.2;omega
 · exact HoldsN.imp (fun b hb=>by have:=hb.1.2;omega) (HoldsN.keep (fun k hk=>(keep k (by have:=hk.1.2;omega)).trans (h01.cell hk.1.2)) hf)
theorem pvv2 {a:Act} {x0 x1:Operand} {u0 u1:Value} (h0:a.eval x0=u0) (h1:a.eval x1=u1):((#[(0,x0),(1,x1)]:Array (Nat×Operand)).map fun (i,x)=>(i,a.eval x)).toList=[(0,u0),(1,u1)]:=by simp [h0,h1]
theorem RowS15 {w : World} {g : Nat} {vs : List Value} (h : w.rangeAt g 0 vs) : ∀ j u, vs[j]? = some u → w.cell? ((⟨g, 0, none⟩ : Addr).add j) = some u := fun j u hu => by
 have e:=h j u hu
 rw [Nat.zero_add] at e
 have hadd:(⟨g,0,none⟩ : Addr).add j=⟨g,j,none⟩:=by unfold Addr.add;split <;> simp_all
 rw [hadd]
 exact e
set_option maxHeartbeats 12800000 in
set_option maxRecDepth 20000 in
theorem r_details (n : Int) (L : List Dtl) (m : Nat) (hm : L.length = m) (hm2 : m ≤ 140737488351232) (A : Option Addr) (c : Nat) (w : World) (ht : TabG w) (hs : SeesP w (· < w.heap.size) A (Dcs L)) (lo : -9223372036854775808 ≤ n) (up : n ≤ 9223372036854775807) :
 Calls Tryz.prog 19 #[.int .i64 n,.slice A m c] w (zaU w (dsB n L) (dsE n L)):=by
 obtain ⟨i0,hi,hz0,hz1,hz2⟩:=info_parts zaW
 obtain ⟨i1,ni,nz0,nz1,nz2⟩:=info_parts zcq
 have HT:=Lib.hid ht
 have HG := Lib.hid (show ∀ x, detE n L = x → x ≠ 0 → ∀ u, Below w.heap.size w u → zaU w (dsB n L) (dsE n L) (.returned (.tuple #[.slice none 0 0, .int .i64 x])) u from fun x hx h0 u hb => by
  unfold dsB dsE
  rw [hx,if_neg h0,if_neg h0]
  exact ⟨none,0,rfl,.inl rfl,hb,Nat.le_refl _,fun _=>rfl⟩)
 have hdet:detE n L=if n≠11∧n≠12 then 3 else if 16 < m then 2 else dtE n [] L:=by unfold detE;rw [hm]
 by_cases hn:n≠11∧n≠12
 · rw [if_pos hn] at hdet
   have HD:=Lib.hid (HG.out 3 hdet (by decide) _ (Below.refl _ _))
   have d1:(n != 11)=true:=by simpa using hn.1
   have d2:(n != 12)=true:=by simpa using hn.2
   clear hdet hn HG hs ht hm lo up
   go_enter Tryz.func19,Tryz.ntmps19
   go_wp2_with fail
   go_ret2
   exact HD.out
 rw [if_neg hn] at hdet
 have hn2:n=11∨n=12:=by omega
 by_cases h16:16 < m
 · rw [if_pos h16] at hdet
   have HD:=Lib.hid (HG.out 2 hdet (by decide) _ (Below.refl _ _))
   have d3:decide ((16:Int) < (m:Int))=true:=by simp;omega
   clear hdet hn HG hs ht hm lo up h16
   rcases hn2 with rfl | rfl
   · go_enter Tryz.func19, Tryz.ntmps19
     go_wp2_with fail
     go_ret2
     exact HD.out
   · go_enter Tryz.func19, Tryz.ntmps19
     go_wp2_with fail
     go_ret2
     exact HD.out
 rw [if_neg h16] at hdet
 have d3:decide ((16:Int) < (m:Int))=false:=by simp;omega
 have hm16:m≤16:=by omega
 have HS:=Lib.hid (show _∧_ from ⟨hs,hm⟩)
 have HDET:=Lib.hid hdet
 have HLO:=Lib.hid (show _∧_∧(n=11∨n=12) from ⟨lo,up,hn2⟩)
 obtain ⟨bs,hbs⟩ : ∃z,dsB n L=z:=⟨_,rfl⟩
 obtain ⟨er,her⟩ : ∃z,dsE n L=z:=⟨_,rfl⟩
 rw [hbs,her] at HG ⊢
 have HBE:=Lib.hid (show dsB n L=bs∧dsE n L=er from ⟨hbs,her⟩)
 have hdd : (n != 11) = false ∨ ((n != 11) = true ∧ (n != 12) = false) := by
  rcases hn2 with h | h
  · exact .inl (by simp [h])
  · exact .inr ⟨by simp [h],by simp [h]⟩
 clear hdet hn hs ht hm lo up h16 hbs her hn2
 rcases hdd with d1 | ⟨d1,d2⟩
 all_goals
  go_enter Tryz.func19,Tryz.ntmps19
  go_wp2_with fail
  go_loopw [6,7,8] (fun v6 v7 i wr=>∃(j:Nat),j≤m∧i=.int .i64 (j:Int)∧Hid (DtR w wr v6 v7 (tgL (L.take j)) (kidD (L.take j))∧Below w.heap.size w wr∧detE n L=dtE n ((L.take j).map Prod.fst) (L.drop j)∧DtOk n (L.take j)∧(j=0→v7=.slice none 0 0))) (fun _ _ i _=>m - (intOf i).toNat)
  case atStart=>exact ⟨0,by omega,rfl,Lib.hid ⟨DtR.start w,Below.refl _ _,HDET.out,fun d hd=>(by cases hd),fun _=>rfl⟩⟩
  case round =>
   obtain ⟨j,hj,rfl,HR⟩:=hrel
   by_cases hlt:j < m
   · have dj : decide ((j : Int) < (m : Int)) = true := by simp; omega
     obtain ⟨d,hd⟩ : ∃d,L[j]? = some d:=⟨_,List.getElem?_eq_getElem (by rw [HS.out.2];exact hlt)⟩
     obtain ⟨b,off,rfl,hb,hc1,hc2⟩:=dcs_cell HS.out.1 hd
     have y1:=(HR.out.2.1.cell (p:=⟨b,off+j*2,none⟩) hb).trans hc1
     have hst:=dtE_at hd n ((L.take j).map Prod.fst)
     rw [←HR.out.2.2.1] at hst
     have HHD:=Lib.hid (show L[j]? = some d∧b < w.heap.size∧w.cell? ⟨b,off+j*2+1,none⟩=some (.string (S d.2)) from ⟨hd,hb,hc2⟩)
     have HBL:=Lib.hid (fun u=>r_belongs n d.1 u)
     obtain ⟨T,hT⟩ : ∃z,d.1=z:=⟨_,rfl⟩
     rw [hT] at HBL hst y1
     have HTT:=Lib.hid hT
     clear hb hc1 hc2 hd hT
     rcases hbel:belB n T with _ | _
     · rw [hbel] at HBL
       rw [if_pos hbel] at hst
       have HD:=Lib.hid (HG.out 4 hst (by decide) _ HR.out.2.1)
       clear hst hbel
       go_wp2_with (first
        | (go_at_call 48;((with_reducible refine (HBL.out _).mono ?_);rintro e w1 ⟨rfl,hw1⟩);(have hw2:=hw1.symm;clear hw1;subst hw2)))
       go_ret2
       exact HD.out
     rw [hbel] at HBL
     rw [if_neg (by rw [hbel];decide)] at hst
     have hTb:=belB_bd hbel
     have HBE2:=Lib.hid hbel
     obtain ⟨Tn,rfl⟩ : ∃Tn:Nat,T=(Tn:Int):=⟨T.toNat,by omega⟩
     have HST:=Lib.hid hst
     clear hst hbel
     go_wp2_with (first
      | (go_at_call 48;((with_reducible refine (HBL.out _).mono ?_);rintro e w1 ⟨rfl,hw1⟩);(have hw2:=hw1.symm;clear hw1;subst hw2)))
     obtain ⟨wo,hwo⟩ : ∃z,z=wr:=⟨_,rfl⟩
     subst hwo
     go_loopw [10] (fun i wk=>∃(k:Nat),k≤j∧i=.int .i64 (k:Int)∧Hid (wk=wo)∧Hid (∀q,q < k→∀e:Dtl,L[q]? = some e→e.1≠(Tn:Int))) (fun i _=>j - (intOf i).toNat)
     case atStart=>exact ⟨0,by omega,rfl,Lib.hid rfl,Lib.hid fun q hq=>by omega⟩
     case round =>
      obtain ⟨k,hk,rfl,hwk,HQ⟩:=hrel
      have hwk2:=hwk.out.symm
      clear hwk
      subst hwk2
      by_cases hlk:k < j
      · have dk : decide ((k : Int) < (j : Int)) = true := by simp; omega
        have hkm:k < m:=by omega
        obtain ⟨e,he⟩ : ∃e,L[k]? = some e:=⟨_,List.getElem?_eq_getElem (by rw [HS.out.2];exact hkm)⟩
        obtain ⟨b2,off2,e2,hb2,hc3,_⟩:=dcs_cell HS.out.1 he
        injection e2 with e2
        injection e2 with e3 e4
        subst e3 e4
        have y2:=(HR.out.2.1.cell (p:=⟨b,off+k*2,none⟩) hb2).trans hc3
        clear hb2 hc3
        obtain ⟨T2,hT2⟩ : ∃z,e.1=z:=⟨_,rfl⟩
        rw [hT2] at y2
        by_cases hq:T2=(Tn:Int)
        · have dq : (T2 == (Tn : Int)) = true := by simpa using hq
          have HD:=Lib.hid (HG.out 15 (HST.out.trans (if_pos (by rw [←hq,←hT2];exact List.mem_map.2 ⟨e,List.mem_of_getElem? (i:=k) (by rw [List.getElem?_take,if_pos hlk];exact he),rfl⟩))) (by decide) _ HR.out.2.1)
          clear he hT2 hq
          go_wp2_with fail
          go_ret2
          exact HD.out
        · have dq : (T2 == (Tn : Int)) = false := by simpa using hq
          have HN := Lib.hid (show ∀ q, q < k + 1 → ∀ e : Dtl, L[q]? = some e → e.1 ≠ (Tn : Int) from fun q hq2 e' he' => by
           by_cases h:q=k
           · subst h
             rw [he] at he'
             injection he' with he'
             subst he'
             rw [hT2]
             exact hq
           · exact HQ.out q (by omega) e' he')
          clear he hT2 hq
          go_wp2_with fail
          go_roundw
          case rel=>exact ⟨k+1,by omega,by first | rfl | go_num,Lib.hid (by first | rfl | trivial),HN⟩
          case measure=>simp [intOf];omega
      · obtain rfl : k = j := by omega
        have dk:decide ((k:Int) < (k:Int))=false:=by simp
        have hst : detE n L = if d.2.length < 1 ∨ 99 < d.2.length then 2 else dtE n ((L.take k).map Prod.fst ++ [d.1]) (L.drop (k + 1)) := by
         rw [HST.out,if_neg]
         · rw [HTT.out]
         · intro h
           obtain ⟨e,he,he2⟩:=List.mem_map.1 h
           obtain ⟨q,hq⟩:=List.getElem?_of_mem he
           rw [List.getElem?_take] at hq
           split at hq
           · exact HQ.out q (by assumption) e hq he2
           · cases hq
        have y3:=(HR.out.2.1.cell (p:=⟨b,off+k*2+1,none⟩) HHD.out.2.1).trans HHD.out.2.2
        obtain ⟨sv,hsv⟩ : ∃z,S d.2=z:=⟨_,rfl⟩
        rw [hsv] at y3
        obtain ⟨q,hq⟩ : ∃z,d.2.length=z:=⟨_,rfl⟩
        have hsz:sv.size=q:=by rw [←hsv,zao,hq]
        rw [hq] at hst
        have HQQ:=Lib.hid (show sv=S d.2∧d.2.length=q from ⟨hsv.symm,hq⟩)
        clear hsv hq HQ
        by_cases h1:q < 1
        · have d1 : decide ((q : Int) < 1) = true := by simp; omega
          rw [if_pos (.inl h1)] at hst
          have HD:=Lib.hid (HG.out 2 hst (by decide) _ HR.out.2.1)
          clear hst
          go_wp2_with fail
          go_ret2
          exact HD.out
        have d1:decide ((q:Int) < 1)=false:=by simp;omega
        by_cases h2:99 < q
        · have d2 : decide ((99 : Int) < (q : Int)) = true := by simp; omega
          rw [if_pos (.inr h2)] at hst
          have HD:=Lib.hid (HG.out 2 hst (by decide) _ HR.out.2.1)
          clear hst
          go_wp2_with fail
          go_ret2
          exact HD.out
        have d2:decide ((99:Int) < (q:Int))=false:=by simp;omega
        rw [if_neg (fun h=>h.elim h1 h2)] at hst
        have HTG := Lib.hid (show tgL (L.take (k + 1)) = tgL (L.take k) ++ [UInt8.ofNat (Tn / 256), UInt8.ofNat Tn] ∧ kidD (L.take (k + 1)) = (kidD (L.take k)).app (.cons (Tn : Int) d.2 .nil .nil) ∧ detE n L = dtE n ((L.take (k + 1)).map Prod.fst) (L.drop (k + 1)) ∧ DtOk n (L.take (k + 1)) from ⟨by
         rw [tgL_snoc HHD.out.1,HTT.out];rfl,by rw [kidD_snoc HHD.out.1,HTT.out],by rw [tags_snoc HHD.out.1];exact hst,HR.out.2.2.2.1.snoc HHD.out.1 (by rw [HTT.out];exact HBE2.out) (by rw [HQQ.out.2];omega)⟩)
        have HLN := Lib.hid (show (tgL (L.take k)).length ≤ 32 ∧ (kidD (L.take k)).len ≤ 16 from by
         rw [tgL_len,zfg,List.length_take]
         omega)
        have HRD:=Lib.hid HR.out.1
        obtain ⟨M,hM⟩ : ∃z,tgL (L.take k)=z:=⟨_,rfl⟩
        obtain ⟨fK,hfK⟩ : ∃z,kidD (L.take k)=z:=⟨_,rfl⟩
        rw [hM,hfK] at HTG
        rw [hM,hfK] at HLN HRD
        have HB0:=Lib.hid HR.out.2.1
        clear hst hM hfK HST HBL HR
        go_wp2_with (first
         | ((with_reducible refine zal (d:=65) ?_);go_must (refine wpList_binD rfl .shr 3 _ (.tmp 64) _ rfl rfl rfl (shr8 Tn (by omega) _ _ _) ?_))
         | ((with_reducible refine zal (d:=66) ?_);go_must (refine zbJ rfl 3 5 (.tmp 65) rfl rfl (zeL (Tn / 256) _) ?_))
         | ((with_reducible refine zal (d:=68) ?_);go_must (refine zbJ rfl 3 5 (.tmp 67) rfl rfl (zeL Tn _) ?_))
         | ((with_reducible refine zal (d:=69) ?_);go_must (refine zap rfl 27 5 2 _ rfl Tryz.underlying27 (pvv2 rfl rfl) (bsu2 _ _) ?_);intro g5 wf hf hr;have H5:=Lib.hid (show Below wo.heap.size wo wf∧RowV wf g5 (Us [UInt8.ofNat (Tn / 256),UInt8.ofNat Tn]) from ⟨hf.bw,hr⟩);clear hf hr)
         | ((with_reducible refine zaS (d:=70) ?_);go_must (refine wpList_append_lies _ rfl (.tmp 63) (.tmp 69) 27 rfl w.heap.size 5 i0 _ 1 1 Tryz.underlying27 hi hz0 hz1 hz2 rfl (by decide) u6 M.length (Us M) rfl (zaI HRD.out.bts H5.out.1) ⟨g5,0,none⟩ 2 2 (Us [UInt8.ofNat (Tn / 256),UInt8.ofNat Tn]) rfl rfl (RowV.src H5.out.2) (zcE _) (by decide) (by have:=HLN.out.1;unfold maxLen;omega) (by have:=HLN.out.1;omega) (Nat.le_trans HB0.out.size H5.out.1.size) _ rfl ?_);intro g6 c6 wg ho hg hl hlt6;have H6:=Lib.hid (show DtR w wg (.slice (some ⟨g6,0,none⟩) (M.length+2) c6) u7 (M++[UInt8.ofNat (Tn / 256),UInt8.ofNat Tn]) fK∧Below w.heap.size w wg from ⟨DtR.bytes HRD.out H5.out.1 rfl ho hg hl,zbo (zaf HB0.out H5.out.1) hg fun k2 e2=>(zas HRD.out.bts k2 e2).1⟩);have y4:wg.cell? ⟨b,off+k*2+1,none⟩=some (.string sv):=(by rw [HQQ.out.1];exact (H6.out.2.cell (p:=⟨b,off+k*2+1,none⟩) HHD.out.2.1).trans HHD.out.2.2);clear ho hg hl hlt6)
         | ((with_reducible refine zal (d:=78) ?_);obtain ⟨W5,cap5,z5,hcv,hex,hbl,hcp⟩:=ex_conv sv d.2 HQQ.out.1 wg;go_must (refine wpList_cvD rfl 9 27 (.tmp 77) rfl rfl hcv ?_);have H8:=Lib.hid (show Below wg.heap.size wg W5∧SeesP W5 (· < W5.heap.size) (some ⟨wg.heap.size,0,none⟩) (Us d.2) from ⟨hbl,ex_seesD hex⟩);clear hcv hex hbl hcp)
         | (go_at_call 39;((with_reducible refine (zcT (Tn:Int) d.2 q HQQ.out.2 (by omega) _ cap5 (fun h=>by cases h) _ H8.out.2).mono ?_);rintro e w9 ⟨A9,c9,rfl,hc,hs,hb⟩);have H9:=Lib.hid (show Below wg.heap.size wg w9∧SeesP w9 (newB wg w9) A9 (Us d.2)∧(A9=none→c9=0)∧d.2.length≤c9 from ⟨zaf H8.out.1 hb,hs.imp fun b hb2=>zaH hb2 H8.out.1.size (Nat.le_refl _),by rw [HQQ.out.2];exact hc⟩);clear hc hs hb)
         | ((with_reducible refine zal (d:=80) ?_);go_must (refine zap rfl 30 64 1 _ rfl Tryz.underlying30 (pe1 rfl) (bs1 _ _ _) ?_);intro g10 wb hf hr;have H10:=Lib.hid (show Below w9.heap.size w9 wb∧RowV wb g10 (nodV (Tn:Int) A9 q c9 none 0 0) from ⟨hf.bw,hr⟩);clear hf hr)
         | ((with_reducible refine zaS (d:=81) ?_);obtain ⟨cs,hc1,hc2⟩:=H6.out.1.cells;go_must (refine wpList_append_lies _ rfl (.tmp 71) (.tmp 80) 30 rfl w.heap.size 64 i1 _ 3 56 Tryz.underlying30 ni nz0 nz1 nz2 rfl (by decide) u7 fK.len cs rfl (zaI (zaI hc1 H9.out.1) H10.out.1) ⟨g10,0,none⟩ 1 1 (nodV (Tn:Int) A9 q c9 none 0 0) rfl rfl H10.out.2.src (zbK _ _ _ _ _ _ _) (by decide) (by have:=HLN.out.2;unfold maxLen;omega) (by have:=HLN.out.2;omega) (Nat.le_trans H6.out.2.size (Nat.le_trans H9.out.1.size H10.out.1.size)) _ rfl ?_);intro g11 c11 w11 ho hg hl hlt6;have H11:=Lib.hid (show DtR w w11 (.slice (some ⟨g6,0,none⟩) (M.length+2) c6) (.slice (some ⟨g11,0,none⟩) (fK.len+1) c11) (M++[UInt8.ofNat (Tn / 256),UInt8.ofNat Tn]) (fK.app (.cons (Tn:Int) d.2 .nil .nil))∧Below w.heap.size w w11 from ⟨DtR.node H6.out.1 H9.out.1 H10.out.1 ⟨H9.out.2.2.1,H9.out.2.2.2⟩ H9.out.2.1 H6.out.2.size cs ⟨hc1,hc2⟩ rfl (by rw [HQQ.out.2];exact ho) hg hl,zbo (zaf (zaf H6.out.2 H9.out.1) H10.out.1) hg fun k2 e2=>(zas hc1 k2 e2).1⟩);clear ho hg hl hlt6 hc1 hc2))
        go_roundw
        case rel=>exact ⟨k+1,by omega,by first | rfl | go_num,Lib.hid ⟨by rw [HTG.out.1,HTG.out.2.1];exact H11.out.1,H11.out.2,HTG.out.2.2.1,HTG.out.2.2.2,fun h=>by omega⟩⟩
        case measure=>simp [intOf];omega
   · obtain rfl : j = m := by omega
     have dj:decide ((j:Int) < (j:Int))=false:=by simp
     have htk:L.take j=L:=List.take_of_length_le (by rw [HS.out.2];exact Nat.le_refl _)
     obtain ⟨h1,h2,h3,h4,h5⟩:=HR.out
     rw [htk] at h1 h3 h4
     rw [List.drop_eq_nil_of_le (by rw [HS.out.2];exact Nat.le_refl _)] at h3
     have h3:detE n L=0:=h3
     have hok:=deF_ok h4 (by rw [HS.out.2];exact hm16)
     have e1:dsB n L=wrB n (deF L):=by unfold dsB;rw [if_pos h3]
     have e2:dsE n L=wrE n (deF L):=by unfold dsE;rw [if_pos h3]
     have hlen : (deF L).len = 1 + j := by
      show (kidD L).len+1=1+j
      rw [zfg,HS.out.2]
      omega
     have hsize : (deF L).size < 1125899906842620 := by
      show 0+(kidD L).size+1 < _
      rw [kidD_size,HS.out.2]
      omega
     have HW := Lib.hid (show ∀ (X : Option Addr) (cx : Nat) (u : World), Below w.heap.size w u → SeesQ u (· < u.heap.size) X (deF L) → Calls Tryz.prog 25 #[.int .i64 n, .slice X (1 + j) cx] u (zaU u bs er) from fun X cx u hb hx => by
      rw [←HBE.out.1,←HBE.out.2,e1,e2]
      exact zgG n (deF L) (1+j) hlen X cx u (HT.out.on hb) HLO.out.1 HLO.out.2.1 hsize hok.1 hok.2 hx)
     obtain ⟨tl,htl⟩ : ∃z,tgL L=z:=⟨_,rfl⟩
     obtain ⟨kd,hkd⟩ : ∃z,kidD L=z:=⟨_,rfl⟩
     have HDF:Hid (deF L=.cons 92 tl .nil kd):=Lib.hid (by unfold deF;rw [htl,hkd])
     have htn:tl.length=2*j:=by rw [←htl,tgL_len,HS.out.2]
     have hkn:kd.len=j:=by rw [←hkd,zfg,HS.out.2]
     rw [htl,hkd] at h1
     have h1b:=h1.bts
     rw [htn] at h1b
     obtain ⟨A6,c6,hv6,hc6,hs6⟩:=zde h1b
     obtain ⟨cs,hcs,hhs⟩:=h1.cells
     rw [hkn] at hcs
     have HC:=Lib.hid (show SeesP wr (· < wr.heap.size) A6 (Us tl)∧(A6=none→c6=0)∧tl.length=2*j∧wr.ownsRow w.heap.size 64 3 u7 j cs∧HoldsN wr (fun b=>newB w wr b∧(u7.ownBlock≠some b∧u6.ownBlock≠some b)) kd cs∧Below w.heap.size w wr from ⟨hs6.imp zdD,hc6.1,htn,hcs,hhs,h2⟩)
     have HNZ:=Lib.hid h5
     have HLX:=Lib.hid (show 2*j≤32 from by omega)
     have HU7 := Lib.hid (show ∃ A7 c7, u7 = .slice A7 j c7 ∧ (0 < j → ∃ g7, A7 = some ⟨g7, 0, none⟩ ∧ wr.rangeAt g7 0 cs ∧ g7 < wr.heap.size) from by
      rcases hcs.2 with ⟨e,h0⟩ | ⟨g7,c7,cur,e,_,hh,_,_,_,ht7⟩
      · exact ⟨none,0,by rw [e,h0],fun h=>by omega⟩
      · refine ⟨_, c7, e, fun _ => ⟨g7, rfl, fun i x hx => ?_, lt_of_block hh⟩⟩
        have hi:=(List.getElem?_eq_some_iff.1 hx).1
        have hl:=hcs.1
        rw [Nat.zero_add,cell_of_row wr g7 i cur _ (0,0) hh,←hx,←ht7,List.getElem?_take,if_pos (by omega),Array.getElem?_toList])
     subst hv6
     clear h1 h2 h3 h4 h5 hok e1 e2 hlen hsize htl hkd htn hkn h1b hc6 hs6 hcs hhs htk HR HG HDET
     by_cases hj0:j=0
     · have e7 := HNZ.out hj0
       subst e7
       subst hj0
       go_wp2_with (first
        | (go_at_call 39;((with_reducible refine (zcT 92 tl (2*0) HC.out.2.2.1 (by have:=HLX.out;omega) A6 c6 HC.out.2.1 _ HC.out.1).mono ?_);rintro e w1 ⟨A1,c1,rfl,hc,hs,hb⟩);have H1:=Lib.hid (show Below wr.heap.size wr w1∧SeesP w1 (newB wr w1) A1 (Us tl)∧(A1=none→c1=0)∧tl.length≤c1 from ⟨hb,hs,by rw [HC.out.2.2.1];exact hc⟩);clear hc hs hb)
        | ((with_reducible refine zal (d:=85) ?_);go_must (refine zgf rfl 30 64 1 _ rfl Tryz.underlying30 (pe1 rfl) (bs1 _ _ _) 3 rfl (by unfold maxLen;decide) ?_);intro g2 w2 hf hr;have H2:=Lib.hid (show Below w1.heap.size w1 w2∧w1.heap.size≤g2∧w2.ownsRow w1.heap.size 64 3 (.slice (some ⟨g2,0,none⟩) 1 1) 1 (nodV 92 A1 (2*0) c1 none 0 0) from ⟨hf.bw,Nat.le_of_eq hf.1.symm,hr⟩);clear hf hr)
        | ((with_reducible refine zaS (d:=87) ?_);go_must (refine wpList_append_own_none rfl (.tmp 85) (.tmp 86) 30 rfl w1.heap.size 64 i1 3 Tryz.underlying30 ni _ 1 (nodV 92 A1 (2*0) c1 none 0 0) rfl H2.out.2.2 rfl ?_);have H3:=Lib.hid (show Below w.heap.size w w2∧SeesQ w2 (· < w2.heap.size) (some ⟨g2,0,none⟩) (deF L) from ⟨zaf (zaf HC.out.2.2.2.2.2 H1.out.1) H2.out.1,by rw [HDF.out];exact (ds_close (cs:=cs) HC.out.2.2.2.2.1 H1.out.1 H1.out.2.1 H1.out.2.2 H2.out.1 H2.out.2.1 (World.grownBy.refl _ _) (by have e:cs=[]:=List.eq_nil_of_length_eq_zero (by have:=HC.out.2.2.2.1.1;omega);rw [e,HC.out.2.2.1];exact H2.out.2.2)).qD⟩))
        | (go_at_call 25;((with_reducible refine (HW.out _ _ _ H3.out.1 H3.out.2).mono ?_);rintro e w7 ⟨A9,c9,rfl,h1,h2,h3⟩);have H7:=Lib.hid (show _∧_∧_ from ⟨h1,h2,h3⟩);clear h1 h2 h3))
       have HD:=Lib.hid (show zaU w bs er (.returned (.tuple #[.slice A9 bs.length c9,.int .i64 er])) w7 from ⟨A9,c9,rfl,H7.out.1.imp fun b hb=>⟨Nat.le_trans H3.out.1.size hb.1,hb.2⟩,zaf H3.out.1 H7.out.2.1,H7.out.2.2⟩)
       go_ret2
       exact HD.out
     · obtain ⟨A7, c7, e7, h7⟩ := HU7.out
       obtain ⟨g7,rfl,hr7,hl7⟩:=h7 (by omega)
       subst e7
       have H7R:=Lib.hid (show _∧_ from ⟨hr7,hl7⟩)
       clear h7 hr7 hl7
       go_wp2_with (first
        | (go_at_call 39;((with_reducible refine (zcT 92 tl (2*j) HC.out.2.2.1 (by have:=HLX.out;omega) A6 c6 HC.out.2.1 _ HC.out.1).mono ?_);rintro e w1 ⟨A1,c1,rfl,hc,hs,hb⟩);have H1:=Lib.hid (show Below wr.heap.size wr w1∧SeesP w1 (newB wr w1) A1 (Us tl)∧(A1=none→c1=0)∧tl.length≤c1 from ⟨hb,hs,by rw [HC.out.2.2.1];exact hc⟩);clear hc hs hb)
        | ((with_reducible refine zal (d:=85) ?_);go_must (refine zgf rfl 30 64 1 _ rfl Tryz.underlying30 (pe1 rfl) (bs1 _ _ _) 3 rfl (by unfold maxLen;decide) ?_);intro g2 w2 hf hr;have H2:=Lib.hid (show Below w1.heap.size w1 w2∧w1.heap.size≤g2∧w2.ownsRow w1.heap.size 64 3 (.slice (some ⟨g2,0,none⟩) 1 1) 1 (nodV 92 A1 (2*j) c1 none 0 0) from ⟨hf.bw,Nat.le_of_eq hf.1.symm,hr⟩);clear hf hr)
        | ((with_reducible refine zaS (d:=87) ?_);go_loud (refine wpList_append_lies _ rfl (.tmp 85) (.tmp 86) 30 rfl w1.heap.size 64 i1 _ 3 56 Tryz.underlying30 ni nz0 nz1 nz2 rfl (by decide) _ 1 (nodV 92 A1 (2*j) c1 none 0 0) rfl H2.out.2.2 ⟨g7,0,none⟩ j c7 cs rfl HC.out.2.2.2.1.1 (RowS15 (zbY (zbY H7R.out.1 H7R.out.2 H1.out.1) (Nat.lt_of_lt_of_le H7R.out.2 H1.out.1.size) H2.out.1)) (HoldsN.one15 HC.out.2.2.2.2.1) (by omega) (by unfold maxLen;omega) (by omega) H2.out.1.size _ rfl ?_);intro g3 c3 w3 ho hg hl hlt6;go_loud (have H3:=Lib.hid (show Below w.heap.size w w3∧SeesQ w3 (· < w3.heap.size) (some ⟨g3,0,none⟩) (deF L) from ⟨zbo (zaf (zaf HC.out.2.2.2.2.2 H1.out.1) H2.out.1) hg (fun k2 e2=>by injection e2 with e2;have h8:=HC.out.2.2.2.2.2.size;have h9:=H1.out.1.size;have h10:=H2.out.2.1;simp only at e2;omega),by rw [HDF.out];exact (ds_close (g5:=g2) HC.out.2.2.2.2.1 H1.out.1 H1.out.2.1 H1.out.2.2 H2.out.1 H2.out.2.1 hg (by rw [HC.out.2.2.1];exact ho)).qD⟩);clear ho hg hl hlt6))
        | (go_at_call 25;((with_reducible refine (HW.out _ _ _ H3.out.1 H3.out.2).mono ?_);rintro e w7 ⟨A9,c9,rfl,h1,h2,h3⟩);have H7:=Lib.hid (show _∧_∧_ from ⟨h1,h2,h3⟩);clear h1 h2 h3))
       have HD:=Lib.hid (show zaU w bs er (.returned (.tuple #[.slice A9 bs.length c9,.int .i64 er])) w7 from ⟨A9,c9,rfl,H7.out.1.imp fun b hb=>⟨Nat.le_trans H3.out.1.size hb.1,hb.2⟩,zaf H3.out.1 H7.out.2.1,H7.out.2.2⟩)
       go_ret2
       exact HD.out
end Go.Proofs.YtnlhbknajdpnbaaGreatDoor
