/-
  What is proved here: what the program's list returns, where object returns what it should; Values and Kids lie within their capacities.
-/
import Derived.Test.YtnlhbknajdpnbaaGreatDoorRows
import Derived.Test.YtnlhbknajdpnbaaGreatDoorF0
import Derived.Test.YtnlhbknajdpnbaaGreatDoorF5
import Derived.Test.YtnlhbknajdpnbaaGreatDoorF6
import Derived.Test.YtnlhbknajdpnbaaGreatDoorF8
set_option linter.unusedVariables false
set_option linter.unusedSimpArgs false
namespace Go.Proofs.YtnlhbknajdpnbaaGreatDoor
open Go.RowKit
set_option maxRecDepth 8000
def SeesC (w:World) (p:Nat→Prop) (A:Option Addr) (c:Nat) (f:F):Prop:=f.len≤c∧SeesN w p A f
theorem SeesC.keep {w w':World} {p:Nat→Prop} {A:Option Addr} {c:Nat} {f:F} (h:SeesC w p A c f) (hk:∀q:Addr,p q.block→w'.cell? q=w.cell? q):SeesC w' p A c f:=⟨h.1,h.2.keep hk⟩
theorem SeesC.imp {w:World} {p p':Nat→Prop} {A:Option Addr} {c:Nat} {f:F} (h:SeesC w p A c f) (hp:∀b,p b→p' b):SeesC w p' A c f:=⟨h.1,h.2.imp hp⟩
theorem SeesC.nil_ {w:World} {p:Nat→Prop} {A:Option Addr}:SeesC w p A 0 .nil:=⟨Nat.le_refl _,SeesN.nil_⟩
def zdq (w : World) (R : Nat) (p : Nat → Prop) (st : Bool) (r : Except Int ObR) (e : Ending) (w' : World) : Prop :=
 w.grownBy w' (some R)∧match r with
 | .error x=>∃(t:Int) (A1:Option Addr) (n1 c1:Nat) (A2:Option Addr) (n2 c2:Nat) (A:Option Addr) (n m c':Nat),e=.returned (.tuple #[.agg #[.int .i64 t,.slice A1 n1 c1,.slice A2 n2 c2],.slice A n m,.int .i64 x])∧x≠0∧Rd w' R st c'
 | .ok (t, v, k, rest, c') => ∃ Av cv Ak ck Ar cr, e = .returned (.tuple #[.agg #[.int .i64 t, .slice Av v.length cv, .slice Ak k.len ck], .slice Ar rest.length cr, .int .i64 0]) ∧
  Rd w' R st c'∧((Av=none→cv=0)∧v.length≤cv)∧SeesP w' (newB w w') Av (Us v)∧SeesC w' (newB w w') Ak ck k∧SeesP w' p Ar (Us rest)∧rest.length≤cr
def zga (w : World) (R : Nat) (st : Bool) (r : Except Int (F × Nat)) (e : Ending) (w' : World) : Prop :=
 w.grownBy w' (some R)∧match r with
 | .error x=>e=.returned (.tuple #[.slice none 0 0,.int .i64 x])∧x≠0∧∃c',Rd w' R st c'
 | .ok (f,c')=>∃A c,e=.returned (.tuple #[.slice A f.len c,.int .i64 0])∧Rd w' R st c'∧SeesC w' (newB w w') A c f
def zfT (w : World) (R : Nat) (p : Nat → Prop) (st : Bool) (r : Except Int (F × List UInt8 × Nat)) (e : Ending) (w' : World) : Prop :=
 w.grownBy w' (some R)∧match r with
 | .error x=>e=.returned (.tuple #[.slice none 0 0,.slice none 0 0,.int .i64 x])∧x≠0∧∃c',Rd w' R st c'
 | .ok (f,rest,c')=>∃A c Ar cr,e=.returned (.tuple #[.slice A f.len c,.slice Ar rest.length cr,.int .i64 0])∧Rd w' R st c'∧SeesC w' (newB w w') A c f∧SeesP w' p Ar (Us rest)∧rest.length≤cr
def ObjAllC (st : Bool) (k : Nat) : Prop := ∀ (c : Nat) (l : List UInt8) (A : Option Addr) (cap : Nat) (w : World) (R : Nat) (p : Nat → Prop), (∀ x, p x → oldB w R x) → c ≤ 256 → l.length ≤ 4096 → l.length ≤ cap → Rd w R st c → SeesP w p A (Us l) →
 Calls Tryz.prog 83 #[.pointer (some ⟨R,0,none⟩),.slice A l.length cap,.int .i64 (9 - (k:Int))] w (zdq w R p st (pObj st k c l))
def ListAllC (st : Bool) (k : Nat) : Prop := ∀ (c : Nat) (l : List UInt8) (A : Option Addr) (cap : Nat) (w : World) (R : Nat), c ≤ 256 → l.length ≤ 4096 → l.length ≤ cap → Rd w R st c → SeesP w (oldB w R) A (Us l) →
 Calls Tryz.prog 62 #[.pointer (some ⟨R,0,none⟩),.slice A l.length cap,.int .i64 (9 - (k:Int))] w (zga w R st (zbH (pObj st k) l.length c l))
def MarkAllC (st : Bool) (k : Nat) : Prop := ∀ (c : Nat) (l : List UInt8) (A : Option Addr) (cap : Nat) (w : World) (R : Nat) (p : Nat → Prop), (∀ x, p x → oldB w R x) → c ≤ 256 → l.length ≤ 4096 → l.length ≤ cap → Rd w R st c → SeesP w p A (Us l) →
 Calls Tryz.prog 105 #[.pointer (some ⟨R,0,none⟩),.slice A l.length cap,.int .i64 (9 - (k:Int))] w (zfT w R p st (zbF (pObj st k) l.length c l))
def HeldC (w wr:World) (v:Value) (f:F):Prop:=∃cs,wr.ownsRow w.heap.size 64 3 v f.len cs∧HoldsN wr (fun b=>newB w wr b∧v.ownBlock≠some b) f cs
theorem HeldC.start (w wr:World):HeldC w wr (.slice none 0 0) .nil:=⟨[],⟨rfl,.inl ⟨rfl,rfl⟩⟩,rfl⟩
theorem HeldC.grown {w wr w' : World} {R : Nat} {v : Value} {f : F} (h : HeldC w wr v f) (hR : R < w.heap.size) (hg : wr.grownBy w' (some R)) : HeldC w w' v f := by
 obtain ⟨cs,h1,h2⟩:=h
 refine ⟨cs,zbm h1 hg ?_,?_⟩
 · rcases zbP h1 with e | ⟨g, e, hb, _⟩
   · rw [e];simp
   · rw [e];intro h;injection h with h;omega
 · refine HoldsN.imp (fun _ hb=>⟨⟨hb.1.1,Nat.lt_of_lt_of_le hb.1.2 hg.size⟩,hb.2⟩) (HoldsN.keep (fun _ hq=>zau hg hq.1.2 (by have:=hq.1.1;omega)) h2)
theorem HeldC.slice {w wr : World} {v : Value} {f : F} (h : HeldC w wr v f) : ∃ A c, v = .slice A f.len c ∧ SeesC wr (newB w wr) A c f := by
 obtain ⟨cs,h1,h2⟩:=h
 rcases h1.2 with ⟨rfl,h0⟩ | ⟨g,cap,cur,rfl,hb,hh,hn,hm,hs,ht⟩
 · have : f = .nil := F.len_zero h0
   subst this
   exact ⟨none,0,rfl,SeesC.nil_⟩
 · refine ⟨_, cap, rfl, hn, cs, .inr ⟨g, 0, rfl, ⟨hb, lt_of_block hh⟩, fun j hj => ?_⟩, HoldsN.imp (fun _ hb => hb.1) h2⟩
   have hl:=h1.1
   rw [Nat.zero_add,cell_of_row wr g j cur _ (0,0) hh,←ht,List.getElem?_take,if_pos (by omega),Array.getElem?_toList]
theorem HeldC.carry {w wr w' : World} {R : Nat} {v : Value} {f : F} {cs : List Value} (hR : R < w.heap.size) (hg : wr.grownBy w' (some R)) (h1 : wr.ownsRow w.heap.size 64 3 v f.len cs) (h2 : HoldsN wr (fun b => newB w wr b ∧ v.ownBlock ≠ some b) f cs) :
 w'.ownsRow w.heap.size 64 3 v f.len cs∧HoldsN w' (fun b=>newB w wr b∧v.ownBlock≠some b) f cs:=by
 refine ⟨zbm h1 hg ?_,HoldsN.keep (fun _ hq=>zau hg hq.1.2 (by have:=hq.1.1;omega)) h2⟩
 rcases zbP h1 with e | ⟨g,e,hb,_⟩
 · rw [e];simp
 · rw [e];intro h;injection h with h;omega
theorem HeldC.snoc {w wr w1 wa w2 : World} {v : Value} {f : F} {t : Int} {x : List UInt8} {k : F} {Av Ak : Option Addr} {cv ck g cap : Nat} (h01 : wr.heap.size ≤ w1.heap.size) (ha : Below w1.heap.size w1 wa)
 (hn0:(Av=none→cv=0)∧x.length≤cv) (hv:SeesP w1 (newB wr w1) Av (Us x)) (hk:SeesC w1 (newB wr w1) Ak ck k) (hww:w.heap.size≤wr.heap.size)
 (hold:v.ownBlock=none∨∃g,v.ownBlock=some g∧w.heap.size≤g∧g < wr.heap.size) (cs:List Value) (hc2:HoldsN w1 (fun b=>newB w wr b∧v.ownBlock≠some b) f cs)
 (ho:w2.ownsRow w.heap.size 64 3 (.slice (some ⟨g,0,none⟩) (f.len+1) cap) (f.len+1) (cs++[.int .i64 t,.slice Av x.length cv,.slice Ak k.len ck])) (hg:wa.grownBy w2 v.ownBlock)
 (hl:v.ownBlock=some g∨g=wa.heap.size):HeldC w w2 (.slice (some ⟨g,0,none⟩) (f.len+1) cap) (f.app (.cons t x k .nil)):=by
 have keep : ∀ q : Addr, q.block < w1.heap.size → v.ownBlock ≠ some q.block → w2.cell? q = w1.cell? q := fun q h1 h2 =>
  (World.cell?_of_block (w:=wa) (hg.block q.block (Nat.lt_of_lt_of_le h1 ha.size) (fun e=>h2 e.symm))).trans (ha.cell h1)
 have hsz:w1.heap.size≤w2.heap.size:=Nat.le_trans ha.size hg.size
 have hwa:=ha.size
 refine ⟨_,by rw [F.len_app];exact ho,HoldsN.app ?_ ?_⟩
 · refine HoldsN.imp ?_ (HoldsN.keep (w' := w2) (fun q hq => keep q (Nat.lt_of_lt_of_le hq.1.2 h01) hq.2) hc2)
   intro b hb
   have h4:=hb.1.2
   refine ⟨⟨hb.1.1,by omega⟩,?_⟩
   intro e
   injection e with e
   simp only at e
   rcases hl with h3 | h3
   · exact hb.2 (h3.trans (by rw [e]))
   · omega
 · have hp : ∀ b, newB wr w1 b → newB w w2 b ∧ (Value.slice (some ⟨g, 0, none⟩) (f.len + 1) cap).ownBlock ≠ some b := by
    intro b hb
    have h5:=hb.1
    have h6:=hb.2
    refine ⟨⟨by omega,by omega⟩,?_⟩
    intro e
    injection e with e
    simp only at e
    rcases hl with h3 | h3
    · rcases hold with h4 | ⟨g2, h4, _, h7⟩
      · rw [h4] at h3;cases h3
      · rw [h4] at h3;injection h3 with h3;omega
    · omega
   have kp : ∀ q : Addr, newB wr w1 q.block → w2.cell? q = w1.cell? q := by
    intro q hq
    refine keep q hq.2 ?_
    have h5:=hq.1
    rcases hold with h4 | ⟨g2,h4,_,h7⟩
    · rw [h4];simp
    · rw [h4];intro e;injection e with e;omega
   obtain ⟨hk0,ks,hk1,hk2⟩:=hk
   exact ⟨Av,cv,Ak,ck,ks,[],rfl,⟨hn0.1,hn0.2,hk0⟩,(hv.keep kp).imp hp,(hk1.keep kp).imp hp,HoldsN.imp hp (HoldsN.keep kp hk2),rfl⟩
def LstRelC (w : World) (R : Nat) (st : Bool) (ob : Nat → List UInt8 → Except Int ObR) (res : Except Int (F × Nat)) (v : Value) (acc : F) (A : Option Addr) (b : List UInt8) (m c : Nat) (wr : World) : Prop :=
 HeldC w wr v acc∧SeesP wr (oldB w R) A (Us b)∧Rd wr R st c∧c≤256∧w.grownBy wr (some R)∧b.length≤m∧joinL acc (zbH ob m c b)=res
set_option maxHeartbeats 1000000 in
theorem rd_listC (st : Bool) (k : Nat) (hO : ObjAllC st k) : ListAllC st k := by
 intro c l A cap w R hc hl hcap hr hs
 obtain ⟨i0,hi,hz0,hz1,hz2⟩:=info_parts zcq
 have hR:=lt_of_block hr
 have HO:=Lib.hid hO
 have H0:=Lib.hid (show LstRelC w R st (pObj st k) (zbH (pObj st k) l.length c l) (.slice none 0 0) .nil A l l.length c w from ⟨HeldC.start w w,hs,hr,hc,World.grownBy.refl _ _,Nat.le_refl _,joinL_nil _⟩)
 clear hr hs hO
 go_enter Tryz.func62,Tryz.ntmps62
 go_wp2_with fail
 go_loopw [8,1] (fun v q wr=>∃(acc:F) (Ab:Option Addr) (cb:Nat) (b:List UInt8) (m cN:Nat),q=.slice Ab b.length cb∧acc.len+b.length≤4096∧b.length≤cb∧Hid (LstRelC w R st (pObj st k) (zbH (pObj st k) l.length c l) v acc Ab b m cN wr)) (fun _ q _=>lenOf q)
 case atStart=>exact ⟨.nil,A,cap,l,l.length,c,rfl,by simp only [F.len];omega,hcap,H0⟩
 case round =>
  clear H0
  obtain ⟨acc,Ab,cb,b,m,cN,rfl,hlen,hcb,HL⟩:=hrel
  cases b with
  | nil =>
    obtain ⟨h1,_,h3,_,h5,_,h7⟩:=HL.out
    obtain ⟨A2,c2,hv,hs2⟩:=h1.slice
    subst hv
    have hd : zga w R st (zbH (pObj st k) l.length c l) (.returned (.tuple #[.slice A2 acc.len c2, .int .i64 0])) wr := by
     rw [←h7,zfw]
     refine ⟨h5,A2,c2,?_,h3,?_⟩
     · rw [F.app_nil]
     · rw [F.app_nil];exact hs2
    have HD:=Lib.hid hd
    clear hd h1 h3 h5 h7 hs2 HL
    go_wp2_with fail
    go_ret2
    exact HD.out
  | cons a b =>
    have d0:decide ((0:Int) < ((a::b).length:Int))=true:=by simp
    obtain ⟨B,hB⟩ : ∃B,B=a::b:=⟨_,rfl⟩
    have hB0:0 < B.length:=by rw [hB];simp
    rw [←hB] at HL hlen d0 hcb ⊢
    have HB:=Lib.hid (show B≠[] by rw [hB];simp)
    clear hB
    have hc2:=HO.out cN B Ab cb wr R (oldB w R) (fun x hx=>⟨Nat.lt_of_lt_of_le hx.1 HL.out.2.2.2.2.1.size,hx.2⟩) HL.out.2.2.2.1 (by omega) hcb HL.out.2.2.1 HL.out.2.1
    go_wp2_with fail
    refine hc2.mono ?_
    rintro e w1 ⟨hg,hres⟩
    obtain ⟨m',rfl⟩ : ∃m',m=m'+1:=⟨m - 1,by have:=HL.out.2.2.2.2.2.1;omega⟩
    obtain ⟨r,hr⟩ : ∃r,pObj st k cN B=r:=⟨_,rfl⟩
    rw [hr] at hres
    have HJ:=Lib.hid HL.out.2.2.2.2.2.2
    have HG:=Lib.hid (zae HL.out.2.2.2.2.1 hg)
    have HH:=Lib.hid (HL.out.1.grown hR hg)
    cases r with
    | error x =>
      obtain ⟨t,A1,n1,c1,A2,n2,c2,A3,n3,m3,c',rfl,hx,hrd⟩:=hres
      have hstep:=loopL_err (m:=m') HB.out hr
      have hd : ∀ o, zga w R st (zbH (pObj st k) l.length c l) (.returned (.tuple #[.slice none 0 0, .int .i64 x])) (w1.alloc o) := fun o => by
       rw [←HJ.out,hstep]
       exact ⟨zae HG.out (zaB _ o _),rfl,hx,c',zaw hrd o⟩
      have HD:=Lib.hid hd
      have d1:(x != 0)=true:=by simpa using hx
      clear hd hx hrd hstep HJ hr HH HL hg hc2
      go_wp2_with fail
      go_ret2
      exact HD.out _
    | ok q =>
      obtain ⟨t,v,kf,rest,c'⟩:=q
      obtain ⟨Av,cv,Ak,ck,Ar,cr,rfl,hrd,hn0,hv,hkf,hrest,hcr⟩:=hres
      have hstep:=loopL_ok (m:=m') HB.out hr
      have hrl:=zcb st k cN B t v kf rest c' hr
      obtain ⟨cs,hown0,hh0⟩:=HL.out.1
      obtain ⟨hown,hh⟩:=HeldC.carry hR hg hown0 hh0
      have HW:=Lib.hid (zbP hown0)
      have HN:=Lib.hid (show Rd w1 R st c'∧((Av=none→cv=0)∧v.length≤cv)∧SeesP w1 (newB wr w1) Av (Us v)∧SeesC w1 (newB wr w1) Ak ck kf∧SeesP w1 (oldB w R) Ar (Us rest)∧c'≤256 from ⟨hrd,hn0,hv,hkf,hrest,hrl.2⟩)
      have hrl2:=hrl.1
      have HHH:=Lib.hid hh
      have HST:=Lib.hid hstep
      clear hrd hn0 hv hkf hrest hstep hr hh hrl hc2 hown0 hh0
      go_wp2_with (at_builtin;refine wpList_append_lies _ rfl (.tmp 26) (.tmp 28) 30 rfl w.heap.size 64 i0 _ 3 56 Tryz.underlying30 hi hz0 hz1 hz2 rfl (by decide) u8 acc.len cs rfl ((hown.alloc _).alloc _) ⟨_,0,none⟩ 1 1 _ rfl rfl (World.news_of_block (zdz w1 _ _)) (zbW _ _ _ _ _ _ _) (by decide) (by unfold maxLen;omega) (by omega) (by have:=HG.out.size;simp;omega) _ rfl ?_;intro g cap2 w2 ho hg2 hl2 _)
      have hb2:Below w1.heap.size w1 _:=((Below.refl w1.heap.size w1).alloc (Nat.le_refl _) (.cells #[.int .i64 t,.slice Av v.length cv,.slice Ak kf.len ck] 64)).alloc (by simp) (.cells #[.int .i64 t,.slice Av v.length cv,.slice Ak kf.len ck] 64)
      have hsn:=HeldC.snoc hg.size hb2 HN.out.2.1 HN.out.2.2.1 HN.out.2.2.2.1 HL.out.2.2.2.2.1.size HW.out cs HHH.out ho hg2 hl2
      have hrow : Rd w2 R st c' := by
       have h1:Rd _ R st c':=zaw (zaw HN.out.1 (.cells #[.int .i64 t,.slice Av v.length cv,.slice Ak kf.len ck] 64)) (.cells #[.int .i64 t,.slice Av v.length cv,.slice Ak kf.len ck] 64)
       refine (hg2.block R (lt_of_block h1) ?_).trans h1
       rcases HW.out with h4 | ⟨g2,h4,h5,_⟩
       · rw [h4];simp
       · rw [h4];intro e;injection e with e;omega
      have hgw : w.grownBy w2 (some R) := by
       have h1:=HG.out
       refine ⟨hg2.os.trans (hb2.os.trans h1.os),hg2.tape.trans (hb2.tape.trans h1.tape),hg2.output.trans (hb2.output.trans h1.output),Nat.le_trans h1.size (Nat.le_trans hb2.size hg2.size),fun j hj hj2=>?_⟩
       refine (hg2.block j (Nat.lt_of_lt_of_le hj (Nat.le_trans h1.size hb2.size)) ?_).trans ((hb2.block j (Nat.lt_of_lt_of_le hj h1.size)).trans (h1.block j hj hj2))
       rcases HW.out with h4 | ⟨g2,h4,h5,_⟩
       · rw [h4];simp
       · rw [h4];intro e;injection e with e;omega
      have hbytes : SeesP w2 (oldB w R) Ar (Us rest) := by
       refine HN.out.2.2.2.2.1.keep fun q hq=>?_
       have h6:q.block < w1.heap.size:=Nat.lt_of_lt_of_le hq.1 HG.out.size
       refine (World.cell?_of_block (hg2.block q.block (Nat.lt_of_lt_of_le h6 hb2.size) ?_)).trans (hb2.cell h6)
       have h7:=hq.1
       rcases HW.out with h4 | ⟨g2,h4,h5,_⟩
       · rw [h4];simp
       · rw [h4];intro e;injection e with e;omega
      have HF:=Lib.hid (show LstRelC w R st (pObj st k) (zbH (pObj st k) l.length c l) _ _ Ar rest m' c' w2 from ⟨hsn,hbytes,hrow,HN.out.2.2.2.2.2,hgw,by have:=HL.out.2.2.2.2.2.1;omega,by rw [←HJ.out,HST.out,joinL_join]⟩)
      clear hb2 hsn hrow hgw hbytes ho hg2 hl2
      go_roundw
      case rel=>exact ⟨_,Ar,cr,rest,m',c',rfl,by rw [F.len_app];simp only [F.len];omega,hcr,HF⟩
      case measure=>simp only [lenOf];omega
end Go.Proofs.YtnlhbknajdpnbaaGreatDoor
namespace Go.Proofs.YtnlhbknajdpnbaaGreatDoor
open Go.RowKit
set_option maxRecDepth 8000
def MrkRelC (w : World) (R : Nat) (p : Nat → Prop) (st : Bool) (ob : Nat → List UInt8 → Except Int ObR) (res : Except Int (F × List UInt8 × Nat)) (v : Value) (acc : F) (A : Option Addr) (b : List UInt8) (m c : Nat) (wr : World) : Prop :=
 HeldC w wr v acc∧SeesP wr p A (Us b)∧Rd wr R st c∧c≤256∧w.grownBy wr (some R)∧b.length≤m∧zfe acc (zbF ob m c b)=res
set_option maxHeartbeats 1000000 in
theorem rd_markC (st : Bool) (k : Nat) (hO : ObjAllC st k) : MarkAllC st k := by
 intro c l A cap w R p hp hc hl hcap hr hs
 obtain ⟨i0,hi,hz0,hz1,hz2⟩:=info_parts zcq
 have hR:=lt_of_block hr
 have HO:=Lib.hid hO
 have H0:=Lib.hid (show MrkRelC w R p st (pObj st k) (zbF (pObj st k) l.length c l) (.slice none 0 0) .nil A l l.length c w from ⟨HeldC.start w w,hs,hr,hc,World.grownBy.refl _ _,Nat.le_refl _,joinM_nil _⟩)
 clear hr hs hO
 go_enter Tryz.func105,Tryz.ntmps105
 go_wp2_with fail
 go_loopw [9,1] (fun v q wr=>∃(acc:F) (Ab:Option Addr) (cb:Nat) (b:List UInt8) (m cN:Nat),q=.slice Ab b.length cb∧acc.len+b.length≤4096∧b.length≤cb∧Hid (MrkRelC w R p st (pObj st k) (zbF (pObj st k) l.length c l) v acc Ab b m cN wr)) (fun _ q _=>lenOf q)
 case atStart=>exact ⟨.nil,A,cap,l,l.length,c,rfl,by simp only [F.len];omega,hcap,H0⟩
 case round =>
  clear H0
  obtain ⟨acc,Ab,cb,b,m,cN,rfl,hlen,hcb,HL⟩:=hrel
  by_cases h2:b.length < 2
  · have hd : zfT w R p st (zbF (pObj st k) l.length c l) (.returned (.tuple #[.slice none 0 0, .slice none 0 0, .int .i64 6])) wr := by
     obtain ⟨_,_,h3,_,h5,_,h7⟩:=HL.out
     rw [←h7,zfV h2]
     exact ⟨h5,rfl,by decide,_,h3⟩
    have HD:=Lib.hid hd
    have d0:decide ((b.length:Int) < 2)=true:=by simp;omega
    clear hd HL h2
    go_wp2_with fail
    go_ret3
    exact HD.out
  · obtain ⟨B, rfl⟩ : ∃ B, b = B := ⟨_, rfl⟩
    have d0:decide ((b.length:Int) < 2)=false:=by simp;omega
    have hB2:2≤b.length:=by omega
    obtain ⟨b0,o0,rfl,hp0,g0⟩:=zbh HL.out.2.1 (k:=0) (by omega)
    obtain ⟨b1,o1,e1,_,g1⟩:=zbh HL.out.2.1 (k:=1) (by omega)
    injection e1 with e1
    injection e1 with e2 e3
    subst e2 e3
    simp only [Nat.add_zero] at g0
    obtain ⟨n0,hn0⟩ : ∃n,n=(b[0]'(by omega)).toNat:=⟨_,rfl⟩
    obtain ⟨n1,hn1⟩ : ∃n,n=(b[1]'(by omega)).toNat:=⟨_,rfl⟩
    rw [←hn0] at g0
    rw [←hn1] at g1
    obtain ⟨m',rfl⟩ : ∃m',m=m'+1:=⟨m - 1,by have:=HL.out.2.2.2.2.2.1;omega⟩
    have h00:=take_two (l:=b) (by omega)
    rw [←hn0,←hn1] at h00
    by_cases hz:n0=0∧n1=0
    · have hlp := zft (ob := pObj st k) (m := m') (c := cN) hB2 (h00.2 hz)
      obtain ⟨z0,z1⟩:=hz
      subst z0 z1
      have HLP:=Lib.hid hlp
      obtain ⟨A2,c2,hv,hs2⟩:=HL.out.1.slice
      subst hv
      have hd : ∀ (Ar : Option Addr) (cr nq : Nat), SeesP wr p Ar (Us (b.drop 2)) → b.length - 2 ≤ cr → zfT w R p st (zbF (pObj st k) l.length c l) (.returned (.tuple #[.slice A2 acc.len c2, .slice Ar (b.length - 2) cr, .int .i64 0])) (wr.drewN nq) := fun Ar cr nq hA hc => by
       obtain ⟨_,_,h3,_,h5,_,h7⟩:=HL.out
       rw [←h7,HLP.out]
       refine ⟨⟨h5.os,h5.tape,h5.output,h5.size,h5.block⟩,A2,c2,Ar,cr,?_,h3,?_,hA,by rw [List.length_drop];exact hc⟩
       · rw [F.app_nil,List.length_drop]
       · rw [F.app_nil];exact SeesC.imp (SeesC.keep (w':=wr.drewN nq) hs2 fun _ _=>rfl) fun _ hb=>hb
      have HD:=Lib.hid hd
      have HSB:=Lib.hid (show SeesP wr p (some ⟨b0,o0+2,none⟩) (Us (b.drop 2)) from zbs HL.out.2.1 hB2)
      clear hn0 hn1 h00 hlp h2 hs2 hd HL
      go_wp2_with fail
      go_quiet (fail)
      go_wp2_with fail
      all_goals go_ret3
      · exact HD.out _ _ _ (zbU (by omega)) (by omega)
      · exact HD.out _ _ _ HSB.out (by omega)
    · have HZ := Lib.hid (show b.take 2 ≠ [0, 0] from fun e => hz (h00.1 e))
      have dz : ∀ (Q : Prop), (n0 = 0 → n1 ≠ 0 → Q) → (n0 ≠ 0 → Q) → Q := fun Q q1 q2 => by
       by_cases h:n0=0
       · exact q1 h fun h'=>hz ⟨h,h'⟩
       · exact q2 h
      clear hn0 hn1 h00 h2 hz
      refine dz _ (fun z0 z1=>?_) (fun z0=>?_)
      all_goals first
       | (subst z0;have dn:((n1:Int)==0)=false:=(by simp;omega);clear z1)
       | (have dn:((n0:Int)==0)=false:=(by simp;omega);clear z0)
      all_goals
       have hc2:=HO.out cN b (some ⟨b0,o0,none⟩) cb wr R p (fun x hx=>⟨Nat.lt_of_lt_of_le (hp x hx).1 HL.out.2.2.2.2.1.size,(hp x hx).2⟩) HL.out.2.2.2.1 (by omega) hcb HL.out.2.2.1 HL.out.2.1
       go_wp2_with fail
       refine hc2.mono ?_
       rintro e w1 ⟨hg,hres⟩
       obtain ⟨r,hr⟩ : ∃r,pObj st k cN b=r:=⟨_,rfl⟩
       rw [hr] at hres
       have HJ:=Lib.hid HL.out.2.2.2.2.2.2
       have HG:=Lib.hid (zae HL.out.2.2.2.2.1 hg)
       have HH:=Lib.hid (HL.out.1.grown hR hg)
       cases r with
       | error x =>
         obtain ⟨t,A1,nn1,c1,A2,n2,c2,A3,n3,m3,c',rfl,hx,hrd⟩:=hres
         have hstep:=loopM_err (m:=m') hB2 HZ.out hr
         have hd : ∀ o, zfT w R p st (zbF (pObj st k) l.length c l) (.returned (.tuple #[.slice none 0 0, .slice none 0 0, .int .i64 x])) (w1.alloc o) := fun o => by
          rw [←HJ.out,hstep]
          exact ⟨zae HG.out (zaB _ o _),rfl,hx,c',zaw hrd o⟩
         have HD:=Lib.hid hd
         have d1:(x != 0)=true:=by simpa using hx
         clear hd hx hrd hstep HJ hr HH HL hg hc2
         go_wp2_with fail
         go_ret3
         exact HD.out _
       | ok q =>
         obtain ⟨t,v,kf,rest,c'⟩:=q
         obtain ⟨Av,cv,Ak,ck,Ar,cr,rfl,hrd,hn0,hv,hkf,hrest,hcr⟩:=hres
         have hstep:=loopM_ok (m:=m') hB2 HZ.out hr
         have hrl:=zcb st k cN b t v kf rest c' hr
         obtain ⟨cs,hown0,hh0⟩:=HL.out.1
         obtain ⟨hown,hh⟩:=HeldC.carry hR hg hown0 hh0
         have HW:=Lib.hid (zbP hown0)
         have HN:=Lib.hid (show Rd w1 R st c'∧((Av=none→cv=0)∧v.length≤cv)∧SeesP w1 (newB wr w1) Av (Us v)∧SeesC w1 (newB wr w1) Ak ck kf∧SeesP w1 p Ar (Us rest)∧c'≤256 from ⟨hrd,hn0,hv,hkf,hrest,hrl.2⟩)
         have hrl2:=hrl.1
         have HHH:=Lib.hid hh
         have HST:=Lib.hid hstep
         clear hrd hn0 hv hkf hrest hstep hr hh hrl hc2 hown0 hh0
         go_wp2_with (at_builtin;refine wpList_append_lies _ rfl (.tmp 40) (.tmp 42) 30 rfl w.heap.size 64 i0 _ 3 56 Tryz.underlying30 hi hz0 hz1 hz2 rfl (by decide) u9 acc.len cs rfl ((hown.alloc _).alloc _) ⟨_,0,none⟩ 1 1 _ rfl rfl (World.news_of_block (zdz w1 _ _)) (zbW _ _ _ _ _ _ _) (by decide) (by unfold maxLen;omega) (by omega) (by have:=HG.out.size;simp;omega) _ rfl ?_;intro g cap2 w2 ho hg2 hl2 _)
         have hb2:Below w1.heap.size w1 _:=((Below.refl w1.heap.size w1).alloc (Nat.le_refl _) (.cells #[.int .i64 t,.slice Av v.length cv,.slice Ak kf.len ck] 64)).alloc (by simp) (.cells #[.int .i64 t,.slice Av v.length cv,.slice Ak kf.len ck] 64)
         have hsn:=HeldC.snoc hg.size hb2 HN.out.2.1 HN.out.2.2.1 HN.out.2.2.2.1 HL.out.2.2.2.2.1.size HW.out cs HHH.out ho hg2 hl2
         have hrow : Rd w2 R st c' := by
          have h1:Rd _ R st c':=zaw (zaw HN.out.1 (.cells #[.int .i64 t,.slice Av v.length cv,.slice Ak kf.len ck] 64)) (.cells #[.int .i64 t,.slice Av v.length cv,.slice Ak kf.len ck] 64)
          refine (hg2.block R (lt_of_block h1) ?_).trans h1
          rcases HW.out with h4 | ⟨g2,h4,h5,_⟩
          · rw [h4];simp
          · rw [h4];intro e;injection e with e;omega
         have hgw : w.grownBy w2 (some R) := by
          have h1:=HG.out
          refine ⟨hg2.os.trans (hb2.os.trans h1.os),hg2.tape.trans (hb2.tape.trans h1.tape),hg2.output.trans (hb2.output.trans h1.output),Nat.le_trans h1.size (Nat.le_trans hb2.size hg2.size),fun j hj hj2=>?_⟩
          refine (hg2.block j (Nat.lt_of_lt_of_le hj (Nat.le_trans h1.size hb2.size)) ?_).trans ((hb2.block j (Nat.lt_of_lt_of_le hj h1.size)).trans (h1.block j hj hj2))
          rcases HW.out with h4 | ⟨g2,h4,h5,_⟩
          · rw [h4];simp
          · rw [h4];intro e;injection e with e;omega
         have hbytes : SeesP w2 p Ar (Us rest) := by
          refine HN.out.2.2.2.2.1.keep fun q hq=>?_
          have h6:q.block < w1.heap.size:=Nat.lt_of_lt_of_le (hp _ hq).1 HG.out.size
          refine (World.cell?_of_block (hg2.block q.block (Nat.lt_of_lt_of_le h6 hb2.size) ?_)).trans (hb2.cell h6)
          have h7:=(hp _ hq).1
          rcases HW.out with h4 | ⟨g2,h4,h5,_⟩
          · rw [h4];simp
          · rw [h4];intro e;injection e with e;omega
         have HF:=Lib.hid (show MrkRelC w R p st (pObj st k) (zbF (pObj st k) l.length c l) _ _ Ar rest m' c' w2 from ⟨hsn,hbytes,hrow,HN.out.2.2.2.2.2,hgw,by have:=HL.out.2.2.2.2.2.1;omega,by rw [←HJ.out,HST.out,zgM]⟩)
         clear hb2 hsn hrow hgw hbytes ho hg2 hl2
         go_roundw
         case rel=>exact ⟨_,Ar,cr,rest,m',c',rfl,by rw [F.len_app];simp only [F.len];omega,hcr,HF⟩
         case measure=>simp only [lenOf];omega
end Go.Proofs.YtnlhbknajdpnbaaGreatDoor
namespace Go.Proofs.YtnlhbknajdpnbaaGreatDoor
open Go.RowKit
set_option maxRecDepth 8000
theorem zdc {w w3 W : World} {R : Nat} {p : Nat → Prop} {st : Bool} {c : Nat} {x t : Int} {A1 A2 A : Option Addr} {n1 c1 n2 c2 n m : Nat} (hx : x ≠ 0) (hf : Fin w w3 W) (hg : w.grownBy w3 (some R)) (hr : Rd w3 R st c) (hR : R < w.heap.size) :
 zdq w R p st (.error x) (.returned (.tuple #[.agg #[.int .i64 t,.slice A1 n1 c1,.slice A2 n2 c2],.slice A n m,.int .i64 x])) W :=
 ⟨hf.grown hg,t,A1,n1,c1,A2,n2,c2,A,n,m,c,rfl,hx,hf.rd hr hR⟩
theorem obj_okC {w w2 w3 W : World} {R : Nat} {p : Nat → Prop} {st : Bool} {c' : Nat} {t : Int} {v : List UInt8} {k : F} {rest : List UInt8} {Av Ak Ar : Option Addr} {cv ck cr : Nat} (hf : Fin w w3 W) (hg : w.grownBy w3 (some R)) (hr : Rd w3 R st c') (hR : R < w.heap.size) (h2 : w.heap.size < w2.heap.size)
 (hp:∀x,p x→oldB w R x) (hn0:(Av=none→cv=0)∧v.length≤cv) (hv:SeesP w3 (newB w2 w3) Av (Us v)) (hk:SeesC w3 (newB w2 w3) Ak ck k) (hrest:SeesP w3 p Ar (Us rest)) (hcr:rest.length≤cr) :
 zdq w R p st (.ok (t,v,k,rest,c')) (.returned (.tuple #[.agg #[.int .i64 t,.slice Av v.length cv,.slice Ak k.len ck],.slice Ar rest.length cr,.int .i64 0])) W:=by
 have kp:∀q:Addr,newB w2 w3 q.block→W.cell? q=w3.cell? q:=fun q hq=>hf.cell hq.2 (by have:=hq.1;omega)
 have im:∀b,newB w2 w3 b→newB w W b:=fun b hb=>⟨by have:=hb.1;omega,Nat.lt_of_lt_of_le hb.2 hf.1⟩
 exact ⟨hf.grown hg,Av,cv,Ak,ck,Ar,cr,rfl,hf.rd hr hR,hn0,(hv.keep kp).imp im,(hk.keep kp).imp im,hrest.keep fun q hq=>hf.cell (Nat.lt_of_lt_of_le (hp _ hq).1 hg.size) (Nat.ne_of_lt (hp _ hq).1),hcr⟩
set_option maxHeartbeats 1000000 in
theorem zfa (st : Bool) (d : Int) (c : Nat) (l : List UInt8) (A : Option Addr) (cap : Nat) (w : World) (R : Nat) (p : Nat → Prop) (hp : ∀ x, p x → oldB w R x) (hl : l.length ≤ 4096) (hr : Rd w R st c) (hs : SeesP w p A (Us l)) (hE : hdrE l ≠ 0) :
 Calls Tryz.prog 83 #[.pointer (some ⟨R,0,none⟩),.slice A l.length cap,.int .i64 d] w (zdq w R p st (.error (hdrE l))):=by
 have hR:=lt_of_block hr
 obtain ⟨x,hx⟩ : ∃x,x=hdrE l:=⟨_,rfl⟩
 have hH : ∀ u, Below w.heap.size w u → Calls Tryz.prog 103 #[.slice A l.length cap] u fun e w' => e = .returned (.tuple #[hdrV 0 0 0 0, .int .i64 x]) ∧ Below u.heap.size u w' := fun u hu => by
  have h:=zgb A cap l u ((hs.keep fun q hq=>hu.cell (hp _ hq).1).imp fun b hb=>Nat.lt_of_lt_of_le (hp b hb).1 hu.size) (by omega)
  refine h.mono fun e w' hh=>⟨?_,hh.2⟩
  have h1:=hh.1
  rw [if_neg hE,←hx] at h1
  exact h1
 unfold hdrV at hH
 have HH:=Lib.hid hH
 rw [←hx] at hE ⊢
 have HX:=Lib.hid (show x≠0∧Rd w R st c from ⟨hE,hr⟩)
 have d1:(x != 0)=true:=by simpa using hE
 have d2:(x==0)=false:=by simpa using hE
 clear hH hx hE hs hr
 go_enter Tryz.func83,Tryz.ntmps83
 go_wp2_with fail
 refine (HH.out _ ((Below.refl _ _).alloc (Nat.le_refl _) _)).mono ?_
 rintro e w1 ⟨rfl,hb1⟩
 have b6:w1.heap[w.heap.size]? = some (.cells #[.int .i64 0,.slice none 0 0,.slice none 0 0] 64 (0,0)):=(hb1.block w.heap.size (by simp)).trans (heap_alloc_new w _)
 have hb:=zaf ((Below.refl _ _).alloc (Nat.le_refl _) (.cells #[.int .i64 0,.slice none 0 0,.slice none 0 0] 64)) (hb1.mono (Nat.le_refl _))
 have q0:=cell_of_row w1 w.heap.size 0 _ _ _ b6
 have q1:=cell_of_row w1 w.heap.size 1 _ _ _ b6
 have q2:=cell_of_row w1 w.heap.size 2 _ _ _ b6
 have r0:=frozen_of_row w1 w.heap.size 0 _ _ b6
 have r1:=frozen_of_row w1 w.heap.size 1 _ _ b6
 have r2:=frozen_of_row w1 w.heap.size 2 _ _ b6
 simp only [List.getElem?_toArray,List.getElem?_cons_succ,List.getElem?_cons_zero] at q0 q1 q2
 have H6:=Lib.hid (show _∧_ from ⟨b6,hb⟩)
 have hsz:w.heap.size < w1.heap.size:=lt_of_block b6
 clear b6 hb1 hb
 go_wp2_with fail
 refine bodyPost_ret (zaM rfl _ _ _ _ _ _ _ rfl (zaw (zai (zai (zai H6.out.1 _) _) _) _) Tryz.underlying64 rfl zbf) rfl ?_
 exact zdc HX.out.1 ((Fin.set w w1 _ _ _).alloc _) (zaD H6.out.2) (HX.out.2.grown H6.out.2) hR
set_option maxHeartbeats 1000000 in
theorem zeR (st : Bool) (d : Int) (c ll : Nat) (A : Option Addr) (cap : Nat) (w : World) (R : Nat) (p : Nat → Prop) (t f n s : Nat) (x : Int) (hP : Pre w R st A ll cap d t f n s c x) (hx : x ≠ 0) :
 Calls Tryz.prog 83 #[.pointer (some ⟨R,0,none⟩),.slice A ll cap,.int .i64 d] w (zdq w R p st (.error x)):=by
 have hR:=lt_of_block hP.2.2
 have HP:=Lib.hid hP
 have HX:=Lib.hid hx
 have d1:(x != 0)=true:=by simpa using hx
 clear hP hx
 go_enter Tryz.func83,Tryz.ntmps83
 go_wp2_with fail
 refine (HP.out.1 _ ((Below.refl _ _).alloc (Nat.le_refl _) _)).mono ?_
 rintro e w1 ⟨rfl,hb1⟩
 go_wp2_with fail
 refine (HP.out.2.1 _ (zaw ((hb1.block R (by simp;omega)).trans (zaw HP.out.2.2 _)) _)).mono ?_
 rintro e w2 ⟨rfl,hg,c',hrd,_⟩
 have H:=Lib.hid (ObSt.mk' HP.out.2.2 hb1 hg hrd)
 have b6:=H.out.2.2.1
 have q0:=cell_of_row w2 w.heap.size 0 _ _ _ b6
 have q1:=cell_of_row w2 w.heap.size 1 _ _ _ b6
 have q2:=cell_of_row w2 w.heap.size 2 _ _ _ b6
 have r0:=frozen_of_row w2 w.heap.size 0 _ _ b6
 have r1:=frozen_of_row w2 w.heap.size 1 _ _ b6
 have r2:=frozen_of_row w2 w.heap.size 2 _ _ b6
 simp only [List.getElem?_toArray,List.getElem?_cons_succ,List.getElem?_cons_zero] at q0 q1 q2
 clear b6 hb1 hg hrd
 go_wp2_with fail
 refine bodyPost_ret (zaM rfl _ _ _ _ _ _ _ rfl (zai (zai (zai H.out.2.2.1 _) _) _) Tryz.underlying64 rfl zbf) rfl ?_
 exact zdc HX.out (Fin.set w w2 _ _ _) H.out.1 H.out.2.1 hR
end Go.Proofs.YtnlhbknajdpnbaaGreatDoor
