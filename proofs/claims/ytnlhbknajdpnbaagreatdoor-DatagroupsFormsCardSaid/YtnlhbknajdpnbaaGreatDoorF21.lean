/-
  What is proved here: what is encoded reads back (plain); which templates are usable, and that no number is no block; the maker Templates.
-/
import Derived.Test.YtnlhbknajdpnbaaGreatDoorF16
import Derived.Test.YtnlhbknajdpnbaaGreatDoorF9
import Derived.Test.YtnlhbknajdpnbaaGreatDoorRows
import Derived.Test.YtnlhbknajdpnbaaGreatDoorF0
import Derived.Test.YtnlhbknajdpnbaaGreatDoorF6
import Derived.Test.YtnlhbknajdpnbaaGreatDoorF11
import Derived.Test.YtnlhbknajdpnbaaGreatDoorF19
import Derived.Test.YtnlhbknajdpnbaaGreatDoorF3
import Derived.Test.YtnlhbknajdpnbaaGreatDoorF4
import Derived.Test.YtnlhbknajdpnbaaGreatDoorF5
import Derived.Test.YtnlhbknajdpnbaaGreatDoorF7
import Derived.Test.YtnlhbknajdpnbaaGreatDoorCards
import Derived.Test.YtnlhbknajdpnbaaGreatDoorTie
import Derived.ProofKit
import Derived.SizedLaws
import Derived.OpenShut
import Derived.LaidMore
import Derived.Lay
import Derived.SevenTiedAt
import Derived.Stop.Joined
import Derived.Laws.BitsAllLaws
import Derived.Lib.Strings
import Derived.Lib.Slices
import Derived.Lib.Small
import Derived.Lib.Walk
import Derived.Lib.BitFns
import Derived.Deep.RegionWith
import Derived.Laws.ResultCell
import Derived.Laws.Rows
import Derived.BigQuiet
import Derived.ShutString
import Derived.ChangeOld
import Derived.Laws.AppendOwnNone
import Derived.Deep.AppendLies
set_option linter.unusedVariables false
set_option linter.unusedSimpArgs false
namespace Go.Proofs.YtnlhbknajdpnbaaGreatDoor
open Go.RowKit
def IntN (w:World) (A:Option Addr) (m c:Nat) (l:List Int) (cur:World):Prop:=(cur.ownsRow w.heap.size 3 1 (.slice A m c) m (Is l)∧(m=0→A=none∧c=0))∧Below w.heap.size w cur
theorem IntN.start (w:World):IntN w none 0 0 [] w:=⟨⟨World.ownsRow_nil w _ _ 1,fun _=>⟨rfl,rfl⟩⟩,Below.refl _ _⟩
theorem IntN.on {w cur cur':World} {A:Option Addr} {m c:Nat} {l:List Int} (h:IntN w A m c l cur) (hb:Below cur.heap.size cur cur'):IntN w A m c l cur':=⟨⟨zaI h.1.1 hb,h.1.2⟩,zaf h.2 hb⟩
def UseN (l:List Int) (w:World) (e:Ending) (w':World):Prop:=∃A c,e=.returned (.slice A l.length c)∧(l.length=0→A=none∧c=0)∧Below w.heap.size w w'
theorem IntN.done {w cur : World} {A : Option Addr} {m c : Nat} {l : List Int} (h : IntN w A m c l cur) : UseN l w (.returned (.slice A m c)) cur := by
 have hl:l.length=m:=by have:=h.1.1.1;simpa [Is_len] using this
 exact ⟨A,c,by rw [hl],by rw [hl];exact h.1.2,h.2⟩
theorem HeldT.dice {w wr w' : World} {v : Value} {L : List Tm} {D : Nat} (h : HeldT w wr v L) (hg : wr.grownBy w' (some D)) (hD : D < w.heap.size) : HeldT w w' v L := by
 obtain ⟨cs,h1,h2⟩:=h
 have hne:v.ownBlock≠some D:=fun e=>by have:=(zas h1 D e).1;omega
 exact ⟨cs,zbm h1 hg hne,(h2.keep fun q hq=>World.cell?_of_block (hg.block _ hq.1.2 fun e=>by injection e with e;have:=hq.1.1;omega)).imp fun b hb=>⟨⟨hb.1.1,Nat.lt_of_lt_of_le hb.1.2 hg.size⟩,hb.2⟩⟩
theorem HeldT.snoc2 {w w1 wa w2 : World} {v : Value} {L : List Tm} {x : Tm} {Ad : Option Addr} {cd g cap n : Nat} (ha : Below w1.heap.size w1 wa)
 (hn0:(Ad=none→cd=0)∧x.d.length≤cd) (hv:SeesP w1 (fun b=>newB w w1 b∧v.ownBlock≠some b) Ad (Us x.d))
 (cs:List Value) (hc1:w1.ownsRow w.heap.size 85 7 v L.length cs) (hc2:TmsIn w1 (fun b=>newB w w1 b∧v.ownBlock≠some b) cs L) (hn:n=L.length+1)
 (ho:w2.ownsRow w.heap.size 85 7 (.slice (some ⟨g,0,none⟩) n cap) n (cs++x.cs Ad cd)) (hg:wa.grownBy w2 v.ownBlock)
 (hl:v.ownBlock=some g∨g=wa.heap.size):HeldT w w2 (.slice (some ⟨g,0,none⟩) n cap) (L++[x]):=by
 subst hn
 have hold:=zas hc1
 have keep : ∀ q : Addr, q.block < w1.heap.size → v.ownBlock ≠ some q.block → w2.cell? q = w1.cell? q := fun q h1 h2 =>
  (World.cell?_of_block (w:=wa) (hg.block q.block (Nat.lt_of_lt_of_le h1 ha.size) (fun e=>h2 e.symm))).trans (ha.cell h1)
 have hsz:w1.heap.size≤w2.heap.size:=Nat.le_trans ha.size hg.size
 have hwa:=ha.size
 have hp : ∀ b, (newB w w1 b ∧ v.ownBlock ≠ some b) → newB w w2 b ∧ (Value.slice (some ⟨g, 0, none⟩) (L.length + 1) cap).ownBlock ≠ some b := by
  intro b hb
  have h4:=hb.1.2
  refine ⟨⟨hb.1.1,by omega⟩,?_⟩
  intro e
  injection e with e
  simp only at e
  rcases hl with h3 | h3
  · exact hb.2 (h3.trans (by rw [e]))
  · omega
 have kp:∀q:Addr,(newB w w1 q.block∧v.ownBlock≠some q.block)→w2.cell? q=w1.cell? q:=fun q hq=>keep q hq.1.2 hq.2
 exact ⟨_,by rw [List.length_append];exact ho,TmsIn.snoc ((hc2.keep kp).imp hp) hn0 ((hv.keep kp).imp hp)⟩
def TmsIs (w:World) (D:Nat) (e:Ending) (w':World):Prop:=∃(v:Value) (L:List Tm),e=.returned v∧1≤L.length∧L.length≤3∧(∀x∈L,vT x=0)∧HeldT w w' v L∧w.grownBy w' (some D)∧DiceOk w' D
def TRel (w:World) (D:Nat) (v:Value) (k:Nat) (wr:World):Prop:=∃L:List Tm,L.length=k∧(∀x∈L,vT x=0)∧HeldT w wr v L∧w.grownBy wr (some D)∧DiceOk wr D
theorem bst_tm (x:Tm) (A:Option Addr) (c:Nat):Tryz.prog.builtSlice 85 1 [(0,.agg (x.cs A c).toArray)]=some (x.cs A c).toArray:=bst1 _ _ _ _ _ _ _ _ _
set_option maxHeartbeats 3200000 in
set_option maxRecDepth 20000 in
theorem zcG (D : Nat) (kd : Int) (hkd : kd = 1 ∨ kd = 2 ∨ kd = 3) (w : World) (h : DiceOk w D) :
 Calls Tryz.prog 18 #[.pointer (some ⟨D,0,none⟩),.int .i64 kd] w (TmsIs w D):=by
 obtain ⟨i0,hi,hz0,hz1,hz2⟩:=info_parts info_tb
 have hDw:=h.lt
 have N1:=Lib.hid (show Calls Tryz.prog 8 #[.pointer (some ⟨D,0,none⟩),.int .i64 3] w (zbj w D 3) from zar D 3 w (by decide) (by decide) h)
 have HKD:=Lib.hid hkd
 clear h hkd
 go_enter Tryz.func18,Tryz.ntmps18
 go_wp2_with fail
 refine N1.out.mono ?_
 rintro e w1 ⟨r,hr,rfl,hg,hd⟩
 have H1:=Lib.hid (show TRel w D (.slice none 0 0) 0 w1 from ⟨[],rfl,(fun x h=>by cases h),⟨[],⟨rfl,.inl ⟨rfl,rfl⟩⟩,TmsIn.nil_⟩,hg,hd⟩)
 clear N1 hg hd
 go_wp2_with fail
 go_loopw [5,6] (fun a i wr=>∃k:Nat,k≤r+1∧i=.int .i64 (1+(r:Int) - (k:Int))∧Hid (TRel w D a k wr)) (fun _ i _=>(intOf i).toNat)
 case atStart=>exact ⟨0,Nat.zero_le _,by go_num,H1⟩
 case round =>
  clear H1
  obtain ⟨k,hk,rfl,HB⟩:=hrel
  by_cases hlt:k < r+1
  · have d1 : decide ((0 : Int) < 1 + (r : Int) - (k : Int)) = true := by simp; omega
    obtain ⟨L,hLk,hv,hheld,hgr,hdi⟩:=HB.out
    have HT:=Lib.hid (dice_template D kd HKD.out wr hdi)
    go_wp2_with fail
    refine HT.out.mono ?_
    rintro e w2 ⟨x,A1,c1,rfl,hvx,_,h0,hs,hg,hd⟩
    have hheld2:=hheld.dice hg hDw
    obtain ⟨cs0,hc0,_⟩:=hheld
    obtain ⟨cs,hc1,hc2⟩:=hheld2
    have hs2:SeesP w2 (fun b=>newB w w2 b∧u5.ownBlock≠some b) A1 (Us x.d):=hs.imp fun b hb=>⟨zaH hb hgr.size (Nat.le_refl _),fun e=>by have:=(zas hc0 b e).2;have:=hb.1;omega⟩
    have H2:=Lib.hid (show _∧_∧_∧_ from ⟨zae hgr hg,hd,h0,hs2⟩)
    have HC:=Lib.hid (show _∧_ from ⟨hc1,hc2⟩)
    have HV := Lib.hid (show ∀ y ∈ L ++ [x], vT y = 0 from fun y hy => by
     rcases List.mem_append.1 hy with h | h
     · exact hv y h
     · rw [List.mem_singleton] at h;subst h;exact hvx)
    have HLK:=Lib.hid hLk
    have hL3:L.length≤3:=by omega
    clear HT hgr hdi hvx h0 hs hg hd hc0 hc1 hc2 hs2 hv HB hLk
    go_wp2_with (first
     | ((with_reducible refine zal (d:=18) ?_);go_must (refine zap rfl 49 85 1 _ rfl Tryz.underlying49 (pe1 rfl) (bst_tm x A1 c1) ?_);intro g w3 hf hr;have H3:=Lib.hid (show _∧_ from ⟨hf,hr⟩);clear hf hr)
     | ((with_reducible refine zal (d:=19) ?_);go_must (refine wpList_append_lies _ rfl (.tmp 14) (.tmp 18) 49 rfl w.heap.size 85 i0 _ 7 72 Tryz.underlying49 hi hz0 hz1 hz2 rfl (by decide) u5 L.length cs rfl (zaI HC.out.1 H3.out.1.bw) ⟨g,0,none⟩ 1 1 (x.cs A1 c1) rfl rfl H3.out.2.src (cs_one _ _ _) (by decide) (by unfold maxLen;omega) (by omega) (Nat.le_trans H2.out.1.size H3.out.1.bw.size) _ rfl ?_);intro g6 c6 w4 ho hg3 hl hlt3;have H4:=Lib.hid (show HeldT w w4 _ (L++[x])∧w.grownBy w4 (some D)∧DiceOk w4 D from ⟨HeldT.snoc2 (w1:=w2) (wa:=w3) H3.out.1.bw H2.out.2.2.1 H2.out.2.2.2 cs HC.out.1 HC.out.2 rfl ho hg3 hl,zaF (H2.out.1.on H3.out.1.bw) hg3 (fun k e=>(zas HC.out.1 k e).1),(H2.out.2.1.below H3.out.1.bw).grown hg3 (fun k e=>Nat.lt_of_lt_of_le hDw (zas HC.out.1 k e).1)⟩);clear ho hg3 hl hlt3))
    go_roundw
    case rel=>exact ⟨k+1,by omega,by go_num,Lib.hid ⟨L++[x],by rw [List.length_append,HLK.out];rfl,HV.out,H4.out.1,H4.out.2.1,H4.out.2.2⟩⟩
    case measure=>simp [intOf];omega
  · obtain rfl : k = r + 1 := by omega
    have d1:decide ((0:Int) < 1+(r:Int) - ((r+1:Nat):Int))=false:=by simp;omega
    obtain ⟨L,hLk,hv,hheld,hgr,hdi⟩:=HB.out
    have HF:=Lib.hid (show TmsIs w D (.returned u5) wr from ⟨u5,L,rfl,by omega,by omega,hv,hheld,hgr,hdi⟩)
    clear hLk hv hheld hgr hdi HB
    go_wp2_with fail
    go_ret
    exact HF.out
end Go.Proofs.YtnlhbknajdpnbaaGreatDoor
namespace Go.Proofs.YtnlhbknajdpnbaaGreatDoor
open Go.RowKit
def F.vb (b : Nat) : F → Prop
 | .nil=>True
 | .cons t v k r=>(-9223372036854775808≤t∧t≤9223372036854775807)∧v.length≤b∧k.vb b∧r.vb b
end Go.Proofs.YtnlhbknajdpnbaaGreatDoor
namespace Go.Proofs.YtnlhbknajdpnbaaGreatDoor
open Go.RowKit
def ltrB (n:Int):Bool:=decide (65≤n∧n≤90)
def gapL (x:List UInt8) (i:Nat):Bool:=decide (cB x i=32∧0 < i∧i+1 < x.length∧ltrB (cB x (i - 1))=true∧ltrB (cB x (i+1))=true)
def okP (x:List UInt8) (i:Nat):Bool:=ltrB (cB x i) || gapL x i
def okR (x:List UInt8) (i:Nat):Bool:=decide (if cB x i=32 then 0 < i∧i+1 < x.length∧cB x (i - 1)≠32 else ltrB (cB x i)=true)
def zaO (x:List UInt8):Bool:=decide (∀i,i < x.length→okP x i=true)
theorem zdB {x : List UInt8} (h : ∀ k, k < x.length → okP x k = true) : zaO x = true := by
 unfold zaO;exact decide_eq_true h
theorem nameL_at {x : List UInt8} (h : zaO x = true) : ∀ k, k < x.length → okP x k = true := by
 unfold zaO at h;exact of_decide_eq_true h
theorem zfS {x:List UInt8} {i:Nat} (h:ltrB (cB x i)=true):okP x i=true:=by unfold okP;rw [h];rfl
theorem okR_of {x : List UInt8} (h : ∀ k, k < x.length → okP x k = true) (i : Nat) (hi : i < x.length) : okR x i = true := by
 have h0:=h i hi
 unfold okR okP at *
 by_cases e:cB x i=32
 · have e2 : ltrB (cB x i) = false := by rw [e]; rfl
   rw [e2,Bool.false_or] at h0
   unfold gapL at h0
   have h1:=of_decide_eq_true h0
   simp only [e,if_true]
   refine decide_eq_true ⟨h1.2.1,h1.2.2.1,fun e3=>?_⟩
   have:=h1.2.2.2.1
   rw [e3] at this
   cases this
 · simp only [e, if_false]
   rw [Bool.or_eq_true] at h0
   rcases h0 with h0 | h0
   · simpa using h0
   · unfold gapL at h0
     exact absurd (of_decide_eq_true h0).1 e
theorem okP_of {x : List UInt8} (h : ∀ k, k < x.length → okR x k = true) (i : Nat) (hi : i < x.length) : okP x i = true := by
 have h0:=h i hi
 unfold okR at h0
 have h1:=of_decide_eq_true h0
 by_cases e:cB x i=32
 · simp only [e, if_true] at h1
   have hL:=h (i - 1) (by omega)
   have hR:=h (i+1) (by omega)
   unfold okR at hL hR
   have hL:=of_decide_eq_true hL
   have hR:=of_decide_eq_true hR
   simp only [h1.2.2,if_false] at hL
   have hne : cB x (i + 1) ≠ 32 := by
    intro e2
    simp only [e2,if_true,Nat.add_sub_cancel] at hR
    exact hR.2.2 e
   simp only [hne,if_false] at hR
   unfold okP gapL
   rw [Bool.or_eq_true]
   exact .inr (decide_eq_true ⟨e,h1.1,h1.2.1,hL,hR⟩)
 · simp only [e, if_false] at h1
   exact zfS h1
theorem ltr_no {n:Int} (h:n < 65∨90 < n):ltrB n=false:=by unfold ltrB;exact decide_eq_false (by omega)
theorem ltr_yes {n:Int} (h1:65≤n) (h2:n≤90):ltrB n=true:=by unfold ltrB;exact decide_eq_true ⟨h1,h2⟩
theorem name_cases (a q : Int) (i n : Nat) (hi : i < n) : (a = 32 ∧ i = 0) ∨ (a = 32 ∧ 0 < i ∧ i + 1 = n) ∨ (a = 32 ∧ 0 < i ∧ i + 1 < n ∧ q = 32) ∨ (a = 32 ∧ 0 < i ∧ i + 1 < n ∧ q ≠ 32) ∨
 (a≠32∧a < 65)∨(a≠32∧90 < a)∨(a≠32∧65≤a∧a≤90):=by omega
theorem okR_no {x:List UInt8} {i:Nat} (h:¬(if cB x i=32 then 0 < i∧i+1 < x.length∧cB x (i - 1)≠32 else ltrB (cB x i)=true)):okR x i=false:=decide_eq_false h
theorem nameR_bad {x : List UInt8} {k : Nat} (hk : k < x.length) (h : okR x k = false) : zaO x = false := by
 rcases hb:zaO x with _ | _
 · rfl
 · have := okR_of (nameL_at hb) k hk
   rw [h] at this
   cases this
theorem nameR_good {x:List UInt8} (h:∀k,k < x.length→okR x k=true):zaO x=true:=zdB (okP_of h)
set_option maxHeartbeats 1600000 in
theorem zdg (s : ByteArray) (x : List UInt8) (hx : s = S x) (w : World) (hm : s.size ≤ 140737488355328) :
 Calls Tryz.prog 89 #[.string s] w fun e w'=>e=.returned (.bool (zaO x))∧w'=w:=by
 have hl:s.size=x.length:=by rw [hx,zao]
 have HX:=Lib.hid hx
 have HL:=Lib.hid hl
 obtain ⟨N,hN⟩ : ∃N,zaO x=N:=⟨_,rfl⟩
 rw [hN]
 have HN:=Lib.hid hN
 clear hx hl hN
 go_enter Tryz.func89,Tryz.ntmps89
 go_wp2
 go_loop [3] (fun i=>∃k:Nat,k≤s.size∧i=.int .i64 k∧Hid (∀j,j < k→okR x j=true)) (fun i=>s.size - (intOf i).toNat)
 case atStart=>exact ⟨0,Nat.zero_le _,rfl,Lib.hid (fun j h=>by omega)⟩
 case round =>
  obtain ⟨k,hk,rfl,HG⟩:=hrel
  by_cases hlt:k < s.size
  · have hc := s_at HX.out k hlt
    have hgood : okR x k = true → Hid (∀ j, j < k + 1 → okR x j = true) := fun h => Lib.hid (fun j hj => by
     rcases Nat.lt_or_ge j k with h2 | h2
     · exact HG.out j h2
     · obtain rfl : j = k := by omega
       exact h)
    have hbad:okR x k=false→N=false:=fun h=>by rw [←HN.out];exact nameR_bad (k:=k) (by have:=HL.out;omega) h
    rcases name_cases (cB x k) (cB x (k - 1)) k s.size hlt with h | h | h | h | h | h | h
    · obtain ⟨h, rfl⟩ := h
      have hf:=hbad (okR_no (by simp [h]))
      subst hf
      rw [←hc] at h
      clear hc hgood hbad
      go_wp2
      go_ret
      exact ⟨rfl,rfl⟩
    · obtain ⟨h, h0, h1⟩ := h
      have hf:=hbad (okR_no (by simp only [h,if_true];intro g;have:=HL.out;omega))
      subst hf
      rw [←hc] at h
      clear hc hgood hbad
      have d0:((k:Int)==0)=false:=by simp;omega
      have d1:((k:Int)==(s.size:Int) - 1)=true:=by simp;omega
      go_wp2
      go_ret
      exact ⟨rfl,rfl⟩
    · obtain ⟨h, h0, h1, h2⟩ := h
      have hf:=hbad (okR_no (by simp only [h,if_true];intro g;exact g.2.2 h2))
      subst hf
      obtain ⟨j,rfl⟩ : ∃j,k=j+1:=⟨k - 1,by omega⟩
      rw [Nat.add_sub_cancel] at h2
      have hja:j < s.size:=by omega
      have hcj:=s_at HX.out j hja
      rw [←hc] at h
      rw [←hcj] at h2
      clear hc hcj hgood hbad
      have d0:(((j:Int)+1)==0)=false:=by simp;omega
      have d1:(((j:Int)+1)==(s.size:Int) - 1)=false:=by simp;omega
      go_wp2
      go_ret
      exact ⟨rfl,rfl⟩
    · obtain ⟨h, h0, h1, h2⟩ := h
      have HQ:=hgood (by unfold okR;simp only [h,if_true];exact decide_eq_true ⟨h0,by have:=HL.out;omega,h2⟩)
      obtain ⟨j,rfl⟩ : ∃j,k=j+1:=⟨k - 1,by omega⟩
      rw [Nat.add_sub_cancel] at h2
      have hja:j < s.size:=by omega
      have hcj:=s_at HX.out j hja
      rw [←hc] at h
      rw [←hcj] at h2
      clear hc hcj hgood hbad
      have d0:(((j:Int)+1)==0)=false:=by simp;omega
      have d1:(((j:Int)+1)==(s.size:Int) - 1)=false:=by simp;omega
      have d2:((s[j].toNat:Int)==32)=false:=by simpa using h2
      go_wp2
      go_round
      case rel=>exact ⟨j+1+1,by omega,by go_num,HQ⟩
      case measure=>simp [intOf];omega
    · obtain ⟨h, h0⟩ := h
      have hf:=hbad (okR_no (by simp only [h,if_false];rw [ltr_no (.inl h0)];decide))
      subst hf
      rw [←hc] at h h0
      clear hc hgood hbad
      have d2:((s[k].toNat:Int)==32)=false:=by simpa using h
      have d3:((s[k].toNat:Int) != 32)=true:=by simpa using h
      have d4:decide ((s[k].toNat:Int) < 65)=true:=by simpa using h0
      go_wp2
      go_ret
      exact ⟨rfl,rfl⟩
    · obtain ⟨h, h0⟩ := h
      have hf:=hbad (okR_no (by simp only [h,if_false];rw [ltr_no (.inr h0)];decide))
      subst hf
      rw [←hc] at h h0
      clear hc hgood hbad
      have d2:((s[k].toNat:Int)==32)=false:=by simpa using h
      have d3:((s[k].toNat:Int) != 32)=true:=by simpa using h
      have d4:decide ((s[k].toNat:Int) < 65)=false:=by simp;omega
      have d5:decide ((90:Int) < (s[k].toNat:Int))=true:=by simpa using h0
      go_wp2
      go_ret
      exact ⟨rfl,rfl⟩
    · obtain ⟨h, h0, h1⟩ := h
      have HQ:=hgood (by unfold okR;simp only [h,if_false];rw [ltr_yes h0 h1];rfl)
      rw [←hc] at h h0 h1
      clear hc hgood hbad
      have d2:((s[k].toNat:Int)==32)=false:=by simpa using h
      have d3:((s[k].toNat:Int) != 32)=true:=by simpa using h
      have d4:decide ((s[k].toNat:Int) < 65)=false:=by simp;omega
      have d5:decide ((90:Int) < (s[k].toNat:Int))=false:=by simp;omega
      go_wp2
      go_round
      case rel=>exact ⟨k+1,by omega,by go_num,HQ⟩
      case measure=>simp [intOf];omega
  · have hf : N = true := by rw [← HN.out]; exact nameR_good (fun j hj => HG.out j (by have := HL.out; omega))
    subst hf
    go_wp2
    go_ret
    exact ⟨rfl,rfl⟩
end Go.Proofs.YtnlhbknajdpnbaaGreatDoor
namespace Go.Proofs.YtnlhbknajdpnbaaGreatDoor
open Go.RowKit
theorem zaz (x y : List UInt8) : S x ++ S y = S (x ++ y) := by
 apply ByteArray.ext
 simp [S]
theorem zbI (x : List UInt8) (a b : Nat) : (S x).extract a b = S ((x.drop a).take (b - a)) := by
 apply ByteArray.ext
 simp [S,List.take_drop]
def zbk (x y:List UInt8) (w:Nat):List UInt8:=(exL 32 60 x++[60,60]++exL 32 60 y++List.replicate w 60).take w
def zdn (x y:List UInt8) (w:Int):Int:=if zaO x=false∨zaO y=false∨x=[] then 14 else if w < 1∨64 < w then 2 else 0
def zfs (x y:List UInt8) (w:Int):List UInt8:=if zdn x y w=0 then zbk x y w.toNat else []
theorem namesE_1 {x y : List UInt8} {w : Int} (h : zaO x = false ∨ zaO y = false ∨ x = []) : zdn x y w = 14 ∧ zfs x y w = [] := by
 have e:zdn x y w=14:=by unfold zdn;rw [if_pos h]
 exact ⟨e,by unfold zfs;rw [e];rfl⟩
theorem namesE_2 {x y : List UInt8} {w : Int} (h : ¬ (zaO x = false ∨ zaO y = false ∨ x = [])) (h2 : w < 1 ∨ 64 < w) : zdn x y w = 2 ∧ zfs x y w = [] := by
 have e:zdn x y w=2:=by unfold zdn;rw [if_neg h,if_pos h2]
 exact ⟨e,by unfold zfs;rw [e];rfl⟩
theorem namesE_3 {x y : List UInt8} {w : Int} (h : ¬ (zaO x = false ∨ zaO y = false ∨ x = [])) (h2 : ¬ (w < 1 ∨ 64 < w)) : zdn x y w = 0 ∧ zfs x y w = zbk x y w.toNat := by
 have e:zdn x y w=0:=by unfold zdn;rw [if_neg h,if_neg h2]
 exact ⟨e,by unfold zfs;rw [e];rfl⟩
def zaX (x:List UInt8) (w:Nat):List UInt8:=x++List.replicate (w - x.length) 60
theorem wideL_len (x:List UInt8) (w:Nat):w≤(zaX x w).length:=by simp [zaX];omega
theorem zer (x : List UInt8) (w n : Nat) (h : w ≤ x.length + n) : (x ++ List.replicate n 60).take w = (zaX x w).take w := by
 unfold zaX
 rw [List.take_append,List.take_append]
 congr 1
 rw [List.take_replicate,List.take_replicate]
 congr 1
 omega
theorem zgq (x y : List UInt8) (w : Nat) : zbk x y w = (zaX (exL 32 60 x ++ ([60, 60] ++ exL 32 60 y)) w).take w := by
 unfold zbk
 rw [←zer _ w w (by omega)]
 simp
theorem zgU (x : List UInt8) (w : Nat) : zbk x [] w = (zaX (exL 32 60 x) w).take w := by
 unfold zbk
 rw [←zer _ w (w+2) (by omega)]
 simp [exL,List.replicate_succ]
theorem zfE {s:ByteArray} {x:List UInt8} (hx:s=S x) (h:x=[]):s.toList.isEmpty=true:=by rw [hx,zcB,h];rfl
theorem s_ne {s : ByteArray} {x : List UInt8} (hx : s = S x) (h : x ≠ []) : s.toList.isEmpty = false := by
 rw [hx,zcB];simpa using h
theorem r_wide (s : ByteArray) (x : List UInt8) (hx : s = S x) (n : Nat) (hn : n ≤ 64) (w : World) :
 Calls Tryz.prog 68 #[.string s,.int .i64 n] w fun e w'=>e=.returned (.string (S (zaX x n)))∧w'=w:=by
 have HX:=Lib.hid hx
 go_enter Tryz.func68,Tryz.ntmps68
 go_wp2
 go_loop [0] (fun v=>∃(k:Nat) (r:ByteArray),v=.string r∧Hid (r=S (x++List.replicate k 60))∧Hid (k=0∨x.length+k≤n)) (fun v=>n - (match v with | .string r=>r.size | _=>0))
 case atStart=>exact ⟨0,s,rfl,Lib.hid (by rw [hx];simp),Lib.hid (.inl rfl)⟩
 case round =>
  obtain ⟨k,r,rfl,HR,HK⟩:=hrel
  have hsz:Hid (r.size=x.length+k):=Lib.hid (by rw [HR.out,zao];simp)
  by_cases hlt:r.size < n
  · have h2 : Hid (r ++ ⟨#[60]⟩ = S (x ++ List.replicate (k + 1) 60)) := Lib.hid (by
     rw [HR.out]
     show S _++S [60]=_
     rw [zaz,List.replicate_succ',List.append_assoc])
    go_wp2
    go_round
    case rel=>exact ⟨k+1,_,rfl,h2,Lib.hid (.inr (by have:=hsz.out;omega))⟩
    case measure =>
     have:(r++(⟨#[60]⟩ : ByteArray)).size=r.size+1:=by rw [ByteArray.size_append];rfl
     simp only [this]
     omega
  · have hd : r = S (zaX x n) := by
     rw [HR.out]
     unfold zaX
     have:=HK.out
     have:=hsz.out
     congr 3
     omega
    have HD:=Lib.hid hd
    clear hd
    go_wp2
    go_ret
    exact ⟨by rw [←HD.out];rfl,rfl⟩
set_option maxHeartbeats 1600000 in
theorem r_names (s t : ByteArray) (x y : List UInt8) (hx : s = S x) (hy : t = S y) (wd : Int) (w : World) (hm : s.size ≤ 140737488355328) (hm2 : t.size ≤ 140737488355328) :
 Calls Tryz.prog 71 #[.string s,.string t,.int .i64 wd] w fun e w'=>e=.returned (.tuple #[.string (S (zfs x y wd)),.int .i64 (zdn x y wd)])∧Below w.heap.size w w':=by
 have HX:=Lib.hid hx
 have HY:=Lib.hid hy
 by_cases h:zaO x=false∨zaO y=false∨x=[]
 · obtain ⟨e1, e2⟩ := namesE_1 (w := wd) h
   rw [e1,e2]
   clear e1 e2
   rcases hn1:zaO x with _ | _
   · have H1 := Lib.hid hn1
     clear hn1 h hx hy
     go_enter Tryz.func71,Tryz.ntmps71
     go_wp2_with (go_at_call 89;refine (zdg s x HX.out _ hm).mono ?_;rintro e w' ⟨rfl,hw⟩;rw [hw,H1.out];clear hw)
     go_ret2
     exact ⟨rfl,Below.refl _ _⟩
   · have H1 := Lib.hid hn1
     rcases hn2:zaO y with _ | _
     · have H2 := Lib.hid hn2
       clear hn1 hn2 h hx hy
       go_enter Tryz.func71,Tryz.ntmps71
       go_wp2_with (go_at_call 89; first
        | (with_reducible refine (zdg s x HX.out _ hm).mono ?_;rintro e w' ⟨rfl,hw⟩;rw [hw,H1.out];clear hw)
        | (with_reducible refine (zdg t y HY.out _ hm2).mono ?_;rintro e w' ⟨rfl,hw⟩;rw [hw,H2.out];clear hw))
       go_ret2
       exact ⟨rfl,Below.refl _ _⟩
     · have H2 := Lib.hid hn2
       have h3:x=[]:=by rw [hn1,hn2] at h;simpa using h
       have he:=zfE hx h3
       clear hn1 hn2 h hx hy h3
       go_enter Tryz.func71,Tryz.ntmps71
       go_wp2_with (go_at_call 89; first
        | (with_reducible refine (zdg s x HX.out _ hm).mono ?_;rintro e w' ⟨rfl,hw⟩;rw [hw,H1.out];clear hw)
        | (with_reducible refine (zdg t y HY.out _ hm2).mono ?_;rintro e w' ⟨rfl,hw⟩;rw [hw,H2.out];clear hw))
       go_ret2
       exact ⟨rfl,Below.refl _ _⟩
 · have hn1 : zaO x = true := by rcases hb : zaO x with _ | _; exact absurd (.inl hb) h; rfl
   have hn2:zaO y=true:=by rcases hb:zaO y with _ | _;exact absurd (.inr (.inl hb)) h;rfl
   have hne:=s_ne hx (fun e=>h (.inr (.inr e)))
   have H1:=Lib.hid hn1
   have H2:=Lib.hid hn2
   clear hn1 hn2
   by_cases h2:wd < 1∨64 < wd
   · obtain ⟨e1, e2⟩ := namesE_2 h h2
     rw [e1,e2]
     clear e1 e2 h hx hy
     rcases h2 with h2 | h2
     all_goals
      go_enter Tryz.func71,Tryz.ntmps71
      go_wp2_with (go_at_call 89; first
       | (with_reducible refine (zdg s x HX.out _ hm).mono ?_;rintro e w' ⟨rfl,hw⟩;rw [hw,H1.out];clear hw)
       | (with_reducible refine (zdg t y HY.out _ hm2).mono ?_;rintro e w' ⟨rfl,hw⟩;rw [hw,H2.out];clear hw))
      go_ret2
      exact ⟨rfl,Below.refl _ _⟩
   · obtain ⟨e1, e2⟩ := namesE_3 h h2
     rw [e1,e2]
     clear e1 e2 h
     obtain ⟨n,rfl⟩ : ∃n:Nat,wd=(n:Int):=⟨wd.toNat,by omega⟩
     have n1:1≤n:=by omega
     have n2:n≤64:=by omega
     clear h2
     obtain ⟨SA,hSA⟩ : ∃SA,S (exL 32 60 x)=SA:=⟨_,rfl⟩
     obtain ⟨SB,hSB⟩ : ∃SB,S (exL 32 60 y)=SB:=⟨_,rfl⟩
     have HA:=Lib.hid hSA
     have HB:=Lib.hid hSB
     have hla:SA.size≤140737488355328:=by rw [←hSA,zao,zah,←zao,←HX.out];exact hm
     have hlb:SB.size≤140737488355328:=by rw [←hSB,zao,zah,←zao,←HY.out];exact hm2
     by_cases hy0:y=[]
     · have ht := zfE hy hy0
       obtain ⟨SW,hSW⟩ : ∃SW,S (zaX (exL 32 60 x) n)=SW:=⟨_,rfl⟩
       have hwl:n≤SW.size:=by rw [←hSW,zao];exact wideL_len _ _
       have hF:Hid (SW.extract 0 n=S (zbk x y n)):=Lib.hid (by rw [←hSW,zbI,hy0,zgU];simp)
       have HW:=Lib.hid hSW
       clear hSA hSB hSW hx hy hy0
       go_enter Tryz.func71,Tryz.ntmps71
       go_wp2_with (first
        | (go_at_call 89; first
          | (with_reducible refine (zdg s x HX.out _ hm).mono ?_;rintro e w' ⟨rfl,hw⟩;rw [hw,H1.out];clear hw)
          | (with_reducible refine (zdg t y HY.out _ hm2).mono ?_;rintro e w' ⟨rfl,hw⟩;rw [hw,H2.out];clear hw))
        | (go_at_call 95;with_reducible refine (r_fill s x HX.out _ hm).mono ?_;rintro e w1 ⟨rfl,hw1⟩;rw [HA.out])
        | (go_at_call 68;refine (r_wide _ _ HA.out.symm n n2 _).mono ?_;rintro e w' ⟨rfl,hw⟩;rw [hw,HW.out];clear hw))
       go_ret2
       exact ⟨by have:=hF.out;rw [show ((n:Int).toNat)=n from rfl,←this];rfl,hw1⟩
     · have ht := s_ne hy hy0
       have hP : SA ++ (⟨#[60, 60]⟩ ++ SB) = S (exL 32 60 x ++ ([60, 60] ++ exL 32 60 y)) := by
        rw [←hSA,←hSB]
        show S _++(S [60,60]++S _)=_
        rw [zaz,zaz]
       have HP:=Lib.hid hP
       obtain ⟨SW,hSW⟩ : ∃SW,S (zaX (exL 32 60 x++([60,60]++exL 32 60 y)) n)=SW:=⟨_,rfl⟩
       have hwl:n≤SW.size:=by rw [←hSW,zao];exact wideL_len _ _
       have hF:Hid (SW.extract 0 n=S (zbk x y n)):=Lib.hid (by rw [←hSW,zbI,zgq];simp)
       have HW:=Lib.hid hSW
       clear hSA hSB hSW hx hy hy0 hP
       go_enter Tryz.func71,Tryz.ntmps71
       go_wp2_with (first
        | (go_at_call 89; first
          | (with_reducible refine (zdg s x HX.out _ hm).mono ?_;rintro e w' ⟨rfl,hw⟩;rw [hw,H1.out];clear hw)
          | (with_reducible refine (zdg t y HY.out _ hm2).mono ?_;rintro e w' ⟨rfl,hw⟩;rw [hw,H2.out];clear hw))
        | (go_at_call 95; first
          | (with_reducible refine (r_fill s x HX.out _ hm).mono ?_;rintro e w1 ⟨rfl,hw1⟩;rw [HA.out])
          | (with_reducible refine (r_fill t y HY.out _ hm2).mono ?_;rintro e w2 ⟨rfl,hw2⟩;rw [HB.out]))
        | (go_at_call 68;refine (r_wide _ _ HP.out n n2 _).mono ?_;rintro e w' ⟨rfl,hw⟩;rw [hw,HW.out];clear hw))
       go_ret2
       exact ⟨by have:=hF.out;rw [show ((n:Int).toNat)=n from rfl,←this];rfl,zaf hw1 hw2⟩
end Go.Proofs.YtnlhbknajdpnbaaGreatDoor
namespace Go.Proofs.YtnlhbknajdpnbaaGreatDoor
open Go.RowKit
def zgz:ByteArray:=⟨#[48,49,50,51,52,53,54,55,56,57,65,66,67,68,69,70,71,72,73,74,75,76,77,78,79,80,81,82,83,84,85,86,87,88,89,90]⟩
def sgnB (c:UInt8):Bool:=decide ((48≤c.toNat∧c.toNat≤57)∨(65≤c.toNat∧c.toNat≤90))
def alphaL:List UInt8:=[48,49,50,51,52,53,54,55,56,57,65,66,67,68,69,70,71,72,73,74,75,76,77,78,79,80,81,82,83,84,85,86,87,88,89,90]
theorem alpha_sgn (c : UInt8) (h : c ∈ alphaL) : sgnB c = true := by
 have:alphaL.all sgnB=true:=by decide
 exact List.all_eq_true.1 this c h
def SignsIs (w:World) (D most:Nat) (e:Ending) (w':World):Prop:=∃x:List UInt8,e=.returned (.string (S x))∧1≤x.length∧x.length≤most∧(∀c∈x,sgnB c=true)∧w.grownBy w' (some D)∧DiceOk w' D
def BRel_Syz (w:World) (D:Nat) (a:Value) (k:Nat) (wr:World):Prop:=(∃l:List UInt8,l.length=k∧(∀c∈l,sgnB c=true)∧wr.ownsRow w.heap.size 5 1 a k (Us l))∧w.grownBy wr (some D)∧DiceOk wr D
set_option maxRecDepth 40000 in
set_option maxHeartbeats 1000000 in
theorem zgu (D most : Nat) (w : World) (hm : most ≤ 1000) (hm1 : 1 ≤ most) (h : DiceOk w D) :
 Calls Tryz.prog 42 #[.pointer (some ⟨D,0,none⟩),.int .i64 (most:Int)] w (SignsIs w D most):=by
 obtain ⟨i0,hi,hz0,hz1,hz2⟩:=info_parts zaW
 have hDw:=h.lt
 have hN:=zar D most w (by omega) (by omega) h
 have HN:=Lib.hid hN
 clear hN h
 go_enter Tryz.func42,Tryz.ntmps42
 go_wp2_with fail
 refine HN.out.mono ?_
 rintro e w1 ⟨r,hr,rfl,hg,hd⟩
 have H1:=Lib.hid (show BRel_Syz w D (.slice none 0 0) 0 w1 from ⟨⟨[],rfl,by simp,⟨rfl,.inl ⟨rfl,rfl⟩⟩⟩,hg,hd⟩)
 clear HN hg hd
 go_wp2_with fail
 go_loopw [5,6] (fun a i wr=>∃k:Nat,k≤r+1∧i=.int .i64 (1+(r:Int) - (k:Int))∧Hid (BRel_Syz w D a k wr)) (fun _ i _=>(intOf i).toNat)
 case atStart=>exact ⟨0,Nat.zero_le _,by go_num,H1⟩
 case round =>
  clear H1
  obtain ⟨k,hk,rfl,HB⟩:=hrel
  by_cases hlt:k < r+1
  · have d1 : decide ((0 : Int) < 1 + (r : Int) - (k : Int)) = true := by simp; omega
    have HN:=Lib.hid (zar D 36 wr (by decide) (by decide) HB.out.2.2)
    go_wp2_with fail
    refine HN.out.mono ?_
    rintro e w2 ⟨x,hx,rfl,hg,hd⟩
    obtain ⟨l,hl,hls,hown⟩:=HB.out.1
    have hown2 : w2.ownsRow w.heap.size 5 1 u5 k (Us l) := zbm hown hg (by
     rcases hown.2 with ⟨e,_⟩ | ⟨g,cap,cur,e,hb,_⟩
     · rw [e];simp [Value.ownBlock]
     · rw [e];simp [Value.ownBlock];omega)
    have HG:=Lib.hid (show _∧_∧_∧_ from ⟨zae HB.out.2.1 hg,hd,hl,hls⟩)
    clear hown hg hd HN hl hls
    have hxs:x < zgz.size:=hx
    go_wp2_with (at_builtin;refine wpList_append_own _ rfl (.tmp 15) (.tmp 19) 27 rfl w.heap.size 5 i0 (.int .u8 0) 1 1 Tryz.underlying27 hi hz0 hz1 hz2 rfl (by decide) u5 k _ rfl (hown2.alloc _) ⟨w2.heap.size,0,none⟩ 1 1 [_] rfl rfl (zaZ _ _ _) (zby _) (by unfold maxLen;omega) (by omega) (by have:=HG.out.1.size;simp;omega) ?_;intro v3 w3 ho hg3 _)
    have hch:zgz[x]'hxs∈alphaL:=by unfold zgz;exact Array.mem_toList_iff.2 (Array.getElem_mem _)
    have hrow : w3.ownsRow w.heap.size 5 1 v3 (k + 1) (Us (l ++ [zgz[x]'hxs])) := by
     rw [zaP]
     exact ho
    have hgw:=zaF (zae HG.out.1 (zaB w2 (.cells #[.int .u8 ((zgz[x]'hxs).toNat:Int)] 5) (some D))) hg3 (fun g e=>(hown2.lt g e).1)
    have hdd:DiceOk w3 D:=(HG.out.2.1.below ((Below.refl _ _).alloc (Nat.le_refl _) (.cells #[.int .u8 ((zgz[x]'hxs).toNat:Int)] 5))).grown hg3 (fun g e=>by have:=(hown2.lt g e).1;omega)
    have HF := Lib.hid (show BRel_Syz w D v3 (k + 1) w3 from ⟨⟨_, by rw [List.length_append, HG.out.2.2.1]; rfl, (fun c hc => by
     rcases List.mem_append.1 hc with h | h
     · exact HG.out.2.2.2 c h
     · rw [List.mem_singleton.1 h];exact alpha_sgn _ hch),hrow⟩,hgw,hdd⟩)
    clear hrow hgw hdd ho hg3 hown2 hch
    go_roundw
    case rel=>exact ⟨k+1,by omega,by go_num,HF⟩
    case measure=>simp [intOf];omega
  · obtain rfl : k = r + 1 := by omega
    have d1:decide ((0:Int) < 1+(r:Int) - ((r+1:Nat):Int))=false:=by simp;omega
    obtain ⟨l,hl,hls,hown⟩:=HB.out.1
    obtain ⟨A,c,e⟩:=own_form hown
    subst e
    have hc:=zcD wr _ _ _ (Sees.of_own hown) (r+1) c hl.symm
    have HF:=Lib.hid (show SignsIs w D most (.returned (.string (S l))) wr from ⟨l,rfl,by omega,by omega,hls,HB.out.2⟩)
    clear hown HB hls
    go_wp2_with fail
    go_ret
    exact HF.out
end Go.Proofs.YtnlhbknajdpnbaaGreatDoor
