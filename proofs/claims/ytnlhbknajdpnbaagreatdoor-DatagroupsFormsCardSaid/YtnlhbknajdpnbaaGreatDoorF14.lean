/-
  What is proved here: the reference's Encode.
-/
import Derived.Test.YtnlhbknajdpnbaaGreatDoorF13
import Derived.Test.YtnlhbknajdpnbaaGreatDoorF12
import Derived.Laws.AppendOwnNone
import Derived.Lib.Hide
set_option linter.unusedVariables false
set_option linter.unusedSimpArgs false
namespace Go.Proofs.YtnlhbknajdpnbaaGreatDoor
open Go.RowKit
theorem lit_sees {w c c' : World} {g : Nat} {v : List UInt8} {vs : List Value} (hf : Fresh c c' g) (hr : RowV c' g vs) (hv : vs = Us v) (hs : w.heap.size ≤ c.heap.size) : SeesP c' (newB w c') (some ⟨g, 0, none⟩) (Us v) :=
 .inr ⟨g,0,rfl,⟨by rw [hf.1];exact hs,hr.lt⟩,fun j hj=>by rw [Nat.zero_add,hr.cell,hv]⟩
theorem r_enc_bad (l : List Tm) (n : Nat) (hn : l.length = n) (hv : zbt l = 2) (hc : n = 0 ∨ 8 < n) (A : Option Addr) (c : Nat) (w : World) :
 Calls Tryz.prog 45 #[.slice A n c] w (EncIs l w):=by
 have HD := Lib.hid (show EncIs l w (.returned (.tuple #[.slice none 0 0, .int .i64 2])) w from by
  have hf:encF l=.nil:=by unfold encF;rw [if_neg (by rw [hv];decide)]
  unfold EncIs
  rw [hf,hv]
  exact ⟨none,0,rfl,Nat.le_refl _,SeesN.nil_,Below.refl _ _⟩)
 clear hn hv
 rcases hc with rfl | hc
 · go_enter Tryz.func45, Tryz.ntmps45
   go_wp2
   go_ret2
   exact HD.out
 · have d1 : decide ((n : Int) < 1) = false := by simp; omega
   have d8:decide ((8:Int) < (n:Int))=true:=by simp;omega
   clear hc
   go_enter Tryz.func45,Tryz.ntmps45
   go_wp2
   go_ret2
   exact HD.out
set_option maxHeartbeats 6400000 in
set_option maxRecDepth 20000 in
theorem r_encode (l : List Tm) (n : Nat) (hn : l.length = n) (A : Option Addr) (c : Nat) (w : World) (hs : SeesT w (· < w.heap.size) A l) :
 Calls Tryz.prog 45 #[.slice A n c] w (EncIs l w):=by
 by_cases h0:n=0
 · exact r_enc_bad l n hn (by unfold zbt;rw [if_pos (by omega)]) (.inl h0) A c w
 by_cases h8:8 < n
 · exact r_enc_bad l n hn (by unfold zbt;rw [if_pos (by omega)]) (.inr h8) A c w
 obtain ⟨i0,hi,hz0,hz1,hz2⟩:=info_parts zcq
 have d1:decide ((n:Int) < 1)=false:=by simp;omega
 have d8:decide ((8:Int) < (n:Int))=false:=by simp;omega
 have hv:zbt l=chkT l:=by unfold zbt;rw [if_neg (by omega)]
 have hcu:IntKind.u8.wrap (n:Int)=(n:Int):=by rw [IntKind.wrap_u8];omega
 have hun:Value.int .u8 (n:Int)=U (UInt8.ofNat n):=by rw [←u8_wrap,hcu]
 have HS:=Lib.hid hs
 have HN:=Lib.hid hn
 have HV:=Lib.hid hv
 have HB:=Lib.hid (Below.refl w.heap.size w)
 have HUN:=Lib.hid hun
 have hn8:n≤8:=by omega
 have hn0:0 < n:=by omega
 clear hs hn hv h0 h8 hun
 go_enter Tryz.func45,Tryz.ntmps45
 go_wp2_with (first
  | ((with_reducible refine zal (d:=18) ?_);go_must (refine zap rfl 27 5 1 _ rfl Tryz.underlying27 (pe1 (HUN.out)) (bsu1 _) ?_);intro g1 w1 hf hr;have H1:=Lib.hid (show _∧_ from ⟨hf.bw,lit_sees (w:=w) (v:=[UInt8.ofNat n]) hf hr rfl (Nat.le_refl _)⟩);clear hf hr)
  | (go_at_call 39;go_must (refine (zcT 2 [UInt8.ofNat n] 1 rfl (by decide) (some ⟨g1,0,none⟩) 1 (fun h=>by cases h) _ (H1.out.2.imp fun b hb=>hb.2)).mono ?_);(skip;rintro e w2 ⟨A2,c2,rfl,h2,s2,hb⟩);have H2:=Lib.hid (show _∧_∧_ from ⟨h2,s2.imp (p':=newB w w2) fun b hb2=>zaH hb2 H1.out.1.size (Nat.le_refl _),zaf H1.out.1 hb⟩);clear h2 s2 hb)
  | ((with_reducible refine zal (d:=20) ?_);go_must (refine zcl rfl 30 64 1 _ rfl Tryz.underlying30 (pe1 rfl) (bs1 _ _ _) ?_);intro g3 w3 hf hr;have H3:=Lib.hid (show HeldN w w3 (.slice (some ⟨g3,0,none⟩) 1 1) (cntF n)∧Below w.heap.size w w3 from ⟨⟨_,zdX hr rfl (by decide) (hf.ge H2.out.2.2),A2,c2,none,0,[],[],by rw [zav];rfl,⟨H2.out.1.1,by rw [zav];exact H2.out.1.2,Nat.zero_le _⟩,by rw [octL1];exact ((H2.out.2.1.keep fun q hq=>hf.bw.cell hq.2).imp fun b hb=>⟨⟨hb.1,Nat.lt_of_lt_of_le hb.2 hf.bw.size⟩,fun e=>by have e:some g3=some b:=e;injection e with e;have:=hb.2;have:=hf.1;omega⟩),.inl rfl,rfl,rfl⟩,zaf H2.out.2.2 hf.bw⟩);clear hf hr))
 clear HB hcu
 go_loopw [4,5] (fun v i wr=>∃(j:Nat),j≤n∧i=.int .i64 (j:Int)∧Hid (HeldN w wr v ((cntF n).app (zdu (l.take j)))∧Below w.heap.size w wr∧chkT (l.drop j)=chkT l)) (fun _ i _=>n - (intOf i).toNat)
 case atStart=>exact ⟨0,by omega,rfl,Lib.hid ⟨H3.out.1,H3.out.2,rfl⟩⟩
 case round =>
  obtain ⟨j,hj,rfl,HR⟩:=hrel
  by_cases hlt:j < n
  · have dj : decide ((j : Int) < (n : Int)) = true := by simp; omega
    obtain ⟨x,hx⟩ : ∃x,l[j]? = some x:=⟨_,List.getElem?_eq_getElem (by rw [HN.out];exact hlt)⟩
    obtain ⟨b,off,Ad,cd,rfl,hb,hr,hd0,_,hd⟩:=tm_at HS.out hx
    have hr2:=fun cur (h:Below w.heap.size w cur)=>zbY hr hb h
    obtain ⟨v,hvv⟩ : ∃v,vT x=v:=⟨_,rfl⟩
    have hstep:=chkT_drop hx
    have hval:=fun w=>r_valid_B2 x Ad cd w
    have hob:=fun (hv:vT x=0) w0 (h:SeesP w0 (· < w0.heap.size) Ad (Us x.d))=>r_object x hv Ad cd w0 hd0 h
    rw [hvv] at hstep hval hob
    have htk:=take_objs hx (cntF n)
    obtain ⟨us,hus⟩ : ∃us,x.cs Ad cd=us:=⟨_,rfl⟩
    have hu7:us.length=7:=by rw [←hus];rfl
    rw [hus] at hr2 hval hob
    obtain ⟨fN,hfN⟩ : ∃q,(cntF n).app (zdu (l.take j))=q:=⟨_,rfl⟩
    have hfl:fN.len=j+1:=by rw [←hfN,F.len_app,objs_len,List.length_take,HN.out];simp only [cntF,F.len];omega
    rw [hfN] at HR htk
    have HU:=Lib.hid (show _∧_∧_∧_∧_ from ⟨hr2,hval,hu7,hob,hd⟩)
    have HT:=Lib.hid (show _∧_ from ⟨htk,hstep⟩)
    clear hr hr2 hval hob hu7 hd hus hx hvv htk hfN hd0 hstep
    by_cases h:v=0
    · subst h
      have HOB:=Lib.hid (HU.out.2.2.2.1 rfl)
      go_wp2_with (first
       | ((with_reducible refine zaa (d:=30) ?_);refine wpList_load_mid rfl 85 (.tmp 29) rfl b (off+j*7) rfl us _ (HU.out.1 _ HR.out.2.1) Tryz.underlying85 rfl (by rw [HU.out.2.2.1];exact zbg) ?_)
       | (go_at_call 75;((with_reducible refine (HU.out.2.1 _).mono ?_);rintro e w6 ⟨rfl,hb⟩);have H6:=Lib.hid (show _∧_ from ⟨HR.out.1.on hb,zaf HR.out.2.1 hb⟩);clear hb)
       | ((with_reducible refine zaa (d:=39) ?_);refine wpList_load_mid rfl 85 (.tmp 38) rfl b (off+j*7) rfl us _ (HU.out.1 _ H6.out.2) Tryz.underlying85 rfl (by rw [HU.out.2.2.1];exact zbg) ?_)
       | (go_at_call 76;((with_reducible refine (HOB.out _ (SeesP.on2 HU.out.2.2.2.2 H6.out.2)).mono ?_);rintro e w9 ⟨A9,c9,rfl,h1,h2,hb⟩);have H9:=Lib.hid (show _∧_∧_ from ⟨h1,h2,hb⟩);clear h1 h2 hb)
       | ((with_reducible refine zal (d:=41) ?_);go_must (refine zap rfl 30 64 1 _ rfl Tryz.underlying30 (pe1 rfl) (bs1 _ _ _) ?_);intro g5 w10 hf hr;have H10:=Lib.hid (show _∧_ from ⟨hf,hr⟩);clear hf hr)
       | ((with_reducible refine zaS (d:=42) ?_);obtain ⟨cs,hc1,hc2⟩:=H6.out.1;go_must (refine wpList_append_lies _ rfl (.tmp 35) (.tmp 41) 30 rfl w.heap.size 64 i0 _ 3 56 Tryz.underlying30 hi hz0 hz1 hz2 rfl (by decide) u4 fN.len cs rfl (zaI (zaI hc1 H9.out.2.2) H10.out.1.bw) ⟨g5,0,none⟩ 1 1 (nodV 32608 none 0 0 A9 2 c9) rfl rfl H10.out.2.src (zbK _ _ _ _ _ _ _) (by decide) (by unfold maxLen;omega) (by omega) (Nat.le_trans H6.out.2.size (Nat.le_trans H9.out.2.2.size H10.out.1.bw.size)) _ rfl ?_);intro g6 c6 w11 ho hg hl hlt;have H11:=Lib.hid (show HeldN w w11 _ (fN.app (.cons 32608 [] (objK x) .nil))∧Below w.heap.size w w11 from ⟨HeldN.snoc (wr:=w6) (w1:=w9) (wa:=w10) (x:=[]) (k:=objK x) H9.out.2.2 H10.out.1.bw ⟨fun _=>rfl,Nat.zero_le _,H9.out.1⟩ (.inl rfl) H9.out.2.1 H6.out.2.size cs hc1 hc2 rfl ho hg hl,zbo (zaf (zaf H6.out.2 H9.out.2.2) H10.out.1.bw) hg fun k e=>(zas hc1 k e).1⟩);clear ho hg hl hlt hc1 hc2))
      go_roundw
      case rel=>exact ⟨j+1,by omega,by first | rfl | go_num,Lib.hid ⟨by have h:=H11.out.1;rw [hfl] at h;rw [HT.out.1];exact h,H11.out.2,by rw [←HR.out.2.2,HT.out.2];simp⟩⟩
      case measure=>simp [intOf];omega
    · have dv : (v != 0) = true := by simpa using h
      have HC:=Lib.hid (show chkT l=v from by rw [←HR.out.2.2,HT.out.2];simp [h])
      go_wp2_with (first
       | ((with_reducible refine zaa (d:=30) ?_);refine wpList_load_mid rfl 85 (.tmp 29) rfl b (off+j*7) rfl us _ (HU.out.1 _ HR.out.2.1) Tryz.underlying85 rfl (by rw [HU.out.2.2.1];exact zbg) ?_)
       | (go_at_call 75;((with_reducible refine (HU.out.2.1 _).mono ?_);rintro e w6 ⟨rfl,hb⟩);have H6:=Lib.hid (show _∧_ from ⟨HR.out.1.on hb,zaf HR.out.2.1 hb⟩);clear hb))
      have HD := Lib.hid (show EncIs l w (.returned (.tuple #[.slice none 0 0, .int .i64 v])) w6 from by
       have he:zbt l=v:=by rw [HV.out,HC.out]
       have hf:encF l=.nil:=by unfold encF;rw [if_neg (by rw [he];exact h)]
       unfold EncIs
       rw [hf,he]
       exact ⟨none,0,rfl,Nat.le_refl _,SeesN.nil_,H6.out.2⟩)
      go_ret2
      exact HD.out
  · obtain rfl : j = n := by omega
    have dj:decide ((j:Int) < (j:Int))=false:=by simp
    obtain ⟨Ah,ch,rfl,hlh,hsh⟩:=HR.out.1.slice
    have e6:(cntF j).app (zdu (l.take j))=listK l:=by rw [List.take_of_length_le (by rw [HN.out];exact Nat.le_refl _)];simp only [cntF,F.app,listK,HN.out]
    have e7:((cntF j).app (zdu (l.take j))).len=j+1:=by rw [F.len_app,objs_len,List.length_take,HN.out];simp only [cntF,F.len];omega
    have e8:chkT l=0:=by rw [←HR.out.2.2,List.drop_of_length_le (by rw [HN.out];exact Nat.le_refl _)];rfl
    rw [e7] at hlh ⊢
    rw [e6] at hsh
    have HH:=Lib.hid (show _∧_∧_ from ⟨hsh,hlh,HR.out.2.1⟩)
    have HF:=Lib.hid (show encF l=listF l∧zbt l=0∧(listK l).len=j+1 from ⟨by unfold encF;rw [if_pos (by rw [HV.out,e8])],by rw [HV.out,e8],by rw [←e6,e7]⟩)
    clear e6 e7 e8 hlh hsh HR
    go_wp2_with (first
     | (go_at_call 56;((with_reducible refine (zeO 32609 Ah (j+1) ch _).mono ?_);rintro e w7 ⟨rfl,hb⟩);have H7:=Lib.hid hb;clear hb)
     | ((with_reducible refine zal (d:=45) ?_);go_must (refine zap rfl 30 64 1 _ rfl Tryz.underlying30 (pe1 rfl) (bs1 _ _ _) ?_);intro g5 w8 hf hr;have H8:=Lib.hid (show _∧_ from ⟨hf,hr⟩);clear hf hr))
    have HD := Lib.hid (show EncIs l w (.returned (.tuple #[.slice (some ⟨g5, 0, none⟩) 1 1, .int .i64 0])) w8 from by
     unfold EncIs
     rw [HF.out.1,HF.out.2.1]
     refine ⟨_,1,rfl,Nat.le_refl _,?_,zaf (zaf HH.out.2.2 H7.out) H8.out.1.bw⟩
     obtain ⟨ks,k1,k2⟩:=(HH.out.1.newOn H7.out).newOn H8.out.1.bw
     exact ⟨_,.inr ⟨g5,0,rfl,⟨H8.out.1.ge (zaf HH.out.2.2 H7.out),H8.out.2.lt⟩,fun j hj=>by rw [Nat.zero_add,H8.out.2.cell]⟩,none,0,Ah,ch,ks,[],by rw [HF.out.2.2];rfl,⟨fun _=>rfl,Nat.zero_le _,by rw [HF.out.2.2];exact HH.out.2.1⟩,.inl rfl,k1,k2,rfl⟩)
    go_ret2
    exact HD.out
end Go.Proofs.YtnlhbknajdpnbaaGreatDoor
namespace Go.Proofs.YtnlhbknajdpnbaaGreatDoor
open Go.RowKit
theorem fa_n0 (g:Nat) (w:World):(Instr.fieldAt 64 (.pointer (some ⟨g,0,none⟩)) 0).run Tryz.prog w=.ok (.pointer (some ⟨g,0,none⟩)) w:=by kernel_rfl
theorem fa_n1 (g:Nat) (w:World):(Instr.fieldAt 64 (.pointer (some ⟨g,0,none⟩)) 1).run Tryz.prog w=.ok (.pointer (some ⟨g,1,none⟩)) w:=by kernel_rfl
theorem ix_nod (g o n c k : Nat) (hk : k < n) (w : World) : (Instr.indexAt 30 (.slice (some ⟨g, o, none⟩) n c) (.int .i64 (k : Int))).run Tryz.prog w = .ok (.pointer (some ⟨g, o + k * 3, none⟩)) w := by
 have h0:(k:Int) < (n:Int):=by omega
 have h1:(0:Int)≤(k:Int):=by omega
 simp [go_sem,Addr.add,h0,h1]
end Go.Proofs.YtnlhbknajdpnbaaGreatDoor
namespace Go.Proofs.YtnlhbknajdpnbaaGreatDoor
open Go.RowKit
def TmpIs (o : Option Tm) (w : World) (e : Ending) (w' : World) : Prop := ∃ cs : List Value, cs.length = 7 ∧ (∀ u ∈ cs, u.oneCell' = true) ∧ e = .returned (.tuple #[.agg cs.toArray, .bool o.isSome]) ∧
 (∀x,o=some x→∃A c,cs=x.cs A c∧((A=none→c=0)∧x.d.length≤c)∧SeesP w' (newB w w') A (Us x.d))∧Below w.heap.size w w'
theorem TmpIs.bad {o : Option Tm} {w w' : World} (h : o = none) (hb : Below w.heap.size w w') : TmpIs o w (.returned (.tuple #[.agg zerT.toArray, .bool false])) w' :=
 ⟨zerT,rfl,cs_one default none 0,by rw [h];rfl,fun x hx=>(by rw [h] at hx;cases hx),hb⟩
theorem size_sl:(Tryz.prog.info? 27).map (·.size)=some 1:=by kernel_rfl
end Go.Proofs.YtnlhbknajdpnbaaGreatDoor
namespace Go.Proofs.YtnlhbknajdpnbaaGreatDoor
open Go.RowKit
def OlW (w1:World) (n1:List Value) (b:Nat) (S:Nat→Bool) (c:World):Prop:=Below w1.heap.size w1 c∧(S 11=true→w1.heap.size≤b∧RowV c b (if S 12=true then n1 else zerN))
theorem OlW.keep {w1 c : World} {n1 : List Value} {b i : Nat} {S : Nat → Bool} (h : OlW w1 n1 b S c) (h1 : 11 ≠ i) (h2 : 12 ≠ i) : OlW w1 n1 b (fun j => S j || j == i) c := by
 obtain ⟨g1,g2⟩:=h
 refine ⟨g1,fun hS=>?_⟩
 have e1:(S 11 || 11==i)=S 11:=by simp [h1]
 have e2:(S 12 || 12==i)=S 12:=by simp [h2]
 show _∧RowV c b (if (S 12 || 12==i)=true then n1 else zerN)
 rw [e2]
 exact g2 (by rw [←e1];exact hS)
def LstIs (o:Option (List Tm)) (w:World) (e:Ending) (w':World):Prop:=(o=none→e=.returned (.tuple #[.slice none 0 0,.bool false]))∧(∀L,o=some L→∃A c,e=.returned (.tuple #[.slice A L.length c,.bool true])∧SeesT w' (newB w w') A L)∧Below w.heap.size w w'
theorem LstIs.bad {o : Option (List Tm)} {w w' : World} (h : o = none) (hb : Below w.heap.size w w') : LstIs o w (.returned (.tuple #[.slice none 0 0, .bool false])) w' :=
 ⟨fun _=>rfl,fun L hL=>(by rw [h] at hL;cases hL),hb⟩
def RowT (w c:World) (gT m:Nat) (vs:List Value) (L:List Tm):Prop:=RowV c gT vs∧vs.length=m*7∧w.heap.size≤gT∧∀k x,L[k]? = some x→TmIn c (fun b=>newB w c b∧b≠gT) vs k x
theorem RowT.on {w c c' : World} {gT m : Nat} {vs : List Value} {L : List Tm} (h : RowT w c gT m vs L) (hb : Below c.heap.size c c') : RowT w c' gT m vs L :=
 ⟨h.1.on hb,h.2.1,h.2.2.1,fun k x hx=>((h.2.2.2 k x hx).keep fun q hq=>hb.cell hq.1.2).imp fun b hq=>⟨⟨hq.1.1,Nat.lt_of_lt_of_le hq.1.2 hb.size⟩,hq.2⟩⟩
def spl (vs:List Value) (o:Nat) (us:List Value):List Value:=vs.take o++us++vs.drop (o+us.length)
theorem spl_len {vs us : List Value} {o : Nat} (h : o + us.length ≤ vs.length) : (spl vs o us).length = vs.length := by
 simp [spl];omega
theorem RowT.put {w c c' : World} {gT m j : Nat} {vs : List Value} {L : List Tm} {x : Tm} {A : Option Addr} {cd : Nat} (h : RowT w c gT m vs L) (hL : L.length = j) (hj : j < m) (hw : Wr c c' gT) (hr : RowV c' gT (spl vs (j * 7) (x.cs A cd)))
 (h0:(A=none→cd=0)∧x.d.length≤cd) (hd:SeesP c (fun b=>newB w c b∧b≠gT) A (Us x.d)):RowT w c' gT m (spl vs (j*7) (x.cs A cd)) (L++[x]):=by
 obtain ⟨h1,h2,h3,h4⟩:=h
 have hlen:j*7+(x.cs A cd).length≤vs.length:=by rw [h2];simp [Tm.cs];omega
 have kp:∀q:Addr,(newB w c q.block∧q.block≠gT)→c'.cell? q=c.cell? q:=fun q hq=>World.cell?_of_block (hw.2.2.2.2 _ hq.2)
 have ip:∀b,(newB w c b∧b≠gT)→newB w c' b∧b≠gT:=fun b hb=>⟨⟨hb.1.1,by rw [hw.2.2.2.1];exact hb.1.2⟩,hb.2⟩
 have el:(x.cs A cd).length=7:=rfl
 refine ⟨hr,by rw [spl_len hlen,h2],h3,fun k y hy=>?_⟩
 rw [List.getElem?_append] at hy
 split at hy
 · rename_i hk
   obtain ⟨A',c1,g0,g1,g2⟩:=h4 k y hy
   refine ⟨A',c1,g0,(g1.keep kp).imp ip,fun i hi=>?_⟩
   rw [←g2 i hi]
   unfold spl
   rw [List.append_assoc,List.getElem?_append,if_pos (by rw [List.length_take];omega),List.getElem?_take,if_pos (by omega)]
 · rename_i hk
   have hk0 : k - L.length = 0 := by
    have:=(List.getElem?_eq_some_iff.1 hy).1
    simpa using this
   rw [hk0] at hy
   injection hy with hy
   subst hy
   refine ⟨A,cd,h0,(hd.keep kp).imp ip,fun i hi=>?_⟩
   have ek:k=j:=by omega
   subst ek
   unfold spl
   rw [List.append_assoc,List.getElem?_append,if_neg (by rw [List.length_take];omega),List.getElem?_append,if_pos (by rw [List.length_take,el];omega)]
   congr 1
   rw [List.length_take];omega
theorem RowT.sees {w c : World} {gT m : Nat} {vs : List Value} {L : List Tm} (h : RowT w c gT m vs L) (hL : L.length = m) : SeesT c (newB w c) (some ⟨gT, 0, none⟩) L := by
 obtain ⟨h1,h2,h3,h4⟩:=h
 exact ⟨vs,.inr ⟨gT,0,rfl,⟨h3,h1.lt⟩,fun j hj=>by rw [Nat.zero_add,h1.cell]⟩,by rw [h2,hL];omega,fun k x hx=>(h4 k x hx).imp fun b hb=>hb.1⟩
theorem info_tb:(Tryz.prog.info? 85).map (fun i=>(i.zero,i.size,i.bytes))=some (some (.agg zerT.toArray),7,72):=by kernel_rfl
end Go.Proofs.YtnlhbknajdpnbaaGreatDoor
namespace Go.Proofs.YtnlhbknajdpnbaaGreatDoor
open Go.RowKit
def DecIs (f:F) (w:World) (e:Ending) (w':World):Prop:=∃A c,e=.returned (.tuple #[.slice A (decV f).length c,.int .i64 (decE f)])∧SeesT w' (newB w w') A (decV f)∧Below w.heap.size w w'
end Go.Proofs.YtnlhbknajdpnbaaGreatDoor
namespace Go.Proofs.YtnlhbknajdpnbaaGreatDoor
open Go.RowKit
structure VarSp where
 al:Nat
 st:Nat
 z:List Value
 u:List Value
def VarW (w1 : World) (Sp : List VarSp) (b : Nat → Nat) (S : Nat → Bool) (c : World) : Prop :=
 Below w1.heap.size w1 c∧(∀s∈Sp,S s.al=true→w1.heap.size≤b s.al∧RowV c (b s.al) (if S s.st=true then s.u else s.z))∧(∀s∈Sp,∀s'∈Sp,s.al≠s'.al→S s.al=true→S s'.al=true→b s.al≠b s'.al)
def VarOk (Sp:List VarSp):Bool:=Sp.all fun s=>s.al != s.st && Sp.all fun s'=>s.al != s'.st && s.st != s'.al && (s.al==s'.al)==(s.st==s'.st)
section
variable {w1 c c':World} {Sp:List VarSp} {b:Nat→Nat} {S:Nat→Bool} {i:Nat}
theorem VarW.start (w1:World) (Sp:List VarSp) (b:Nat→Nat):VarW w1 Sp b (fun _=>false) w1:=⟨Below.refl _ _,fun s _ h=>(by cases h),fun s _ s' _ _ h=>(by cases h)⟩
theorem VarW.on (h : VarW w1 Sp b S c) (hb : Below c.heap.size c c') : VarW w1 Sp b S c' :=
 ⟨zaf h.1 hb,fun s hs hS=>⟨(h.2.1 s hs hS).1,(h.2.1 s hs hS).2.on hb⟩,h.2.2⟩
theorem VarW.keep (h : VarW w1 Sp b S c) (hi : (Sp.all fun s => s.al != i && s.st != i) = true) : VarW w1 Sp b (fun j => S j || j == i) c := by
 rw [List.all_eq_true] at hi
 have ea : ∀ s ∈ Sp, (S s.al || s.al == i) = S s.al ∧ (S s.st || s.st == i) = S s.st := fun s hs => by
  have:=hi s hs
  simp at this
  simp [this.1,this.2]
 refine ⟨h.1,fun s hs hS=>?_,fun s hs s' hs' hne h1 h2=>h.2.2 s hs s' hs' hne (by rw [←(ea s hs).1];exact h1) (by rw [←(ea s' hs').1];exact h2)⟩
 show _∧RowV c (b s.al) (if (S s.st || s.st==i)=true then s.u else s.z)
 rw [(ea s hs).2]
 exact h.2.1 s hs (by rw [←(ea s hs).1];exact hS)
theorem VarW.new {s0 : VarSp} {g : Nat} (hok : VarOk Sp = true) (h : VarW w1 Sp b S c) (h0 : s0 ∈ Sp) (hi : s0.al = i) (hst : S s0.st = false) (hf : Fresh c c' g) (hr : RowV c' g s0.z) (hz : ∀ s ∈ Sp, s.al = s0.al → s.z = s0.z) :
 VarW w1 Sp (fun j=>if j=i then g else b j) (fun j=>S j || j==i) c':=by
 subst hi
 unfold VarOk at hok
 rw [List.all_eq_true] at hok
 have key : ∀ s ∈ Sp, (s.st == s0.al) = false ∧ (s.al = s0.al → s.st = s0.st) := fun s hs => by
  have h1:=hok s hs
  simp only [Bool.and_eq_true,List.all_eq_true] at h1
  have h2:=h1.2 s0 h0
  refine ⟨by simpa using h2.1.2,fun e=>?_⟩
  have h3:=h2.2
  simp [e] at h3
  first | exact h3 | exact h3.symm
 refine ⟨zaf h.1 hf.bw,fun s hs hS=>?_,fun s hs s' hs' hne h1 h2=>?_⟩
 · show w1.heap.size ≤ (if s.al = s0.al then g else b s.al) ∧ RowV c' (if s.al = s0.al then g else b s.al) (if (S s.st || s.st == s0.al) = true then s.u else s.z)
   rw [(key s hs).1,Bool.or_false]
   by_cases e:s.al=s0.al
   · rw [if_pos e, (key s hs).2 e, hst]
     simp only [Bool.false_eq_true,if_false]
     rw [hz s hs e]
     exact ⟨hf.ge h.1,hr⟩
   · rw [if_neg e]
     have hS':S s.al=true:=by simpa [e] using hS
     exact ⟨(h.2.1 s hs hS').1,(h.2.1 s hs hS').2.on hf.bw⟩
 · show (if s.al = s0.al then g else b s.al) ≠ (if s'.al = s0.al then g else b s'.al)
   by_cases e:s.al=s0.al
   · have e' : s'.al ≠ s0.al := fun h => hne (e.trans h.symm)
     rw [if_pos e,if_neg e']
     have hS':S s'.al=true:=by simpa [e'] using h2
     exact ((h.2.1 s' hs' hS').2.ne hf).symm
   · rw [if_neg e]
     have hS':S s.al=true:=by simpa [e] using h1
     by_cases e':s'.al=s0.al
     · rw [if_pos e']
       exact (h.2.1 s hs hS').2.ne hf
     · rw [if_neg e']
       have hS2:S s'.al=true:=by simpa [e'] using h2
       exact h.2.2 s hs s' hs' hne hS' hS2
theorem VarW.row {s0 : VarSp} (h : VarW w1 Sp b S c) (h0 : s0 ∈ Sp) (ha : S s0.al = true) (hst : S s0.st = false) : RowV c (b s0.al) s0.z := by
 have:=(h.2.1 s0 h0 ha).2
 rw [hst] at this
 simpa using this
end
end Go.Proofs.YtnlhbknajdpnbaaGreatDoor
namespace Go.Proofs.YtnlhbknajdpnbaaGreatDoor
open Go.RowKit
def HeldT (w wr:World) (v:Value) (L:List Tm):Prop:=∃cs,wr.ownsRow w.heap.size 85 7 v L.length cs∧TmsIn wr (fun b=>newB w wr b∧v.ownBlock≠some b) cs L
theorem HeldT.start (w wr:World):HeldT w wr (.slice none 0 0) []:=⟨[],⟨rfl,.inl ⟨rfl,rfl⟩⟩,TmsIn.nil_⟩
theorem HeldT.on {w wr w' : World} {v : Value} {L : List Tm} (h : HeldT w wr v L) (hb : Below wr.heap.size wr w') : HeldT w w' v L := by
 obtain ⟨cs,h1,h2⟩:=h
 exact ⟨cs,zaI h1 hb,(h2.keep fun q hq=>hb.cell hq.1.2).imp fun b h=>⟨⟨h.1.1,Nat.lt_of_lt_of_le h.1.2 hb.size⟩,h.2⟩⟩
theorem HeldT.slice {w wr : World} {v : Value} {L : List Tm} (h : HeldT w wr v L) : ∃ A c, v = .slice A L.length c ∧ SeesT wr (newB w wr) A L := by
 obtain ⟨cs,h1,h2⟩:=h
 rcases h1.2 with ⟨rfl,h0⟩ | ⟨g,cap,cur,rfl,hb,hh,hn,hm,hs,ht⟩
 · have : L = [] := List.eq_nil_of_length_eq_zero h0
   subst this
   exact ⟨none,0,rfl,SeesT.nil_⟩
 · refine ⟨_, cap, rfl, cs, .inr ⟨g, 0, rfl, ⟨hb, lt_of_block hh⟩, fun j hj => ?_⟩, h2.imp fun _ hb => hb.1⟩
   have hl:=h1.1
   rw [Nat.zero_add,cell_of_row wr g j cur _ (0,0) hh,←ht,List.getElem?_take,if_pos (by omega),Array.getElem?_toList]
theorem HeldT.snoc {w wr w1 wa w2 : World} {v : Value} {L : List Tm} {x : Tm} {Ad : Option Addr} {cd g cap n : Nat} (h01 : Below wr.heap.size wr w1) (ha : Below w1.heap.size w1 wa)
 (hn0:(Ad=none→cd=0)∧x.d.length≤cd) (hv:SeesP w1 (newB wr w1) Ad (Us x.d)) (hww:w.heap.size≤wr.heap.size)
 (cs:List Value) (hc1:wr.ownsRow w.heap.size 85 7 v L.length cs) (hc2:TmsIn wr (fun b=>newB w wr b∧v.ownBlock≠some b) cs L) (hn:n=L.length+1)
 (ho:w2.ownsRow w.heap.size 85 7 (.slice (some ⟨g,0,none⟩) n cap) n (cs++x.cs Ad cd)) (hg:wa.grownBy w2 v.ownBlock)
 (hl:v.ownBlock=some g∨g=wa.heap.size):HeldT w w2 (.slice (some ⟨g,0,none⟩) n cap) (L++[x]):=by
 subst hn
 have hold:=zas hc1
 have keep : ∀ q : Addr, q.block < w1.heap.size → v.ownBlock ≠ some q.block → w2.cell? q = w1.cell? q := fun q h1 h2 =>
  (World.cell?_of_block (w:=wa) (hg.block q.block (Nat.lt_of_lt_of_le h1 ha.size) (fun e=>h2 e.symm))).trans (ha.cell h1)
 have hsz:w1.heap.size≤w2.heap.size:=Nat.le_trans ha.size hg.size
 have hwa:=ha.size
 have h01s:=h01.size
 have hp : ∀ b, newB wr w1 b → newB w w2 b ∧ (Value.slice (some ⟨g, 0, none⟩) (L.length + 1) cap).ownBlock ≠ some b := by
  intro b hb
  have h5:=hb.1
  have h6:=hb.2
  refine ⟨⟨by omega,by omega⟩,?_⟩
  intro e
  injection e with e
  simp only at e
  rcases hl with h3 | h3
  · have:=(hold g h3).2;omega
  · omega
 have kp : ∀ q : Addr, newB wr w1 q.block → w2.cell? q = w1.cell? q := by
  intro q hq
  refine keep q hq.2 ?_
  have h5:=hq.1
  intro e
  have:=(hold _ e).2
  omega
 refine ⟨_,by rw [List.length_append];exact ho,TmsIn.snoc ?_ hn0 ((hv.keep kp).imp hp)⟩
 refine (hc2.keep (w':=w2) fun q hq=>(keep q (Nat.lt_of_lt_of_le hq.1.2 h01s) hq.2).trans (h01.cell hq.1.2)).imp ?_
 intro b hb
 have h4:=hb.1.2
 refine ⟨⟨hb.1.1,by omega⟩,?_⟩
 intro e
 injection e with e
 simp only at e
 rcases hl with h3 | h3
 · exact hb.2 (h3.trans (by rw [e]))
 · omega
theorem cell_up {w:World} {g k:Nat} {v:Value} (h:∀w',Below w.heap.size w w'→w'.cell? ⟨g,k,none⟩=some v) (d:Nat) (os:Array Obj):(Go.Sort.grow (redrawn w d) os).cell? ⟨g,k,none⟩=some v:=h _ (below_regrown w d os)
theorem bst1 (a b c d e f:Int) (A:Option Addr) (n cp:Nat):Tryz.prog.builtSlice 85 1 [(0,.agg #[.int .i64 a,.int .i64 b,.int .i64 c,.int .i64 d,.int .i64 e,.int .i64 f,.slice A n cp])]=some #[.int .i64 a,.int .i64 b,.int .i64 c,.int .i64 d,.int .i64 e,.int .i64 f,.slice A n cp]:=by kernel_rfl
theorem o_ixv {P : Program} {a : Act} {w : World} {K : Act → World → Prop} {Q : Exit → Act → World → Prop} {o : Oper} (T : TypeId) (x y : Operand) (ho : o.op = .index T x y) {v vx vy : Value} (hx : a.eval x = vx) (hy : a.eval y = vy) (hr : (Instr.index T vx vy).run P w = .ok v w) (hK : K (a.put o.dst v) w) : o.wp P a w K Q := by
 unfold Oper.wp execOp
 simp only [ho,hx,hy,Sem.run_bind,hr,Result.andThen_ok,Sem.run_pure]
 exact hK
theorem o_not {P : Program} {a : Act} {w : World} {K : Act → World → Prop} {Q : Exit → Act → World → Prop} {o : Oper} (T : TypeId) (x : Operand) (ho : o.op = .unOp .not T x) {b : Bool} (hx : a.eval x = .bool b) (hK : K (a.put o.dst (.bool (!b))) w) : o.wp P a w K Q := by
 unfold Oper.wp execOp
 simp only [ho,hx,Op.unary,Sem.run_bind,Sem.run_pure,Result.andThen_ok]
 exact hK
end Go.Proofs.YtnlhbknajdpnbaaGreatDoor
namespace Go.Proofs.YtnlhbknajdpnbaaGreatDoor
open Go.RowKit
def TmF (wr:World) (x:Tm) (u:Value) (c:World):Prop:=∃A cv,u=.agg (x.cs A cv).toArray∧((A=none→cv=0)∧x.d.length≤cv)∧SeesP c (newB wr c) A (Us x.d)
theorem TmF.firm (wr : World) (x : Tm) : Firm (TmF wr x) := by
 rintro u c c' ⟨A,cv,h1,h2,h3⟩ hb
 exact ⟨A,cv,h1,h2,h3.newOn hb⟩
def TmS (wr:World) (x:Tm) (u:Value) (c:World):Prop:=∃A cv g,u=.slice (some ⟨g,0,none⟩) 1 1∧newB wr c g∧RowV c g (x.cs A cv)∧((A=none→cv=0)∧x.d.length≤cv)∧SeesP c (newB wr c) A (Us x.d)
theorem TmS.firm (wr : World) (x : Tm) : Firm (TmS wr x) := by
 rintro u c c' ⟨A,cv,g,h1,h0,h4,h2,h3⟩ hb
 exact ⟨A,cv,g,h1,⟨h0.1,Nat.lt_of_lt_of_le h0.2 hb.size⟩,h4.on hb,h2,h3.newOn hb⟩
theorem zdN {wr c c' : World} {A : Option Addr} {cs : List Value} {v : Value} (h3 : SeesP c (newB wr c) A cs) (hg : c.grownBy c' v.ownBlock) (hv : ∀ g, v.ownBlock = some g → g < wr.heap.size) : SeesP c' (newB wr c') A cs :=
 (h3.keep fun q hq=>World.cell?_of_block (hg.block _ hq.2 fun e=>by have:=hv _ e.symm;have:=hq.1;omega)).imp fun b hb=>⟨hb.1,Nat.lt_of_lt_of_le hb.2 hg.size⟩
theorem BytF.row {wr : World} {x : List UInt8} {n : Nat} {u : Value} {c c' : World} {v : Value} (h : BytF wr x n u c) (hg : c.grownBy c' v.ownBlock) (hv : ∀ g, v.ownBlock = some g → g < wr.heap.size) : BytF wr x n u c' := by
 obtain ⟨A,cv,h1,h2,h3⟩:=h
 exact ⟨A,cv,h1,h2,zdN h3 hg hv⟩
theorem TmF.row {wr : World} {x : Tm} {u : Value} {c c' : World} {v : Value} (h : TmF wr x u c) (hg : c.grownBy c' v.ownBlock) (hv : ∀ g, v.ownBlock = some g → g < wr.heap.size) : TmF wr x u c' := by
 obtain ⟨A,cv,h1,h2,h3⟩:=h
 exact ⟨A,cv,h1,h2,zdN h3 hg hv⟩
theorem TmS.row {wr : World} {x : Tm} {u : Value} {c c' : World} {v : Value} (h : TmS wr x u c) (hg : c.grownBy c' v.ownBlock) (hv : ∀ g, v.ownBlock = some g → g < wr.heap.size) : TmS wr x u c' := by
 obtain ⟨A,cv,g,h1,h0,h4,h2,h3⟩:=h
 refine ⟨A,cv,g,h1,⟨h0.1,Nat.lt_of_lt_of_le h0.2 hg.size⟩,h4.same (hg.block _ h0.2 fun e=>?_),h2,zdN h3 hg hv⟩
 have:=hv _ e.symm
 have:=h0.1
 omega
def HelT (w:World) (L:List Tm) (u:Value) (c:World):Prop:=HeldT w c u L
theorem HelT.firm (w:World) (L:List Tm):Firm (HelT w L):=fun u c c' h hb=>HeldT.on h hb
theorem DecIs.bad {f : F} {w w' : World} (h : lstT f = none) (hb : Below w.heap.size w w') : DecIs f w (.returned (.tuple #[.slice none 0 0, .int .i64 1])) w' := by
 have h1:decV f=[]∧decE f=1:=by unfold decV decE;rw [h];exact ⟨rfl,rfl⟩
 unfold DecIs
 rw [h1.1,h1.2]
 exact ⟨none,0,rfl,SeesT.nil_,hb⟩
def F.k0 : F → Nat
 | .nil=>0
 | .cons _ _ k _=>k.len
end Go.Proofs.YtnlhbknajdpnbaaGreatDoor
namespace Go.Proofs.YtnlhbknajdpnbaaGreatDoor
theorem pm_mul_l (p a b:Nat):a % p*b % p=a*b % p:=by rw [Nat.mod_mul_mod]
theorem pm_mul_r (p a b:Nat):a*(b % p) % p=a*b % p:=by rw [Nat.mul_mod_mod]
theorem pm_pow (p x k:Nat):(x % p) ^ k % p=x ^ k % p:=(Nat.pow_mod x k p).symm
theorem pm_one {p x a : Nat} (h1 : 1 < p) (h : x ^ a % p = 1) (k : Nat) : x ^ (a * k) % p = 1 := by
 rw [Nat.pow_mul,Nat.pow_mod,h,Nat.one_pow,Nat.mod_eq_of_lt h1]
def sqm (p : Nat) : Nat → Nat → Nat → Nat → Nat
 | 0,r,_,_=>r
 | f+1,r,x,k=>sqm p f (if k % 2=1 then r*x % p else r) (x*x % p) (k / 2)
theorem pm_half (p x k : Nat) : (x * x % p) ^ (k / 2) * (if k % 2 = 1 then x else 1) % p = x ^ k % p := by
 have hk:k=2*(k / 2)+k % 2:=by omega
 have h2 : (x * x % p) ^ (k / 2) % p = x ^ (2 * (k / 2)) % p := by
  rw [pm_pow,Nat.pow_mul,Nat.pow_two]
 rcases Nat.mod_two_eq_zero_or_one k with h | h
 · rw [if_neg (by omega), Nat.mul_one, h2]
   congr 2;omega
 · rw [if_pos h, Nat.mul_mod, h2, ← Nat.mul_mod, ← Nat.pow_succ]
   congr 2;omega
theorem pm_step (p r x k : Nat) : (if k % 2 = 1 then r * x % p else r) * (x * x % p) ^ (k / 2) % p = r * x ^ k % p := by
 rw [←pm_mul_r p r (x ^ k),←pm_half p x k,pm_mul_r]
 split
 · rw [pm_mul_l,Nat.mul_assoc,Nat.mul_comm x]
 · rw [Nat.mul_one]
theorem sqm_is (p : Nat) : ∀ f r x k, k < 2 ^ f → sqm p f r x k % p = r * x ^ k % p
 | 0, r, x, k, h => by
   obtain rfl:k=0:=by simp at h;exact h
   simp [sqm]
 | f + 1, r, x, k, h => by
   unfold sqm
   rw [sqm_is p f _ _ _ (by rw [Nat.pow_succ] at h;omega),pm_step]
def IsPr (p:Nat):Prop:=1 < p∧∀d,d ∣ p→d=1∨d=p
theorem IsPr.coprime {p k : Nat} (h : IsPr p) (h0 : 0 < k) (hk : k < p) : Nat.Coprime p k := by
 rcases h.2 _ (Nat.gcd_dvd_left p k) with e | e
 · exact e
 · have hd : p ∣ k := by have := Nat.gcd_dvd_right p k; rwa [e] at this
   exact absurd (Nat.le_of_dvd h0 hd) (by omega)
def noDiv (n : Nat) : Nat → Nat → Bool
 | 0,_=>true
 | f+1,d=>if n % d=0 then false else noDiv n f (d+1)
theorem noDiv_is {n : Nat} : ∀ {f d : Nat}, noDiv n f d = true → ∀ e, d ≤ e → e < d + f → n % e ≠ 0
 | 0,d,_,e,h1,h2=>by omega
 | f + 1, d, h, e, h1, h2 => by
   unfold noDiv at h
   split at h
   · cases h
   · rename_i hd
     rcases Nat.eq_or_lt_of_le h1 with rfl | h3
     · exact hd
     · exact noDiv_is h e (by omega) (by omega)
theorem zgn {n f : Nat} (h1 : 1 < n) (hf : n < (f + 2) * (f + 2)) (h : noDiv n f 2 = true) : IsPr n := by
 have small : ∀ d, d ∣ n → d < f + 2 → d = 1 := by
  intro d hd hl
  rcases Nat.lt_or_ge d 2 with h2 | h2
  · rcases Nat.eq_zero_or_pos d with rfl | h0
    · rw [Nat.zero_dvd] at hd;omega
    · omega
  · exact absurd (Nat.mod_eq_zero_of_dvd hd) (noDiv_is h d h2 (by omega))
 refine ⟨h1,fun d hd=>?_⟩
 obtain ⟨e,rfl⟩:=hd
 rcases Nat.lt_or_ge d (f+2) with hl | hl
 · exact .inl (small d (Nat.dvd_mul_right _ _) hl)
 · rcases Nat.lt_or_ge e (f + 2) with hl2 | hl2
   · right;rw [small e (Nat.dvd_mul_left _ _) hl2,Nat.mul_one]
   · exact absurd (Nat.mul_le_mul hl hl2) (by omega)
theorem pm_mod {p x a : Nat} (h1 : 1 < p) (h : x ^ a % p = 1) (b : Nat) : x ^ (b % a) % p = x ^ b % p := by
 conv=>rhs;rw [←Nat.div_add_mod b a,Nat.pow_add,Nat.mul_mod,pm_one h1 h,Nat.one_mul,Nat.mod_mod]
theorem pm_gcd {p x : Nat} (h1 : 1 < p) (a b : Nat) : x ^ a % p = 1 → x ^ b % p = 1 → x ^ (Nat.gcd a b) % p = 1 := by
 induction a,b using Nat.gcd.induction with
 | H0 n=>intro _ h;rwa [Nat.gcd_zero_left]
 | H1 m n _ ih =>
   intro ha hb
   rw [Nat.gcd_rec]
   exact ih ((pm_mod h1 ha n).trans hb) ha
theorem pm_order {p q x k : Nat} (h1 : 1 < p) (hq : IsPr q) (hx : x % p ≠ 1) (h : x ^ q % p = 1) (h0 : 0 < k) (hk : k < q) : x ^ k % p ≠ 1 := by
 intro e
 have g:=pm_gcd h1 q k h e
 rw [hq.coprime h0 hk,Nat.pow_one] at g
 exact hx g
def gP:Nat:=2147483579
def gQ:Nat:=1073741789
theorem gQ_prime:IsPr gQ:=zgn (f:=32768) (by decide) (by decide) (by decide +kernel)
theorem zgQ : 4 ^ gQ % gP = 1 := by
 have h:=sqm_is gP 30 1 4 gQ (by decide)
 rw [Nat.one_mul] at h
 rw [←h]
 decide +kernel
end Go.Proofs.YtnlhbknajdpnbaaGreatDoor
