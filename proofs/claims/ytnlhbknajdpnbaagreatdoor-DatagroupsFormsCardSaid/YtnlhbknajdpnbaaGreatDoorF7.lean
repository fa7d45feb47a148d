/-
  What is proved here: what the makers' Bytes and Nodes give: bytes, and objects that can be encoded.
-/
import Derived.Test.YtnlhbknajdpnbaaGreatDoorRows
import Derived.Test.YtnlhbknajdpnbaaGreatDoorF0
import Derived.Test.YtnlhbknajdpnbaaGreatDoorF6
import Derived.Test.YtnlhbknajdpnbaaGreatDoorF5
import Derived.ProofKit
import Derived.OpenShut
import Derived.ShutString
import Derived.ChangeOld
import Derived.SizedLaws
set_option linter.unusedVariables false
set_option linter.unusedSimpArgs false
namespace Go.Proofs.YtnlhbknajdpnbaaGreatDoor
open Go.RowKit
set_option maxRecDepth 8000
def F.gd : F → Nat → Prop
 | .nil,_=>True
 | .cons t v k r,m=>1≤m∧zaA t=true∧(zaE t=true→v=[])∧(zaE t=false→k=.nil)∧v.length≤300∧k.len≤3∧k.gd (m - 1)∧r.gd m
theorem F.gd_app {m : Nat} {g : F} : ∀ {f : F}, f.gd m → g.gd m → (f.app g).gd m
 | .nil,_,h=>h
 | .cons _ _ _ _,⟨h1,h2,h3,h4,h5,h6,h7,h8⟩,h=>⟨h1,h2,h3,h4,h5,h6,h7,F.gd_app h8 h⟩
theorem F.gd_ok : ∀ {f : F} {m : Nat}, f.gd m → f.ok
 | .nil,_,_=>trivial
 | .cons t v k r, m, ⟨h1, h2, h3, h4, h5, h6, h7, h8⟩ => by
   have:=zba h2
   exact ⟨by omega,by omega,F.gd_ok h7,F.gd_ok h8⟩
theorem F.gd_size : ∀ {f : F} {m : Nat}, f.gd m → f.size ≤ f.len * 4 ^ m
 | .nil,_,_=>by simp [F.size]
 | .cons t v k r, m, ⟨h1, h2, h3, h4, h5, h6, h7, h8⟩ => by
   have s1:=F.gd_size h7
   have s2:=F.gd_size h8
   obtain ⟨m',rfl⟩ : ∃m',m=m'+1:=⟨m - 1,by omega⟩
   simp only [Nat.add_sub_cancel] at s1
   have hp:1≤4 ^ m':=Nat.pow_pos (by decide)
   have s3:k.len*4 ^ m'≤3*4 ^ m':=Nat.mul_le_mul_right _ h6
   simp only [F.size,F.len,Nat.pow_succ] at s2 ⊢
   rw [Nat.add_mul,Nat.one_mul]
   omega
theorem zaF {w a b : World} {D : Nat} {row : Option Nat} (h : w.grownBy a (some D)) (hg : a.grownBy b row) (hr : ∀ g, row = some g → w.heap.size ≤ g) : w.grownBy b (some D) := by
 refine ⟨hg.os.trans h.os,hg.tape.trans h.tape,hg.output.trans h.output,Nat.le_trans h.size hg.size,fun k hk hk2=>?_⟩
 refine (hg.block k (Nat.lt_of_lt_of_le hk h.size) ?_).trans (h.block k hk hk2)
 intro e
 have:=hr k e.symm
 omega
def BytesIs (w:World) (D most:Nat) (e:Ending) (w':World):Prop:=∃(v:List UInt8) (A:Option Addr) (c:Nat),e=.returned (.slice A v.length c)∧v.length≤most∧(A=none→c=0)∧v.length≤c∧SeesP w' (newB w w') A (Us v)∧w.grownBy w' (some D)∧DiceOk w' D
def BRel (w:World) (D:Nat) (a:Value) (k:Nat) (wr:World):Prop:=(∃l:List UInt8,l.length=k∧wr.ownsRow w.heap.size 5 1 a k (Us l))∧w.grownBy wr (some D)∧DiceOk wr D
theorem zct (r : Nat) (h : r < 256) : Value.int .u8 (r : Int) = U (UInt8.ofNat r) := by
 unfold U
 rw [UInt8.toNat_ofNat']
 congr 1
 omega
set_option maxHeartbeats 1000000 in
theorem zgF (D most : Nat) (w : World) (hm : most ≤ 1000) (h : DiceOk w D) :
 Calls Tryz.prog 58 #[.pointer (some ⟨D,0,none⟩),.int .i64 (most:Int)] w (BytesIs w D most):=by
 obtain ⟨i0,hi,hz0,hz1,hz2⟩:=info_parts zaW
 have hDw:=h.lt
 have hN:=zar D (most+1) w (by omega) (by omega) h
 have ec:((most+1:Nat):Int)=(most:Int)+1:=by omega
 rw [ec] at hN
 have HN:=Lib.hid hN
 clear hN ec h
 go_enter Tryz.func58,Tryz.ntmps58
 go_wp2_with fail
 refine HN.out.mono ?_
 rintro e w1 ⟨r,hr,rfl,hg,hd⟩
 have H1:=Lib.hid (show BRel w D (.slice none 0 0) 0 w1 from ⟨⟨[],rfl,⟨rfl,.inl ⟨rfl,rfl⟩⟩⟩,hg,hd⟩)
 clear HN hg hd
 go_wp2_with fail
 go_loopw [5,6] (fun a i wr=>∃k:Nat,k≤r∧i=.int .i64 ((r:Int) - (k:Int))∧Hid (BRel w D a k wr)) (fun _ i _=>(intOf i).toNat)
 case atStart=>exact ⟨0,Nat.zero_le _,by go_num,H1⟩
 case round =>
  clear H1
  obtain ⟨k,hk,rfl,HB⟩:=hrel
  by_cases hlt:k < r
  · have d1 : decide ((0 : Int) < (r : Int) - (k : Int)) = true := by simp; omega
    have HN:=Lib.hid (zar D 256 wr (by decide) (by decide) HB.out.2.2)
    go_wp2_with fail
    refine HN.out.mono ?_
    rintro e w2 ⟨x,hx,rfl,hg,hd⟩
    obtain ⟨l,hl,hown⟩:=HB.out.1
    have hown2 : w2.ownsRow w.heap.size 5 1 u5 k (Us l) := zbm hown hg (by
     rcases hown.2 with ⟨e,_⟩ | ⟨g,cap,cur,e,hb,_⟩
     · rw [e];simp [Value.ownBlock]
     · rw [e];simp [Value.ownBlock];omega)
    have HG:=Lib.hid (show _∧_∧_ from ⟨zae HB.out.2.1 hg,hd,hl⟩)
    clear hown hg hd HN hl
    go_wp2_with (at_builtin;refine wpList_append_own _ rfl (.tmp 15) (.tmp 19) 27 rfl w.heap.size 5 i0 (.int .u8 0) 1 1 Tryz.underlying27 hi hz0 hz1 hz2 rfl (by decide) u5 k _ rfl (hown2.alloc _) ⟨w2.heap.size,0,none⟩ 1 1 [_] rfl rfl (zaZ _ _ _) (zby _) (by unfold maxLen;omega) (by omega) (by have:=HG.out.1.size;simp;omega) ?_;intro v3 w3 ho hg3 _)
    have hrow : w3.ownsRow w.heap.size 5 1 v3 (k + 1) (Us (l ++ [UInt8.ofNat x])) := by
     rw [zaP]
     have:Us [UInt8.ofNat x]=[Value.int .u8 (x:Int)]:=by rw [zct x hx];rfl
     rw [this]
     exact ho
    have hgw:=zaF (zae HG.out.1 (zaB w2 (.cells #[.int .u8 (x:Int)] 5) (some D))) hg3 (fun g e=>(hown2.lt g e).1)
    have hdd:DiceOk w3 D:=(HG.out.2.1.below ((Below.refl _ _).alloc (Nat.le_refl _) (.cells #[.int .u8 (x:Int)] 5))).grown hg3 (fun g e=>by have:=(hown2.lt g e).1;omega)
    have HF:=Lib.hid (show BRel w D v3 (k+1) w3 from ⟨⟨_,by rw [List.length_append,HG.out.2.2];rfl,hrow⟩,hgw,hdd⟩)
    clear hrow hgw hdd ho hg3 hown2
    go_roundw
    case rel=>exact ⟨k+1,by omega,by go_num,HF⟩
    case measure=>simp [intOf];omega
  · obtain rfl : k = r := by omega
    have d1:decide ((0:Int) < (k:Int) - (k:Int))=false:=by simp
    obtain ⟨l,hl,hown⟩:=HB.out.1
    have hb : BytesIs w D most (.returned u5) wr := by
     rcases hown.2 with ⟨e,h0⟩ | ⟨g,cap,cur,e,hb,hh,hn,hmx,hs,ht⟩
     · have : l = [] := List.eq_nil_of_length_eq_zero (by omega)
       subst this
       exact ⟨[],none,0,by rw [e];rfl,by simp,fun _=>rfl,by simp,.inl rfl,HB.out.2.1,HB.out.2.2⟩
     · refine ⟨l, some ⟨g, 0, none⟩, cap, by rw [e, hl], by omega, (fun e2 => by cases e2), by omega, Or.inr ⟨g, 0, rfl, ⟨hb, lt_of_block hh⟩, fun j hj => ?_⟩, HB.out.2.1, HB.out.2.2⟩
       rw [zat] at hj
       rw [Nat.zero_add,cell_of_row wr g j cur _ (0,0) hh,←ht,List.getElem?_take,if_pos (by omega),Array.getElem?_toList]
    have HF:=Lib.hid hb
    clear hb hown HB
    go_wp2_with fail
    go_ret
    exact HF.out
def NodesIs (w:World) (D m:Nat) (e:Ending) (w':World):Prop:=∃(f:F) (A:Option Addr) (c:Nat),e=.returned (.slice A f.len c)∧f.gd m∧f.len≤3∧SeesF w' (newB w w') A f∧w.grownBy w' (some D)∧DiceOk w' D
def NRel (w:World) (D m:Nat) (v:Value) (k:Nat) (wr:World):Prop:=∃f:F,f.len=k∧f.gd m∧Held w wr v f∧w.grownBy wr (some D)∧DiceOk wr D
theorem NRel.step {w wr w3 w4 : World} {D m k g cap : Nat} {v : Value} {f : F} {cs : List Value} {t : Int} {x : List UInt8} {kf : F} {Av Ak : Option Addr} {cv ck : Nat} {o : Obj}
 (hf:f.len=k) (hgd:f.gd m) (hww:w.grownBy wr (some D)) (hown:wr.ownsRow w.heap.size 64 3 v f.len cs) (hh:HoldsP wr (fun b=>newB w wr b∧v.ownBlock≠some b) f cs)
 (hDw:D < w.heap.size) (hg3:wr.grownBy w3 (some D)) (hd:DiceOk w3 D) (hn0:Av=none→cv=0) (hv:SeesP w3 (newB wr w3) Av (Us x)) (hk:SeesF w3 (newB wr w3) Ak kf) (hgd2:(F.cons t x kf .nil).gd m)
 (ho:w4.ownsRow w.heap.size 64 3 (.slice (some ⟨g,0,none⟩) (k+1) cap) (k+1) (cs++[.int .i64 t,.slice Av x.length cv,.slice Ak kf.len ck])) (hg4:(w3.alloc o).grownBy w4 v.ownBlock)
 (hl:v.ownBlock=some g∨g=(w3.alloc o).heap.size):NRel w D m (.slice (some ⟨g,0,none⟩) (k+1) cap) (k+1) w4:=by
 subst hf
 have hW:=zbP hown
 have hc:=Held.carry hDw hg3 hown hh
 have hsn:=Held.snoc hg3.size ((Below.refl w3.heap.size w3).alloc (Nat.le_refl _) o) hn0 hv hk hww.size hW cs hc.2 ho hg4 hl
 have hr : ∀ g, v.ownBlock = some g → w.heap.size ≤ g := fun g e => by
  rcases hW with h | ⟨g2,h,h2,_⟩
  · rw [h] at e;cases e
  · rw [h] at e;injection e with e;omega
 exact ⟨_, by rw [F.len_app]; rfl, F.gd_app hgd hgd2, hsn, zaF (zae (zae hww hg3) (zaB w3 o (some D))) hg4 hr,
  (hd.below ((Below.refl _ _).alloc (Nat.le_refl _) o)).grown hg4 (fun g e=>by have:=hr g e;omega)⟩
def NodesAll (n : Nat) : Prop := ∀ (D m : Nat) (w : World), 1 ≤ m → m ≤ n → DiceOk w D →
 Calls Tryz.prog 26 #[.pointer (some ⟨D,0,none⟩),.int .i64 (m:Int)] w (NodesIs w D m)
set_option maxHeartbeats 2000000 in
theorem dice_nodes (n : Nat) (hn : n ≤ 100) : NodesAll n := by
 induction n with
 | zero=>intro D m w hm1 hm;omega
 | succ n ih =>
   intro D m w hm0 hm h
   obtain ⟨i0,hi,hz0,hz1,hz2⟩:=info_parts zcq
   obtain ⟨i1,hi1,hy0,hy1,hy2⟩:=info_parts zaW
   have hDw:=h.lt
   have IH:=Lib.hid (ih (by omega))
   have HN:=Lib.hid (zar D 4 w (by decide) (by decide) h)
   clear ih h
   go_enter Tryz.func26,Tryz.ntmps26
   go_wp2_with fail
   refine HN.out.mono ?_
   rintro e w1 ⟨r,hr,rfl,hg,hd⟩
   have H1:=Lib.hid (show NRel w D m (.slice none 0 0) 0 w1 from ⟨.nil,rfl,trivial,⟨[],⟨rfl,.inl ⟨rfl,rfl⟩⟩,rfl⟩,hg,hd⟩)
   clear HN hg hd
   go_wp2_with fail
   go_loopw [5,6] (fun v i wr=>∃k:Nat,k≤r∧i=.int .i64 ((r:Int) - (k:Int))∧Hid (NRel w D m v k wr)) (fun _ i _=>(intOf i).toNat)
   case atStart=>exact ⟨0,Nat.zero_le _,by go_num,H1⟩
   case round =>
    clear H1
    obtain ⟨k,hk,rfl,HB⟩:=hrel
    by_cases hlt:k < r
    · have d1 : decide ((0 : Int) < (r : Int) - (k : Int)) = true := by simp; omega
      obtain ⟨f,hf,hgd,⟨cs,hown,hh⟩,hww,hdr⟩:=HB.out
      have HP:=Lib.hid (show f.len=k∧f.gd m∧w.grownBy wr (some D)∧wr.ownsRow w.heap.size 64 3 u5 f.len cs∧HoldsP wr (fun b=>newB w wr b∧u5.ownBlock≠some b) f cs∧DiceOk wr D from ⟨hf,hgd,hww,hown,hh,hdr⟩)
      clear HB hf hgd hww hown hh hdr
      by_cases hm1:1 < m
      · have d2 : decide ((1 : Int) < (m : Int)) = true := by simp; omega
        have HO:=Lib.hid (zeg D 2 wr (by decide) (by decide) HP.out.2.2.2.2.2)
        go_wp2_with fail
        refine HO.out.mono ?_
        rintro e w2 ⟨q,rfl,hg2,hd2⟩
        have G:=Lib.hid (show _∧_ from ⟨hg2,hd2⟩)
        clear HO hg2 hd2
        cases q
        · have HO9 := Lib.hid (zeg D 9 w2 (by decide) (by decide) G.out.2)
          go_wp2_with fail
          refine HO9.out.mono ?_
          rintro e w5 ⟨q9,rfl,hg5,hd5⟩
          have G:=Lib.hid (show _∧_ from ⟨zae G.out.1 hg5,hd5⟩)
          clear HO9 hg5 hd5
          cases q9
          · have HT := Lib.hid (zep D false w5 G.out.2)
            go_wp2_with fail
            refine HT.out.mono ?_
            rintro e w6 ⟨t,rfl,ht1,ht2,hg6,hd6⟩
            have HB9:=Lib.hid (zgF D 9 w6 (by decide) hd6)
            have G:=Lib.hid (show _∧_∧_∧_ from ⟨zae G.out.1 hg6,hd6,ht1,ht2⟩)
            clear HT hg6 hd6 ht1 ht2
            go_wp2_with fail
            refine HB9.out.mono ?_
            rintro e w7 ⟨x,Av,cv,rfl,hxl,hxn,hxc,hxs,hg7,hd7⟩
            have HK:=Lib.hid (show (Av=none→cv=0)∧SeesP w7 (newB wr w7) Av (Us x)∧zaA (t:Int)=true∧zaE (t:Int)=false∧x.length≤9 from ⟨hxn,hxs.imp fun b hb=>⟨Nat.le_trans G.out.1.size hb.1,hb.2⟩,G.out.2.2.1,G.out.2.2.2,hxl⟩)
            have G:=Lib.hid (show wr.grownBy w7 (some D)∧DiceOk w7 D from ⟨zae G.out.1 hg7,hd7⟩)
            clear HB9 hxl hxn hxc hxs hg7 hd7
            have hown:w7.ownsRow w.heap.size 64 3 u5 k cs:=by have:=(Held.carry hDw G.out.1 HP.out.2.2.2.1 HP.out.2.2.2.2.1).1;rwa [HP.out.1] at this
            go_wp2_with (at_builtin;refine wpList_append_lies _ rfl (.tmp 43) (.tmp 49) 30 rfl w.heap.size 64 i0 _ 3 56 Tryz.underlying30 hi hz0 hz1 hz2 rfl (by decide) u5 k cs rfl (hown.alloc _) ⟨_,0,none⟩ 1 1 _ rfl rfl (World.news_of_block (heap_alloc_new _ _)) (zbW _ _ _ _ _ _ _) (by decide) (by unfold maxLen;omega) (by omega) (by have:=HP.out.2.2.1.size;have:=G.out.1.size;simp;omega) _ rfl ?_;intro g cap w9 ho hg9 hl9 _)
            have HF:=Lib.hid (NRel.step (t:=(t:Int)) (x:=x) (kf:=.nil) (Av:=Av) (cv:=cv) (Ak:=none) (ck:=0) HP.out.1 HP.out.2.1 HP.out.2.2.1 HP.out.2.2.2.1 HP.out.2.2.2.2.1 hDw G.out.1 G.out.2 HK.out.1 HK.out.2.1 SeesF.nil_ ⟨by omega,HK.out.2.2.1,(fun h=>by rw [HK.out.2.2.2.1] at h;cases h),fun _=>rfl,by have:=HK.out.2.2.2.2;omega,by simp [F.len],trivial,trivial⟩ ho hg9 hl9)
            clear ho hg9 hl9 hown
            go_roundw
            case rel=>exact ⟨k+1,by omega,by go_num,HF⟩
            case measure=>simp [intOf];omega
          · have HX := Lib.hid (zar D 150 w5 (by decide) (by decide) G.out.2)
            go_wp2_with fail
            refine HX.out.mono ?_
            rintro e w6 ⟨x,hx,rfl,hg6,hd6⟩
            have G:=Lib.hid (show _∧_ from ⟨zae G.out.1 hg6,hd6⟩)
            clear HX hg6 hd6
            go_wp2_with (at_make;refine wpList_make_full _ rfl _ _ 27 rfl w6.heap.size 5 i1 (.int .u8 0) 1 Tryz.underlying27 hi1 hy0 hy1 _ _ _ _ (120+x) rfl rfl (by simp) (by simp) (by rw [hy2];omega) (by unfold maxLen;omega) (Nat.le_refl _) ?_;intro w7 hmk hgm)
            have hz : SeesP w7 (newB wr w7) (some ⟨w6.heap.size, 0, none⟩) (Us (List.replicate (120 + x) 0)) := by
             rw [Us_zeros]
             have h:=Sees.of_own hmk
             simp only [Value.cells,toList_madeCells_one,Nat.mul_one] at h
             rcases h with h | ⟨b,o,e,hlt,hc⟩
             · simp at h
             · injection e with e; injection e with e1 e2; subst e1 e2
               exact .inr ⟨_,_,rfl,⟨G.out.1.size,hlt⟩,by simpa [Value.cells,toList_madeCells_one] using hc⟩
            have G:=Lib.hid (show wr.grownBy w7 (some D)∧DiceOk w7 D∧_ from ⟨zaF G.out.1 hgm (fun g e=>by cases e),G.out.2.grown hgm (fun g e=>by cases e),hz⟩)
            have HT:=Lib.hid (zep D false w7 G.out.2.1)
            clear hmk hgm hz
            go_wp2_with fail
            refine HT.out.mono ?_
            rintro e w8 ⟨t,rfl,ht1,ht2,hg8,hd8⟩
            have HK:=Lib.hid (show SeesP w8 (newB wr w8) (some ⟨w6.heap.size,0,none⟩) (Us (List.replicate (120+x) 0))∧zaA (t:Int)=true∧zaE (t:Int)=false from ⟨(G.out.2.2.keep fun b hb=>zau hg8 hb.2 (by have:=hb.1;have:=HP.out.2.2.2.2.2.lt;omega)).imp fun b hb=>⟨hb.1,Nat.lt_of_lt_of_le hb.2 hg8.size⟩,ht1,ht2⟩)
            have G:=Lib.hid (show wr.grownBy w8 (some D)∧DiceOk w8 D from ⟨zae G.out.1 hg8,hd8⟩)
            clear HT ht1 ht2 hg8 hd8
            have hown:w8.ownsRow w.heap.size 64 3 u5 k cs:=by have:=(Held.carry hDw G.out.1 HP.out.2.2.2.1 HP.out.2.2.2.2.1).1;rwa [HP.out.1] at this
            go_wp2_with (at_builtin;refine wpList_append_lies _ rfl (.tmp 36) (.tmp 41) 30 rfl w.heap.size 64 i0 _ 3 56 Tryz.underlying30 hi hz0 hz1 hz2 rfl (by decide) u5 k cs rfl (hown.alloc _) ⟨_,0,none⟩ 1 1 _ rfl rfl (World.news_of_block (heap_alloc_new _ _)) (zbW _ _ _ _ _ _ _) (by decide) (by unfold maxLen;omega) (by omega) (by have:=HP.out.2.2.1.size;have:=G.out.1.size;simp;omega) _ rfl ?_;intro g cap w9 ho hg9 hl9 _)
            have HF:=Lib.hid (NRel.step (t:=(t:Int)) (x:=List.replicate (120+x) 0) (kf:=.nil) (Av:=some ⟨w6.heap.size,0,none⟩) (cv:=120+x) (Ak:=none) (ck:=0) HP.out.1 HP.out.2.1 HP.out.2.2.1 HP.out.2.2.2.1 HP.out.2.2.2.2.1 hDw G.out.1 G.out.2 (fun e=>by cases e) HK.out.1 SeesF.nil_ ⟨by omega,HK.out.2.1,(fun h=>by rw [HK.out.2.2] at h;cases h),fun _=>rfl,by rw [List.length_replicate];omega,by simp [F.len],trivial,trivial⟩ (by rw [List.length_replicate];exact ho) hg9 hl9)
            clear ho hg9 hl9 hown
            go_roundw
            case rel=>exact ⟨k+1,by omega,by go_num,HF⟩
            case measure=>simp [intOf];omega
        · have HT := Lib.hid (zep D true w2 G.out.2)
          go_wp2_with fail
          refine HT.out.mono ?_
          rintro e w5 ⟨t,rfl,ht1,ht2,hg5,hd5⟩
          have hIH:=IH.out D (m - 1) w5 (by omega) (by omega) hd5
          rw [show ((m - 1:Nat):Int)=(m:Int) - 1 by omega] at hIH
          have HI:=Lib.hid hIH
          have G:=Lib.hid (show _∧_∧_∧_ from ⟨zae G.out.1 hg5,hd5,ht1,ht2⟩)
          clear HT hg5 hd5 ht1 ht2 hIH
          go_wp2_with fail
          refine HI.out.mono ?_
          rintro e w6 ⟨kf,Ak,ck,rfl,hkg,hkl,hks,hg6,hd6⟩
          have HK:=Lib.hid (show kf.gd (m - 1)∧kf.len≤3∧SeesF w6 (newB wr w6) Ak kf∧zaA (t:Int)=true∧zaE (t:Int)=true from ⟨hkg,hkl,hks.imp fun b hb=>⟨Nat.le_trans G.out.1.size hb.1,hb.2⟩,G.out.2.2.1,G.out.2.2.2⟩)
          have G:=Lib.hid (show wr.grownBy w6 (some D)∧DiceOk w6 D from ⟨zae G.out.1 hg6,hd6⟩)
          clear HI hkg hkl hks hg6 hd6
          have hown:w6.ownsRow w.heap.size 64 3 u5 k cs:=by have:=(Held.carry hDw G.out.1 HP.out.2.2.2.1 HP.out.2.2.2.2.1).1;rwa [HP.out.1] at this
          go_wp2_with (at_builtin;refine wpList_append_lies _ rfl (.tmp 20) (.tmp 28) 30 rfl w.heap.size 64 i0 _ 3 56 Tryz.underlying30 hi hz0 hz1 hz2 rfl (by decide) u5 k cs rfl (hown.alloc _) ⟨_,0,none⟩ 1 1 _ rfl rfl (World.news_of_block (heap_alloc_new _ _)) (zbW _ _ _ _ _ _ _) (by decide) (by unfold maxLen;omega) (by omega) (by have:=HP.out.2.2.1.size;have:=G.out.1.size;simp;omega) _ rfl ?_;intro g cap w9 ho hg9 hl9 _)
          have HF:=Lib.hid (NRel.step (t:=(t:Int)) (x:=[]) (kf:=kf) (Av:=none) (cv:=0) (Ak:=Ak) (ck:=ck) HP.out.1 HP.out.2.1 HP.out.2.2.1 HP.out.2.2.2.1 HP.out.2.2.2.2.1 hDw G.out.1 G.out.2 (fun _=>rfl) (.inl rfl) HK.out.2.2.1 ⟨by omega,HK.out.2.2.2.1,fun _=>rfl,(fun h=>by rw [HK.out.2.2.2.2] at h;cases h),by simp,HK.out.2.1,HK.out.1,trivial⟩ ho hg9 hl9)
          clear ho hg9 hl9 hown
          go_roundw
          case rel=>exact ⟨k+1,by omega,by go_num,HF⟩
          case measure=>simp [intOf];omega
      · have d2 : decide ((1 : Int) < (m : Int)) = false := by simp; omega
        have G:=Lib.hid (show wr.grownBy wr (some D)∧DiceOk wr D from ⟨World.grownBy.refl _ _,HP.out.2.2.2.2.2⟩)
        have HO9:=Lib.hid (zeg D 9 wr (by decide) (by decide) G.out.2)
        go_wp2_with fail
        refine HO9.out.mono ?_
        rintro e w5 ⟨q9,rfl,hg5,hd5⟩
        have G:=Lib.hid (show _∧_ from ⟨zae G.out.1 hg5,hd5⟩)
        clear HO9 hg5 hd5
        cases q9
        · have HT := Lib.hid (zep D false w5 G.out.2)
          go_wp2_with fail
          refine HT.out.mono ?_
          rintro e w6 ⟨t,rfl,ht1,ht2,hg6,hd6⟩
          have HB9:=Lib.hid (zgF D 9 w6 (by decide) hd6)
          have G:=Lib.hid (show _∧_∧_∧_ from ⟨zae G.out.1 hg6,hd6,ht1,ht2⟩)
          clear HT hg6 hd6 ht1 ht2
          go_wp2_with fail
          refine HB9.out.mono ?_
          rintro e w7 ⟨x,Av,cv,rfl,hxl,hxn,hxc,hxs,hg7,hd7⟩
          have HK:=Lib.hid (show (Av=none→cv=0)∧SeesP w7 (newB wr w7) Av (Us x)∧zaA (t:Int)=true∧zaE (t:Int)=false∧x.length≤9 from ⟨hxn,hxs.imp fun b hb=>⟨Nat.le_trans G.out.1.size hb.1,hb.2⟩,G.out.2.2.1,G.out.2.2.2,hxl⟩)
          have G:=Lib.hid (show wr.grownBy w7 (some D)∧DiceOk w7 D from ⟨zae G.out.1 hg7,hd7⟩)
          clear HB9 hxl hxn hxc hxs hg7 hd7
          have hown:w7.ownsRow w.heap.size 64 3 u5 k cs:=by have:=(Held.carry hDw G.out.1 HP.out.2.2.2.1 HP.out.2.2.2.2.1).1;rwa [HP.out.1] at this
          go_wp2_with (at_builtin;refine wpList_append_lies _ rfl (.tmp 43) (.tmp 49) 30 rfl w.heap.size 64 i0 _ 3 56 Tryz.underlying30 hi hz0 hz1 hz2 rfl (by decide) u5 k cs rfl (hown.alloc _) ⟨_,0,none⟩ 1 1 _ rfl rfl (World.news_of_block (heap_alloc_new _ _)) (zbW _ _ _ _ _ _ _) (by decide) (by unfold maxLen;omega) (by omega) (by have:=HP.out.2.2.1.size;have:=G.out.1.size;simp;omega) _ rfl ?_;intro g cap w9 ho hg9 hl9 _)
          have HF:=Lib.hid (NRel.step (t:=(t:Int)) (x:=x) (kf:=.nil) (Av:=Av) (cv:=cv) (Ak:=none) (ck:=0) HP.out.1 HP.out.2.1 HP.out.2.2.1 HP.out.2.2.2.1 HP.out.2.2.2.2.1 hDw G.out.1 G.out.2 HK.out.1 HK.out.2.1 SeesF.nil_ ⟨by omega,HK.out.2.2.1,(fun h=>by rw [HK.out.2.2.2.1] at h;cases h),fun _=>rfl,by have:=HK.out.2.2.2.2;omega,by simp [F.len],trivial,trivial⟩ ho hg9 hl9)
          clear ho hg9 hl9 hown
          go_roundw
          case rel=>exact ⟨k+1,by omega,by go_num,HF⟩
          case measure=>simp [intOf];omega
        · have HX := Lib.hid (zar D 150 w5 (by decide) (by decide) G.out.2)
          go_wp2_with fail
          refine HX.out.mono ?_
          rintro e w6 ⟨x,hx,rfl,hg6,hd6⟩
          have G:=Lib.hid (show _∧_ from ⟨zae G.out.1 hg6,hd6⟩)
          clear HX hg6 hd6
          go_wp2_with (at_make;refine wpList_make_full _ rfl _ _ 27 rfl w6.heap.size 5 i1 (.int .u8 0) 1 Tryz.underlying27 hi1 hy0 hy1 _ _ _ _ (120+x) rfl rfl (by simp) (by simp) (by rw [hy2];omega) (by unfold maxLen;omega) (Nat.le_refl _) ?_;intro w7 hmk hgm)
          have hz : SeesP w7 (newB wr w7) (some ⟨w6.heap.size, 0, none⟩) (Us (List.replicate (120 + x) 0)) := by
           rw [Us_zeros]
           have h:=Sees.of_own hmk
           simp only [Value.cells,toList_madeCells_one,Nat.mul_one] at h
           rcases h with h | ⟨b,o,e,hlt,hc⟩
           · simp at h
           · injection e with e; injection e with e1 e2; subst e1 e2
             exact .inr ⟨_,_,rfl,⟨G.out.1.size,hlt⟩,by simpa [Value.cells,toList_madeCells_one] using hc⟩
          have G:=Lib.hid (show wr.grownBy w7 (some D)∧DiceOk w7 D∧_ from ⟨zaF G.out.1 hgm (fun g e=>by cases e),G.out.2.grown hgm (fun g e=>by cases e),hz⟩)
          have HT:=Lib.hid (zep D false w7 G.out.2.1)
          clear hmk hgm hz
          go_wp2_with fail
          refine HT.out.mono ?_
          rintro e w8 ⟨t,rfl,ht1,ht2,hg8,hd8⟩
          have HK:=Lib.hid (show SeesP w8 (newB wr w8) (some ⟨w6.heap.size,0,none⟩) (Us (List.replicate (120+x) 0))∧zaA (t:Int)=true∧zaE (t:Int)=false from ⟨(G.out.2.2.keep fun b hb=>zau hg8 hb.2 (by have:=hb.1;have:=HP.out.2.2.2.2.2.lt;omega)).imp fun b hb=>⟨hb.1,Nat.lt_of_lt_of_le hb.2 hg8.size⟩,ht1,ht2⟩)
          have G:=Lib.hid (show wr.grownBy w8 (some D)∧DiceOk w8 D from ⟨zae G.out.1 hg8,hd8⟩)
          clear HT ht1 ht2 hg8 hd8
          have hown:w8.ownsRow w.heap.size 64 3 u5 k cs:=by have:=(Held.carry hDw G.out.1 HP.out.2.2.2.1 HP.out.2.2.2.2.1).1;rwa [HP.out.1] at this
          go_wp2_with (at_builtin;refine wpList_append_lies _ rfl (.tmp 36) (.tmp 41) 30 rfl w.heap.size 64 i0 _ 3 56 Tryz.underlying30 hi hz0 hz1 hz2 rfl (by decide) u5 k cs rfl (hown.alloc _) ⟨_,0,none⟩ 1 1 _ rfl rfl (World.news_of_block (heap_alloc_new _ _)) (zbW _ _ _ _ _ _ _) (by decide) (by unfold maxLen;omega) (by omega) (by have:=HP.out.2.2.1.size;have:=G.out.1.size;simp;omega) _ rfl ?_;intro g cap w9 ho hg9 hl9 _)
          have HF:=Lib.hid (NRel.step (t:=(t:Int)) (x:=List.replicate (120+x) 0) (kf:=.nil) (Av:=some ⟨w6.heap.size,0,none⟩) (cv:=120+x) (Ak:=none) (ck:=0) HP.out.1 HP.out.2.1 HP.out.2.2.1 HP.out.2.2.2.1 HP.out.2.2.2.2.1 hDw G.out.1 G.out.2 (fun e=>by cases e) HK.out.1 SeesF.nil_ ⟨by omega,HK.out.2.1,(fun h=>by rw [HK.out.2.2] at h;cases h),fun _=>rfl,by rw [List.length_replicate];omega,by simp [F.len],trivial,trivial⟩ (by rw [List.length_replicate];exact ho) hg9 hl9)
          clear ho hg9 hl9 hown
          go_roundw
          case rel=>exact ⟨k+1,by omega,by go_num,HF⟩
          case measure=>simp [intOf];omega
    · obtain rfl : k = r := by omega
      have d1:decide ((0:Int) < (k:Int) - (k:Int))=false:=by simp
      have hb : NodesIs w D m (.returned u5) wr := by
       obtain ⟨f,hf,hgd,hh,hww,hdr⟩:=HB.out
       obtain ⟨A,c,hv,hs⟩:=hh.slice
       exact ⟨f,A,c,by rw [hv],hgd,by omega,hs,hww,hdr⟩
      have HF:=Lib.hid hb
      clear hb HB
      go_wp2_with fail
      go_ret
      exact HF.out
end Go.Proofs.YtnlhbknajdpnbaaGreatDoor
namespace Go.Proofs.YtnlhbknajdpnbaaGreatDoor
open Go.RowKit
theorem made_light (A : Option Addr) (n c : Nat) (w : World) (hn : n ≤ 140737488351232) :
 Calls Tryz.prog 4 #[.slice A n c] w fun e w'=>e=.returned (.bool (decide (n≤400)))∧w'=w:=by
 by_cases h:n≤400
 · have d : decide ((n : Int) ≤ 400) = true := by simp; omega
   rw [decide_eq_true h]
   clear h
   go_enter Tryz.func4,Tryz.ntmps4
   go_wp2
   go_ret
   exact ⟨rfl,rfl⟩
 · have d : decide ((n : Int) ≤ 400) = false := by simp; omega
   rw [decide_eq_false h]
   clear h
   go_enter Tryz.func4,Tryz.ntmps4
   go_wp2
   go_ret
   exact ⟨rfl,rfl⟩
theorem made_roll (A : Option Addr) (c : Nat) (ls : List Int) (w : World) (hl : ls.length ≤ 140737488351232) (hr : ∀ x ∈ ls, -9223372036854775808 ≤ x ∧ x ≤ 9223372036854775807) (hs : SeesP w (· < w.heap.size) A (ls.map (Value.int .i64))) :
 Calls Tryz.prog 6 #[.slice A ls.length c] w fun e w'=>e=.returned (.pointer (some ⟨w.heap.size,0,none⟩))∧DiceOk w' w.heap.size∧Below w.heap.size w w':=by
 have hd : DiceOk (w.alloc (.cells #[.slice A ls.length c, .int .i64 0] 43)) w.heap.size :=
  ⟨A,c,0,ls,heap_alloc_new w _,Nat.zero_le _,hl,hr,hs.keep fun q hq=>World.cell?_alloc_lt w _ q hq⟩
 have HD:=Lib.hid hd
 clear hd hs hr
 go_enter Tryz.func6,Tryz.ntmps6
 go_wp2
 go_ret
 exact ⟨rfl,HD.out,(Below.refl _ _).alloc (Nat.le_refl _) _⟩
end Go.Proofs.YtnlhbknajdpnbaaGreatDoor
namespace Go.Proofs.YtnlhbknajdpnbaaGreatDoor
open Go.ChangeShapes Go.WideShapes Go.ChangeAt Go.RowKit
theorem own:ownKnob Tryz.prog.godebug=none:=by kernel_rfl
theorem laidOut:laidOutB Tryz.prog=true:=by kernel_rfl
variable {H:Type} {enc:TypeId×Value→H} {W:World}
end Go.Proofs.YtnlhbknajdpnbaaGreatDoor
namespace Go.Proofs.YtnlhbknajdpnbaaGreatDoor
open Go.ChangeShapes Go.WideShapes Go.ChangeAt Go.RowKit
theorem cells_int:Tryz.prog.cellsOf 3=1:=by kernel_rfl
theorem bytes_int:Tryz.prog.bytesOf 3=8:=by kernel_rfl
variable {H:Type} {enc:TypeId×Value→H} {W:World}
theorem open_i64s {A : Option Addr} {len cap : Nat} {d : DataW H} {p : List MemPlace} (hf : DataW.Trod enc Tryz.prog W 0 (fun _ => true) true 22 (.slice A len cap) d p)
 (lt:∀q∈p,q.block < W.heap.size) :
 ∃x:List Int,len=x.length∧SeesP W (· < W.heap.size) A (x.map (Value.int .i64))∧(∀y∈x,-9223372036854775808≤y∧y≤9223372036854775807)∧len≤cap∧(cap=0∨∃es sp,d=.slice es sp∧es.length+sp.length=cap):=by
 obtain ⟨fuel,hf⟩:=hf
 rcases open_ints Tryz.underlying22 Tryz.underlying3 cells_int hf with ⟨hcs,_⟩ | ⟨a,l,c,zs,hcs,_,hl,hm,hz,hx,hcell,hwz⟩
 · simp [Value.cells] at hcs
   obtain ⟨rfl,rfl,rfl⟩:=hcs
   exact ⟨[],rfl,.inl rfl,by simp,Nat.le_refl _,.inl rfl⟩
 · simp [Value.cells] at hcs
   obtain ⟨rfl,rfl,rfl⟩:=hcs
   simp only [Prod.mk.injEq] at hx
   obtain ⟨rfl,rfl⟩:=hx
   simp only [if_true] at hz
   refine ⟨zs.take len,by simp;omega,?_,?_,hl,.inr ⟨_,_,rfl,by simp [lits];omega⟩⟩
   · rcases Nat.eq_zero_or_pos len with h0 | h0
     · subst h0;exact .inl (by simp)
     · obtain ⟨b, off, spot⟩ := a
       have hspot:spot=none:=by simpa [Addr.add] using World.cell?_spot (hcell 0 (by omega))
       subst hspot
       have hb:b < W.heap.size:=lt (.cell b off) (MemPlace.mem_row.2 ⟨0,by omega,by simp⟩)
       refine .inr ⟨b,off,rfl,hb,fun j hj=>?_⟩
       have hj':j < len:=by simp at hj;omega
       have hjz:j < zs.length:=by omega
       have hadd:(⟨b,off,none⟩ : Addr).add j=⟨b,off+j,none⟩:=by unfold Addr.add;split <;> simp_all
       rw [←hadd,hcell j hjz]
       have hg:zs.getD j 0=zs[j]:=by simp [List.getD,hjz]
       rw [hg]
       simp [hj',hjz]
   · intro y hy
     have:=hwz y (List.mem_of_mem_take hy)
     simpa [Lit.wf,IntKind.min,IntKind.max,IntKind.signed,IntKind.bits] using this
theorem reach_i64s {ts : List TypeId} {ds : List (DataW H)} (h : (DataW.weightsEach Tryz.prog ts ds).all (· ≤ reachBytes) = true) {j : Nat} {d : DataW H} (ht : ts[j]? = some 22) (hd : ds[j]? = some d)
 {len cap:Nat} (hl:len≤cap) (hc:cap=0∨∃es sp,d=.slice es sp∧es.length+sp.length=cap):len≤140737488351232:=by
 rcases hc with rfl | ⟨es,sp,rfl,rfl⟩
 · omega
 · have := sized_slice h ht hd Tryz.underlying22
   rw [bytes_int] at this
   simp only [reachBytes] at this
   omega
end Go.Proofs.YtnlhbknajdpnbaaGreatDoor
