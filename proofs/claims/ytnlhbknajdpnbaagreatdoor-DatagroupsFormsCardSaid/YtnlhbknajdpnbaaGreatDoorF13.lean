/-
  What is proved here: the layouts of the three formats as the program makes them, and the size of a field.
-/
import Derived.Test.YtnlhbknajdpnbaaGreatDoorF12
set_option linter.unusedVariables false
set_option linter.unusedSimpArgs false
namespace Go.Proofs.YtnlhbknajdpnbaaGreatDoor
open Go.RowKit
theorem zcO:(Tryz.prog.info? 3).map (·.size)=some 1:=by kernel_rfl
end Go.Proofs.YtnlhbknajdpnbaaGreatDoor
namespace Go.Proofs.YtnlhbknajdpnbaaGreatDoor
open Go.RowKit
theorem octL1 (n : Nat) : octL n 1 = [UInt8.ofNat n] := by
 have e:List.range 1=[0]:=rfl
 simp [octL,e,octAt]
theorem octL2 (n : Nat) : octL n 2 = [UInt8.ofNat (n / 256), UInt8.ofNat n] := by
 have e:List.range 2=[0,1]:=rfl
 simp [octL,e,octAt]
theorem u8_wrap (n : Nat) : Value.int .u8 (IntKind.u8.wrap (n : Int)) = U (UInt8.ofNat n) := by
 rw [IntKind.wrap_u8']
 simp [U]
theorem zeL (n : Nat) (w : World) : (convert 3 5 (.int .i64 (n : Int))).run Tryz.prog w = .ok (U (UInt8.ofNat n)) w := by
 rw [←u8_wrap]
 kernel_rfl
theorem shr8 (n : Nat) (hn : n < 65536) (p q : Operand) (w : World) : (do eqGuard .shr 3 p q (.int .i64 (n : Int)) (.int .u64 8); binOp .shr 3 (.int .i64 (n : Int)) (.int .u64 8)).run Tryz.prog w = .ok (.int .i64 ((n / 256 : Nat) : Int)) w := by
 have e:((n / 256:Nat):Int)=(n:Int) / 2 ^ 8:=by simp
 rw [e]
 simp [eqGuard,binOp,go_sem]
theorem bsu1 (u:UInt8):Tryz.prog.builtSlice 5 1 [(0,U u)]=some #[U u]:=by kernel_rfl
theorem bsu2 (u v:UInt8):Tryz.prog.builtSlice 5 2 [(0,U u),(1,U v)]=some #[U u,U v]:=by kernel_rfl
theorem ag_s:∀w,(isAgg 27).run Tryz.prog w=.ok false w:=fun w=>by kernel_rfl
def BytF (wr:World) (v:List UInt8) (n:Nat) (u:Value) (c:World):Prop:=∃A cv,u=.slice A n cv∧((A=none→cv=0)∧n≤cv)∧SeesP c (newB wr c) A (Us v)
theorem BytF.firm (wr : World) (v : List UInt8) (n : Nat) : Firm (BytF wr v n) := by
 rintro u c c' ⟨A,cv,h1,h2,h3⟩ hb
 exact ⟨A,cv,h1,h2,h3.newOn hb⟩
theorem BytF.lit {w c c' : World} {g n : Nat} {v : List UInt8} {vs : List Value} (hf : Fresh c c' g) (hr : RowV c' g vs) (hv : vs = Us v) (hn : v.length = n) (hs : w.heap.size ≤ c.heap.size) : BytF w v n (.slice (some ⟨g, 0, none⟩) n n) c' :=
 ⟨_,n,rfl,⟨fun h=>(by cases h),Nat.le_refl _⟩,.inr ⟨g,0,rfl,⟨by rw [hf.1];exact hs,hr.lt⟩,fun j hj=>by rw [Nat.zero_add,hr.cell,hv]⟩⟩
theorem zde {w w' : World} {e : TypeId} {v : Value} {n : Nat} {l : List UInt8} (h : w'.ownsRow w.heap.size e 1 v n (Us l)) : ∃ A c, v = .slice A n c ∧ ((A = none → c = 0) ∧ n ≤ c) ∧ SeesP w' (newB w w') A (Us l) := by
 rcases h.2 with ⟨rfl,rfl⟩ | ⟨g,cap,cur,rfl,hb,hh,hn,hm,hs,ht⟩
 · have := h.1
   simp [zat] at this
   subst this
   exact ⟨none,0,rfl,⟨fun _=>rfl,Nat.le_refl _⟩,.inl rfl⟩
 · refine ⟨_, cap, rfl, ⟨fun h => (by cases h), hn⟩, .inr ⟨g, 0, rfl, ⟨hb, lt_of_block hh⟩, fun j hj => ?_⟩⟩
   have hl:=h.1
   rw [Nat.zero_add,cell_of_row w' g j cur _ (0,0) hh,←ht,List.getElem?_take,if_pos (by omega),Array.getElem?_toList]
set_option maxHeartbeats 1600000 in
theorem zcT (t : Int) (v : List UInt8) (n : Nat) (hn : v.length = n) (hm : n ≤ 140737488351232) (A : Option Addr) (c : Nat) (h0 : A = none → c = 0) (w : World) (hs : SeesP w (· < w.heap.size) A (Us v)) :
 Calls Tryz.prog 39 #[.int .i64 t,.slice A n c] w (PrimIs w t v n):=by
 obtain ⟨i0,hi,hz0,hz1,hz2⟩:=info_parts zaW
 have HS:=Lib.hid (show _∧_∧_ from ⟨hs,hn,h0⟩)
 have HB:=Lib.hid (Below.refl w.heap.size w)
 clear hs hn h0
 go_enter Tryz.func39,Tryz.ntmps39
 go_wp2_with (first
  | ((with_reducible refine zaG (d:=4) ?_);refine zam (op:=⟨some 4,_,_,_,_,_⟩) rfl 64 rfl zerN zcc ?_;intro g4 w4 hf hr;have H4:=Lib.hid (show _∧_∧_∧_ from ⟨hf.bl HB.out,hr,hf.ge HB.out,hf⟩);clear hf hr)
  | ((with_reducible refine zaS (d:=7) ?_);go_must (refine app_bytes rfl (.const (.slice none 0 0)) (.tmp 6) 27 rfl w4.heap.size 5 i0 (.int .u8 0) Tryz.underlying27 hi hz0 hz1 hz2 rfl (.slice none 0 0) 0 [] rfl (World.ownsRow_nil _ _ _ _) A c v _ (by rw [HS.out.2.1];rfl) HS.out.2.2 (HS.out.1.on2 H4.out.1) (by unfold maxLen;rw [HS.out.2.1];omega) (by rw [HS.out.2.1];omega) (Nat.le_refl _) ?_);intro v7 w7 ho hg;rw [Nat.zero_add,HS.out.2.1,List.nil_append] at ho;obtain ⟨A7,c7,rfl,h7,s7⟩:=zde ho;have H7:=Lib.hid (show _∧_∧_ from ⟨h7,s7,grown_new hg⟩);clear ho hg h7 s7)
  | ((with_reducible refine zak (i:=4) ?_);go_must (refine zan rfl 64 (.tmp 4) (.tmp 8) rfl g4 zerN (nodV t A7 n c7 none 0 0) rfl rfl (H4.out.2.1.on H7.out.2.2) rfl (zbK _ _ _ _ _ _ _) zbV ?_);intro w8 hw hr;have H8:=Lib.hid (show _∧_ from ⟨hw,hr⟩);clear hw hr))
 have hlt:=H4.out.2.1.lt
 exact bodyPost_ret (zbA rfl _ _ g4 (nodV t A7 n c7 none 0 0) _ rfl H8.out.2 Tryz.underlying64 rfl zbV) rfl ⟨A7,c7,rfl,H7.out.1,(H7.out.2.1.keep fun q hq=>World.cell?_of_block (H8.out.1.2.2.2.2 _ (by have:=hq.1;omega))).imp fun b hb=>⟨Nat.le_trans H4.out.1.size hb.1,by rw [H8.out.1.2.2.2.1];exact hb.2⟩,Wr.bl (zaf H4.out.1 H7.out.2.2) H8.out.1 H4.out.2.2.1⟩
set_option maxHeartbeats 800000 in
theorem zeO (t : Int) (A : Option Addr) (lk ck : Nat) (w : World) :
 Calls Tryz.prog 56 #[.int .i64 t,.slice A lk ck] w fun e w'=>e=.returned (.agg (nodV t none 0 0 A lk ck).toArray)∧Below w.heap.size w w':=by
 have HB:=Lib.hid (Below.refl w.heap.size w)
 go_enter Tryz.func56,Tryz.ntmps56
 go_wp2_with (first
  | ((with_reducible refine zaG (d:=4) ?_);refine zam (op:=⟨some 4,_,_,_,_,_⟩) rfl 64 rfl zerN zcc ?_;intro g4 w4 hf hr;have H4:=Lib.hid (show _∧_∧_∧_ from ⟨hf.bl HB.out,hr,hf.ge HB.out,hf⟩);clear hf hr)
  | ((with_reducible refine zak (i:=4) ?_);go_must (refine zan rfl 64 (.tmp 4) (.tmp 7) rfl g4 zerN (nodV t none 0 0 A lk ck) rfl rfl H4.out.2.1 rfl (zbK _ _ _ _ _ _ _) zbV ?_);intro w8 hw hr;have H8:=Lib.hid (show _∧_ from ⟨hw,hr⟩);clear hw hr))
 exact bodyPost_ret (zbA rfl _ _ g4 (nodV t none 0 0 A lk ck) _ rfl H8.out.2 Tryz.underlying64 rfl zbV) rfl ⟨rfl,Wr.bl H4.out.1 H8.out.1 H4.out.2.2.1⟩
theorem zgK (n : Nat) (hn : n < 4294967296) : Us (octL n 4) = [.int .u8 ((n : Int) / 16777216), .int .u8 ((n : Int) / 65536 % 256), .int .u8 ((n : Int) / 256 % 256), .int .u8 ((n : Int) % 256)] := by
 rw [octL4]
 simp [Us,U]
 omega
theorem r_four (n : Nat) (hn : n < 4294967296) (w : World) : Calls Tryz.prog 79 #[.int .i64 (n : Int)] w (NewIs w (octL n 4) 4) := by
 have H:=Lib.hid hn
 go_enter Tryz.func79,Tryz.ntmps79
 go_wp2
 go_ret
 refine ⟨some ⟨w.heap.size,0,none⟩,4,rfl,⟨fun h=>(by cases h),Nat.le_refl _⟩,.inr ⟨w.heap.size,0,rfl,⟨Nat.le_refl _,by simp⟩,fun j hj=>?_⟩,zfM _ _⟩
 rw [Nat.zero_add,cell_of_row _ _ j _ _ (0,0) (heap_alloc_new w _),zgK n H.out]
 simp
def HedF (w:World) (x:Tm) (u:Value) (c:World):Prop:=∃g,u=.slice (some ⟨g,0,none⟩) 6 6∧SeesN c (newB w c) (some ⟨g,0,none⟩) (zdM x .nil)
theorem HedF.firm (w : World) (x : Tm) : Firm (HedF w x) := by
 rintro u c c' ⟨g,h1,h2⟩ hb
 exact ⟨g,h1,h2.newOn hb⟩
def ObjF (w:World) (x:Tm) (u:Value) (c:World):Prop:=∃g,u=.slice (some ⟨g,0,none⟩) 2 2∧SeesN c (newB w c) (some ⟨g,0,none⟩) (objK x)
theorem ObjF.firm (w : World) (x : Tm) : Firm (ObjF w x) := by
 rintro u c c' ⟨g,h1,h2⟩ hb
 exact ⟨g,h1,h2.newOn hb⟩
def TopF (w:World) (x:Tm) (u:Value) (c:World):Prop:=∃g,u=.agg (nodV 32608 none 0 0 (some ⟨g,0,none⟩) 2 2).toArray∧SeesN c (newB w c) (some ⟨g,0,none⟩) (objK x)
theorem TopF.firm (w : World) (x : Tm) : Firm (TopF w x) := by
 rintro u c c' ⟨g,h1,h2⟩ hb
 exact ⟨g,h1,h2.newOn hb⟩
def ResF (w:World) (g2:Nat) (x:Tm) (u:Value) (c:World):Prop:=∃g,RowV c g2 (nodV 32608 none 0 0 (some ⟨g,0,none⟩) 2 2)∧SeesN c (newB w c) (some ⟨g,0,none⟩) (objK x)
theorem ResF.firm (w : World) (g2 : Nat) (x : Tm) : Firm (ResF w g2 x) := by
 rintro u c c' ⟨g,h1,h2⟩ hb
 exact ⟨g,h1.on hb,h2.newOn hb⟩
theorem zcM {w : World} {p : Nat → Prop} {t : Int} {b : List UInt8} {n c : Nat} {A : Option Addr} {l : List (Int × List UInt8)} {cs : List Value} (hn : b.length = n) (h : (A = none → c = 0) ∧ n ≤ c) (s : SeesP w p A (Us b)) (r : HoldsN w p (zfm l) cs) :
 HoldsN w p (zfm ((t,b)::l)) (.int .i64 t::.slice A n c::.slice none 0 0::cs):=by
 subst hn
 exact ⟨A,c,none,0,[],cs,rfl,⟨h.1,h.2,Nat.zero_le _⟩,s,.inl rfl,rfl,r⟩
theorem SeesN.fresh {w c c' : World} {g : Nat} {f : F} {cs : List Value} (hf : Fresh c c' g) (hr : RowV c' g cs) (hs : w.heap.size ≤ c.heap.size) (h : HoldsN c' (newB w c') f cs) : SeesN c' (newB w c') (some ⟨g, 0, none⟩) f :=
 SeesN.block hr (by rw [hf.1];exact hs) h
theorem grown_wr2 {a b:World} {g:Nat} (h:Wr a b g):a.grownBy b (some g):=⟨h.1,h.2.1,h.2.2.1,Nat.le_of_eq h.2.2.2.1.symm,fun k hk hne=>h.2.2.2.2 k (fun e=>hne (by rw [e]))⟩
theorem bs6 (u0 u1 u2 u3 u4 u5 u6 u7 u8 u9 u10 u11 u12 u13 u14 u15 u16 u17:Value):Tryz.prog.builtSlice 64 6 [(0,.agg #[u0,u1,u2]),(1,.agg #[u3,u4,u5]),(2,.agg #[u6,u7,u8]),(3,.agg #[u9,u10,u11]),(4,.agg #[u12,u13,u14]),(5,.agg #[u15,u16,u17])]=some #[u0,u1,u2,u3,u4,u5,u6,u7,u8,u9,u10,u11,u12,u13,u14,u15,u16,u17]:=by kernel_rfl
theorem pe6 {a:Act} {x0 x1 x2 x3 x4 x5:Operand} {u0 u1 u2 u3 u4 u5:Value} (h0:a.eval x0=u0) (h1:a.eval x1=u1) (h2:a.eval x2=u2) (h3:a.eval x3=u3) (h4:a.eval x4=u4) (h5:a.eval x5=u5):((#[(0,x0),(1,x1),(2,x2),(3,x3),(4,x4),(5,x5)]:Array (Nat×Operand)).map fun (i,x)=>(i,a.eval x)).toList=[(0,u0),(1,u1),(2,u2),(3,u3),(4,u4),(5,u5)]:=by simp [h0,h1,h2,h3,h4,h5]
theorem fa_t0 (g:Nat) (w:World):(Instr.fieldAt 85 (.pointer (some ⟨g,0,none⟩)) 0).run Tryz.prog w=.ok (.pointer (some ⟨g,0,none⟩)) w:=by kernel_rfl
theorem fa_t1 (g:Nat) (w:World):(Instr.fieldAt 85 (.pointer (some ⟨g,0,none⟩)) 1).run Tryz.prog w=.ok (.pointer (some ⟨g,1,none⟩)) w:=by kernel_rfl
theorem fa_t2 (g:Nat) (w:World):(Instr.fieldAt 85 (.pointer (some ⟨g,0,none⟩)) 2).run Tryz.prog w=.ok (.pointer (some ⟨g,2,none⟩)) w:=by kernel_rfl
theorem fa_t3 (g:Nat) (w:World):(Instr.fieldAt 85 (.pointer (some ⟨g,0,none⟩)) 3).run Tryz.prog w=.ok (.pointer (some ⟨g,3,none⟩)) w:=by kernel_rfl
theorem fa_t4 (g:Nat) (w:World):(Instr.fieldAt 85 (.pointer (some ⟨g,0,none⟩)) 4).run Tryz.prog w=.ok (.pointer (some ⟨g,4,none⟩)) w:=by kernel_rfl
theorem fa_t5 (g:Nat) (w:World):(Instr.fieldAt 85 (.pointer (some ⟨g,0,none⟩)) 5).run Tryz.prog w=.ok (.pointer (some ⟨g,5,none⟩)) w:=by kernel_rfl
theorem fa_t6 (g:Nat) (w:World):(Instr.fieldAt 85 (.pointer (some ⟨g,0,none⟩)) 6).run Tryz.prog w=.ok (.pointer (some ⟨g,6,none⟩)) w:=by kernel_rfl
set_option maxHeartbeats 6400000 in
set_option maxRecDepth 20000 in
theorem r_object (x : Tm) (hv : vT x = 0) (A : Option Addr) (cd : Nat) (w : World) (h0 : A = none → cd = 0) (hs : SeesP w (· < w.heap.size) A (Us x.d)) :
 Calls Tryz.prog 76 #[.agg (x.cs A cd).toArray] w fun e w'=>∃A2 c2,e=.returned (.agg (nodV 32608 none 0 0 A2 2 c2).toArray)∧2≤c2∧SeesN w' (newB w w') A2 (objK x)∧Below w.heap.size w w':=by
 obtain ⟨us,hus⟩ : ∃us,x.cs A cd=us:=⟨_,rfl⟩
 obtain ⟨dn,hdn⟩ : ∃n,x.d.length=n:=⟨_,rfl⟩
 obtain ⟨b1,b2,b3,b4,b5,b6,b7,b8,b9⟩:=vT_bd hv
 obtain ⟨nk,hk⟩ : ∃n,x.k.toNat=n:=⟨_,rfl⟩
 obtain ⟨np,hp⟩ : ∃n,x.p.toNat=n:=⟨_,rfl⟩
 obtain ⟨nf,hf⟩ : ∃n,x.f.toNat=n:=⟨_,rfl⟩
 obtain ⟨nt,ht⟩ : ∃n,x.t.toNat=n:=⟨_,rfl⟩
 obtain ⟨no,ho⟩ : ∃n,x.fo.toNat=n:=⟨_,rfl⟩
 obtain ⟨nq,hq⟩ : ∃n,x.q.toNat=n:=⟨_,rfl⟩
 have e1:x.k=(nk:Int):=by omega
 have e2:x.p=(np:Int):=by omega
 have e3:x.f=(nf:Int):=by omega
 have e4:x.t=(nt:Int):=by omega
 have e5:x.fo=(no:Int):=by omega
 have e6:x.q=(nq:Int):=by omega
 have HU := Lib.hid (show us[0]? = some (.int .i64 (nk : Int)) ∧ us[1]? = some (.int .i64 (np : Int)) ∧ us[2]? = some (.int .i64 (nf : Int)) ∧ us[3]? = some (.int .i64 (nt : Int)) ∧ us[4]? = some (.int .i64 (no : Int)) ∧ us[5]? = some (.int .i64 (nq : Int)) ∧ us[6]? = some (.slice A dn cd) from by
  rw [←hus,←hdn,←e1,←e2,←e3,←e4,←e5,←e6];exact ⟨rfl,rfl,rfl,rfl,rfl,rfl,rfl⟩)
 have HX : Hid (zdM x .nil = zfm [(129, [UInt8.ofNat nk]), (130, [UInt8.ofNat np]), (131, octL nf 4), (132, octL nt 4), (133, [UInt8.ofNat nq]), (136, [UInt8.ofNat (no / 256), UInt8.ofNat no])]) := Lib.hid (by
  unfold zdM
  rw [hk,hp,hf,ht,ho,hq,octL1,octL1,octL1,octL2]
  rfl)
 have HNB:=Lib.hid (show nf < 4294967296∧nt < 4294967296∧no < 65536 from by omega)
 have HDN:=Lib.hid (show x.d.length=dn∧dn≤140737488351232∧(A=none→cd=0) from ⟨hdn,by omega,h0⟩)
 have HS:=Lib.hid hs
 have HB:=Lib.hid (Below.refl w.heap.size w)
 rw [hus]
 clear hs hus hdn b1 b2 b3 b4 b5 b6 b7 b8 b9 hk hp hf ht ho hq e1 e2 e3 e4 e5 e6 h0
 go_enter Tryz.func76,Tryz.ntmps76
 go_wp2_with (first
  | ((with_reducible refine zbl (d:=1) ?_);refine zax (op:=⟨some 1,_,_,_,_,_⟩) rfl 85 _ rfl us rfl ?_;intro g1 w1 hf hr;have H0:=Lib.hid (show _∧_∧_ from ⟨hf.bl HB.out,hr,hf.ge HB.out⟩);clear hf hr)
  | ((with_reducible refine zaG (d:=2) ?_);refine zam (op:=⟨some 2,_,_,_,_,_⟩) rfl 64 rfl zerN zcc ?_;intro g2 w2 hf hr;have H1:=Lib.hid (show Below w.heap.size w w2∧RowV w2 g1 us∧RowV w2 g2 zerN∧g2 < w2.heap.size∧w.heap.size≤g2∧g1≠g2 from ⟨hf.bl H0.out.1,H0.out.2.1.fresh hf,hr,hr.lt,hf.ge H0.out.1,H0.out.2.1.ne hf⟩);clear hf hr))
 refine zbG (by kernel_rfl) _ w2 (fun c=>Below w2.heap.size w2 c) 99 (zef [fun u _=>u=.pointer (some ⟨g1,0,none⟩),fun u _=>u=.int .i64 (nk:Int),fun u _=>u=U (UInt8.ofNat (nk)),BytF w2 [UInt8.ofNat (nk)] 1,NodF w2 129 ([UInt8.ofNat nk]) 1,fun u _=>u=.pointer (some ⟨g1,1,none⟩),fun u _=>u=.int .i64 (np:Int),fun u _=>u=U (UInt8.ofNat (np)),BytF w2 [UInt8.ofNat (np)] 1,NodF w2 130 ([UInt8.ofNat np]) 1,fun u _=>u=.pointer (some ⟨g1,2,none⟩),fun u _=>u=.int .i64 (nf:Int),BytF w2 (octL nf 4) 4,NodF w2 131 (octL nf 4) 4,fun u _=>u=.pointer (some ⟨g1,3,none⟩),fun u _=>u=.int .i64 (nt:Int),BytF w2 (octL nt 4) 4,NodF w2 132 (octL nt 4) 4,fun u _=>u=.pointer (some ⟨g1,5,none⟩),fun u _=>u=.int .i64 (nq:Int),fun u _=>u=U (UInt8.ofNat (nq)),BytF w2 [UInt8.ofNat (nq)] 1,NodF w2 133 ([UInt8.ofNat nq]) 1,fun u _=>u=.pointer (some ⟨g1,4,none⟩),fun u _=>u=.int .i64 (no:Int),fun u _=>u=.int .i64 ((no / 256:Nat):Int),fun u _=>u=U (UInt8.ofNat (no / 256)),fun u _=>u=.pointer (some ⟨g1,4,none⟩),fun u _=>u=.int .i64 (no:Int),fun u _=>u=U (UInt8.ofNat (no)),BytF w2 [UInt8.ofNat (no / 256),UInt8.ofNat no] 2,NodF w2 136 ([UInt8.ofNat (no / 256),UInt8.ofNat no]) 2,HedF w2 x,HedF w2 x]) (by kernel_rfl) (zbR (by simp only [List.forall_mem_cons];exact ⟨zaq _,zaq _,zaq _,BytF.firm _ _ _,NodF.firm _ _ _ _,zaq _,zaq _,zaq _,BytF.firm _ _ _,NodF.firm _ _ _ _,zaq _,zaq _,BytF.firm _ _ _,NodF.firm _ _ _ _,zaq _,zaq _,BytF.firm _ _ _,NodF.firm _ _ _ _,zaq _,zaq _,zaq _,BytF.firm _ _ _,NodF.firm _ _ _ _,zaq _,zaq _,zaq _,zaq _,zaq _,zaq _,zaq _,BytF.firm _ _ _,NodF.firm _ _ _ _,HedF.firm _ _,HedF.firm _ _,fun X h=>by cases h⟩)) (fun c c' h hb=>zaf h hb) (Below.refl _ _) (Below.refl _ _) ?_ ?_
 · refine zch (allI.cons ?_ (allI.cons ?_ (allI.cons ?_ (allI.cons ?_ (allI.cons ?_ (allI.cons ?_ (allI.cons ?_ (allI.cons ?_ (allI.cons ?_ (allI.cons ?_ (allI.cons ?_ (allI.cons ?_ (allI.cons ?_ (allI.cons ?_ (allI.cons ?_ (allI.cons ?_ (allI.cons ?_ (allI.cons ?_ (allI.cons ?_ (allI.cons ?_ (allI.cons ?_ (allI.cons ?_ (allI.cons ?_ (allI.cons ?_ (allI.cons ?_ (allI.cons ?_ (allI.cons ?_ (allI.cons ?_ (allI.cons ?_ (allI.cons ?_ (allI.cons ?_ (allI.cons ?_ (allI.cons ?_ (allI.cons ?_ allI.nil)))))))))))))))))))))))))))))))))) <;> intro v S c a hI hw1 hX hSi hdep hS hC
   · exact o_fa _ (.tmp 1) 0 rfl (hS.old 1 rfl) (fa_t0 g1 _) (Step.still rfl)
   · exact o_ld _ (.tmp 4) rfl ((hS.get 0 (zad hdep 0 rfl) rfl rfl).trans (hX 0 (zad hdep 0 rfl))) (((H1.out.2.1.on hI).cell 0).trans HU.out.1) ag_i (Step.still rfl)
   · exact o_cv _ _ (.tmp 5) rfl ((hS.get 1 (zad hdep 1 rfl) rfl rfl).trans (hX 1 (zad hdep 1 rfl))) (zeL (nk) _) (Step.still rfl)
   · refine zeI _ 5 1 _ rfl Tryz.underlying27 (pe1 ((hS.get 2 (zad hdep 2 rfl) rfl rfl).trans (hX 2 (zad hdep 2 rfl)))) (bsu1 _) ?_
     intro g w2 hf hr
     exact Step.new (BytF.lit hf (v:=[UInt8.ofNat (nk)]) hr rfl rfl hI.size) hf.bw
   · obtain ⟨A9, c9, e9, h9, s9⟩ := (hX 3 (zad hdep 3 rfl))
     refine zaR (.func 39) 39 #[.const (.int .i64 129),.tmp 7] _ rfl rfl (ev2 rfl ((hS.get 3 (zad hdep 3 rfl) rfl rfl).trans e9)) (by kernel_rfl) (zcT 129 ([UInt8.ofNat nk]) 1 (by simp) (by decide) A9 c9 h9.1 c (s9.imp fun b hb=>hb.2)) (fun e w9 h=>?_)
     obtain ⟨A8,c8,rfl,h8,s8,b8⟩:=h
     exact ⟨_,rfl,Step.new ⟨A8,c8,rfl,h8,s8.imp fun b hb=>zaH (w:=w2) hb hI.size (Nat.le_refl _)⟩ b8⟩
   · exact o_fa _ (.tmp 1) 1 rfl (hS.old 1 rfl) (fa_t1 g1 _) (Step.still rfl)
   · exact o_ld _ (.tmp 9) rfl ((hS.get 5 (zad hdep 5 rfl) rfl rfl).trans (hX 5 (zad hdep 5 rfl))) (((H1.out.2.1.on hI).cell 1).trans HU.out.2.1) ag_i (Step.still rfl)
   · exact o_cv _ _ (.tmp 10) rfl ((hS.get 6 (zad hdep 6 rfl) rfl rfl).trans (hX 6 (zad hdep 6 rfl))) (zeL (np) _) (Step.still rfl)
   · refine zeI _ 5 1 _ rfl Tryz.underlying27 (pe1 ((hS.get 7 (zad hdep 7 rfl) rfl rfl).trans (hX 7 (zad hdep 7 rfl)))) (bsu1 _) ?_
     intro g w2 hf hr
     exact Step.new (BytF.lit hf (v:=[UInt8.ofNat (np)]) hr rfl rfl hI.size) hf.bw
   · obtain ⟨A9, c9, e9, h9, s9⟩ := (hX 8 (zad hdep 8 rfl))
     refine zaR (.func 39) 39 #[.const (.int .i64 130),.tmp 12] _ rfl rfl (ev2 rfl ((hS.get 8 (zad hdep 8 rfl) rfl rfl).trans e9)) (by kernel_rfl) (zcT 130 ([UInt8.ofNat np]) 1 (by simp) (by decide) A9 c9 h9.1 c (s9.imp fun b hb=>hb.2)) (fun e w9 h=>?_)
     obtain ⟨A8,c8,rfl,h8,s8,b8⟩:=h
     exact ⟨_,rfl,Step.new ⟨A8,c8,rfl,h8,s8.imp fun b hb=>zaH (w:=w2) hb hI.size (Nat.le_refl _)⟩ b8⟩
   · exact o_fa _ (.tmp 1) 2 rfl (hS.old 1 rfl) (fa_t2 g1 _) (Step.still rfl)
   · exact o_ld _ (.tmp 14) rfl ((hS.get 10 (zad hdep 10 rfl) rfl rfl).trans (hX 10 (zad hdep 10 rfl))) (((H1.out.2.1.on hI).cell 2).trans HU.out.2.2.1) ag_i (Step.still rfl)
   · refine zaR (.func 79) 79 #[.tmp 15] _ rfl rfl (ev1 ((hS.get 11 (zad hdep 11 rfl) rfl rfl).trans (hX 11 (zad hdep 11 rfl)))) (by kernel_rfl) (r_four nf HNB.out.1 c) (fun e w9 h => ?_)
     obtain ⟨A8,c8,rfl,h8,s8,b8⟩:=h
     exact ⟨_,rfl,Step.new ⟨A8,c8,rfl,h8,s8.imp fun b hb=>zaH (w:=w2) hb hI.size (Nat.le_refl _)⟩ b8⟩
   · obtain ⟨A9, c9, e9, h9, s9⟩ := (hX 12 (zad hdep 12 rfl))
     refine zaR (.func 39) 39 #[.const (.int .i64 131),.tmp 16] _ rfl rfl (ev2 rfl ((hS.get 12 (zad hdep 12 rfl) rfl rfl).trans e9)) (by kernel_rfl) (zcT 131 (octL nf 4) 4 (zav _ _) (by decide) A9 c9 h9.1 c (s9.imp fun b hb=>hb.2)) (fun e w9 h=>?_)
     obtain ⟨A8,c8,rfl,h8,s8,b8⟩:=h
     exact ⟨_,rfl,Step.new ⟨A8,c8,rfl,h8,s8.imp fun b hb=>zaH (w:=w2) hb hI.size (Nat.le_refl _)⟩ b8⟩
   · exact o_fa _ (.tmp 1) 3 rfl (hS.old 1 rfl) (fa_t3 g1 _) (Step.still rfl)
   · exact o_ld _ (.tmp 18) rfl ((hS.get 14 (zad hdep 14 rfl) rfl rfl).trans (hX 14 (zad hdep 14 rfl))) (((H1.out.2.1.on hI).cell 3).trans HU.out.2.2.2.1) ag_i (Step.still rfl)
   · refine zaR (.func 79) 79 #[.tmp 19] _ rfl rfl (ev1 ((hS.get 15 (zad hdep 15 rfl) rfl rfl).trans (hX 15 (zad hdep 15 rfl)))) (by kernel_rfl) (r_four nt HNB.out.2.1 c) (fun e w9 h => ?_)
     obtain ⟨A8,c8,rfl,h8,s8,b8⟩:=h
     exact ⟨_,rfl,Step.new ⟨A8,c8,rfl,h8,s8.imp fun b hb=>zaH (w:=w2) hb hI.size (Nat.le_refl _)⟩ b8⟩
   · obtain ⟨A9, c9, e9, h9, s9⟩ := (hX 16 (zad hdep 16 rfl))
     refine zaR (.func 39) 39 #[.const (.int .i64 132),.tmp 20] _ rfl rfl (ev2 rfl ((hS.get 16 (zad hdep 16 rfl) rfl rfl).trans e9)) (by kernel_rfl) (zcT 132 (octL nt 4) 4 (zav _ _) (by decide) A9 c9 h9.1 c (s9.imp fun b hb=>hb.2)) (fun e w9 h=>?_)
     obtain ⟨A8,c8,rfl,h8,s8,b8⟩:=h
     exact ⟨_,rfl,Step.new ⟨A8,c8,rfl,h8,s8.imp fun b hb=>zaH (w:=w2) hb hI.size (Nat.le_refl _)⟩ b8⟩
   · exact o_fa _ (.tmp 1) 5 rfl (hS.old 1 rfl) (fa_t5 g1 _) (Step.still rfl)
   · exact o_ld _ (.tmp 22) rfl ((hS.get 18 (zad hdep 18 rfl) rfl rfl).trans (hX 18 (zad hdep 18 rfl))) (((H1.out.2.1.on hI).cell 5).trans HU.out.2.2.2.2.2.1) ag_i (Step.still rfl)
   · exact o_cv _ _ (.tmp 23) rfl ((hS.get 19 (zad hdep 19 rfl) rfl rfl).trans (hX 19 (zad hdep 19 rfl))) (zeL (nq) _) (Step.still rfl)
   · refine zeI _ 5 1 _ rfl Tryz.underlying27 (pe1 ((hS.get 20 (zad hdep 20 rfl) rfl rfl).trans (hX 20 (zad hdep 20 rfl)))) (bsu1 _) ?_
     intro g w2 hf hr
     exact Step.new (BytF.lit hf (v:=[UInt8.ofNat (nq)]) hr rfl rfl hI.size) hf.bw
   · obtain ⟨A9, c9, e9, h9, s9⟩ := (hX 21 (zad hdep 21 rfl))
     refine zaR (.func 39) 39 #[.const (.int .i64 133),.tmp 25] _ rfl rfl (ev2 rfl ((hS.get 21 (zad hdep 21 rfl) rfl rfl).trans e9)) (by kernel_rfl) (zcT 133 ([UInt8.ofNat nq]) 1 (by simp) (by decide) A9 c9 h9.1 c (s9.imp fun b hb=>hb.2)) (fun e w9 h=>?_)
     obtain ⟨A8,c8,rfl,h8,s8,b8⟩:=h
     exact ⟨_,rfl,Step.new ⟨A8,c8,rfl,h8,s8.imp fun b hb=>zaH (w:=w2) hb hI.size (Nat.le_refl _)⟩ b8⟩
   · exact o_fa _ (.tmp 1) 4 rfl (hS.old 1 rfl) (fa_t4 g1 _) (Step.still rfl)
   · exact o_ld _ (.tmp 27) rfl ((hS.get 23 (zad hdep 23 rfl) rfl rfl).trans (hX 23 (zad hdep 23 rfl))) (((H1.out.2.1.on hI).cell 4).trans HU.out.2.2.2.2.1) ag_i (Step.still rfl)
   · exact o_bin .shr _ _ (.tmp 28) (.const (.int .u64 8)) rfl ((hS.get 24 (zad hdep 24 rfl) rfl rfl).trans (hX 24 (zad hdep 24 rfl))) rfl (shr8 no HNB.out.2.2 _ _ _) (Step.still rfl)
   · exact o_cv _ _ (.tmp 29) rfl ((hS.get 25 (zad hdep 25 rfl) rfl rfl).trans (hX 25 (zad hdep 25 rfl))) (zeL (no / 256) _) (Step.still rfl)
   · exact o_fa _ (.tmp 1) 4 rfl (hS.old 1 rfl) (fa_t4 g1 _) (Step.still rfl)
   · exact o_ld _ (.tmp 31) rfl ((hS.get 27 (zad hdep 27 rfl) rfl rfl).trans (hX 27 (zad hdep 27 rfl))) (((H1.out.2.1.on hI).cell 4).trans HU.out.2.2.2.2.1) ag_i (Step.still rfl)
   · exact o_cv _ _ (.tmp 32) rfl ((hS.get 28 (zad hdep 28 rfl) rfl rfl).trans (hX 28 (zad hdep 28 rfl))) (zeL (no) _) (Step.still rfl)
   · refine zeI _ 5 2 _ rfl Tryz.underlying27 (pe2 ((hS.get 26 (zad hdep 26 rfl) rfl rfl).trans (hX 26 (zad hdep 26 rfl))) ((hS.get 29 (zad hdep 29 rfl) rfl rfl).trans (hX 29 (zad hdep 29 rfl)))) (bsu2 _ _) ?_
     intro g w2 hf hr
     exact Step.new (BytF.lit hf (v:=[UInt8.ofNat (no / 256),UInt8.ofNat no]) hr rfl rfl hI.size) hf.bw
   · obtain ⟨A9, c9, e9, h9, s9⟩ := (hX 30 (zad hdep 30 rfl))
     refine zaR (.func 39) 39 #[.const (.int .i64 136),.tmp 34] _ rfl rfl (ev2 rfl ((hS.get 30 (zad hdep 30 rfl) rfl rfl).trans e9)) (by kernel_rfl) (zcT 136 ([UInt8.ofNat (no / 256),UInt8.ofNat no]) 2 (by simp) (by decide) A9 c9 h9.1 c (s9.imp fun b hb=>hb.2)) (fun e w9 h=>?_)
     obtain ⟨A8,c8,rfl,h8,s8,b8⟩:=h
     exact ⟨_,rfl,Step.new ⟨A8,c8,rfl,h8,s8.imp fun b hb=>zaH (w:=w2) hb hI.size (Nat.le_refl _)⟩ b8⟩
   · obtain ⟨A0, c0, e0, h0, s0⟩ := (hX 4 (zad hdep 4 rfl))
     obtain ⟨A1,c1,e1,h1,s1⟩:=(hX 9 (zad hdep 9 rfl))
     obtain ⟨A2,c2,e2,h2,s2⟩:=(hX 13 (zad hdep 13 rfl))
     obtain ⟨A3,c3,e3,h3,s3⟩:=(hX 17 (zad hdep 17 rfl))
     obtain ⟨A4,c4,e4,h4,s4⟩:=(hX 22 (zad hdep 22 rfl))
     obtain ⟨A5,c5,e5,h5,s5⟩:=(hX 31 (zad hdep 31 rfl))
     refine zeI _ 64 6 _ rfl Tryz.underlying30 (pe6 ((hS.get 4 (zad hdep 4 rfl) rfl rfl).trans e0) ((hS.get 9 (zad hdep 9 rfl) rfl rfl).trans e1) ((hS.get 13 (zad hdep 13 rfl) rfl rfl).trans e2) ((hS.get 17 (zad hdep 17 rfl) rfl rfl).trans e3) ((hS.get 22 (zad hdep 22 rfl) rfl rfl).trans e4) ((hS.get 31 (zad hdep 31 rfl) rfl rfl).trans e5)) (bs6 _ _ _ _ _ _ _ _ _ _ _ _ _ _ _ _ _ _ ) ?_
     intro g w9 hf hr
     exact Step.new ⟨g,rfl,by rw [HX.out];exact SeesN.fresh hf hr hI.size (zcM rfl h0 (s0.newOn hf.bw) (zcM rfl h1 (s1.newOn hf.bw) (zcM (zav _ _) h2 (s2.newOn hf.bw) (zcM (zav _ _) h3 (s3.newOn hf.bw) (zcM rfl h4 (s4.newOn hf.bw) (zcM rfl h5 (s5.newOn hf.bw) rfl))))))⟩ hf.bw
   · exact o_as _ rfl (hS.get 32 (zad hdep 32 rfl) rfl rfl) (Step.still (hX 32 (zad hdep 32 rfl)))
 · intro v w3 hI hX
   obtain ⟨gh,e33,sh⟩:=hX 33 (by decide)
   have H3:=Lib.hid (show Below w.heap.size w w3∧RowV w3 g1 us∧RowV w3 g2 zerN∧w2.heap.size≤w3.heap.size∧SeesN w3 (newB w2 w3) (some ⟨gh,0,none⟩) (zdM x .nil) from ⟨zaf H1.out.1 hI,H1.out.2.1.on hI,H1.out.2.2.1.on hI,hI.size,sh⟩)
   clear hI hX sh
   simp only [zbz,Act.put]
   simp
   rw [e33]
   clear e33
   go_wp2_with fail
   refine zbG (by kernel_rfl) _ w3 (fun c=>Below w.heap.size w c∧RowV c g1 us∧w2.heap.size≤c.heap.size∧SeesN c (newB w2 c) (some ⟨gh,0,none⟩) (zdM x .nil)) 7 (zef [fun u _=>u=.slice (some ⟨gh,0,none⟩) 6 6,fun u _=>u=.agg (nodV 161 none 0 0 (some ⟨gh,0,none⟩) 6 6).toArray,fun u _=>u=.pointer (some ⟨g1,6,none⟩),fun u _=>u=.slice A dn cd,NodF w2 24366 x.d dn,ObjF w2 x,TopF w2 x,ResF w2 g2 x]) (by kernel_rfl) (zbR (by simp only [List.forall_mem_cons];exact ⟨zaq _,zaq _,zaq _,zaq _,NodF.firm _ _ _ _,ObjF.firm _ _,TopF.firm _ _,ResF.firm _ _ _,fun X h=>by cases h⟩)) (fun c c' h hb=>⟨zaf h.1 hb,h.2.1.on hb,Nat.le_trans h.2.2.1 hb.size,h.2.2.2.newOn hb⟩) (Below.refl _ _) ⟨H3.out.1,H3.out.2.1,H3.out.2.2.2.1,H3.out.2.2.2.2⟩ ?_ ?_
   · refine zch (allI.cons ?_ (allI.cons ?_ (allI.cons ?_ (allI.cons ?_ (allI.cons ?_ (allI.cons ?_ (allI.cons ?_ (allI.cons ?_ allI.nil)))))))) <;> intro v S c a hI hw1 hX hSi hdep hS hC
     · exact o_mv _ rfl (hS.old 3 rfl) (Step.still rfl)
     · refine zaR (.func 56) 56 #[.const (.int .i64 161), .tmp 37] _ rfl rfl (ev2 rfl ((hS.get 0 (zad hdep 0 rfl) rfl rfl).trans (hX 0 (zad hdep 0 rfl)))) (by kernel_rfl) (zeO 161 _ 6 6 c) (fun e w9 h => ?_)
       obtain ⟨rfl,b8⟩:=h
       exact ⟨_,rfl,Step.new rfl b8⟩
     · exact o_fa _ (.tmp 1) 6 rfl (hS.old 1 rfl) (fa_t6 g1 _) (Step.still rfl)
     · exact o_ld _ (.tmp 39) rfl ((hS.get 2 (zad hdep 2 rfl) rfl rfl).trans (hX 2 (zad hdep 2 rfl))) ((hI.2.1.cell 6).trans HU.out.2.2.2.2.2.2) ag_s (Step.still rfl)
     · refine zaR (.func 39) 39 #[.const (.int .i64 24366), .tmp 40] _ rfl rfl (ev2 rfl ((hS.get 3 (zad hdep 3 rfl) rfl rfl).trans (hX 3 (zad hdep 3 rfl)))) (by kernel_rfl) (zcT 24366 x.d dn HDN.out.1 HDN.out.2.1 A cd HDN.out.2.2 c (HS.out.on2 hI.1)) (fun e w9 h => ?_)
       obtain ⟨A8,c8,rfl,h8,s8,b8⟩:=h
       exact ⟨_,rfl,Step.new ⟨A8,c8,rfl,h8,s8.imp fun b hb=>zaH (w:=w2) hb hI.2.2.1 (Nat.le_refl _)⟩ b8⟩
     · obtain ⟨A8, c8, e8, h8, s8⟩ := (hX 4 (zad hdep 4 rfl))
       refine zeI _ 64 2 _ rfl Tryz.underlying30 (pe2 ((hS.get 1 (zad hdep 1 rfl) rfl rfl).trans (hX 1 (zad hdep 1 rfl))) ((hS.get 4 (zad hdep 4 rfl) rfl rfl).trans e8)) (bs2 _ _ _ _ _ _) ?_
       intro g w9 hf hr
       obtain ⟨ks,k1,k2⟩:=hI.2.2.2.newOn hf.bw
       exact Step.new ⟨g,rfl,SeesN.fresh hf hr hI.2.2.1 ⟨none,0,some ⟨gh,0,none⟩,6,ks,_,rfl,⟨fun _=>rfl,Nat.zero_le _,Nat.le_refl _⟩,.inl rfl,k1,k2,A8,c8,none,0,[],[],by rw [HDN.out.1];rfl,⟨h8.1,by rw [HDN.out.1];exact h8.2,Nat.zero_le _⟩,s8.newOn hf.bw,.inl rfl,rfl,rfl⟩⟩ hf.bw
     · obtain ⟨g, e8, s8⟩ := (hX 5 (zad hdep 5 rfl))
       refine zaR (.func 56) 56 #[.const (.int .i64 32608),.tmp 42] _ rfl rfl (ev2 rfl ((hS.get 5 (zad hdep 5 rfl) rfl rfl).trans e8)) (by kernel_rfl) (zeO 32608 _ 2 2 c) (fun e w9 h=>?_)
       obtain ⟨rfl,b8⟩:=h
       exact ⟨_,rfl,Step.new ⟨g,rfl,s8.newOn b8⟩ b8⟩
     · obtain ⟨g, e8, s8⟩ := (hX 6 (zad hdep 6 rfl))
       refine zgH 64 (.tmp 2) (.tmp 43) rfl g2 zerN (nodV 32608 none 0 0 (some ⟨g,0,none⟩) 2 2) (hS.old 2 rfl) ((hS.get 6 (zad hdep 6 rfl) rfl rfl).trans e8) (H3.out.2.2.1.on (hw1 hSi)) rfl (zbK _ _ _ _ _ _ _) zbV ?_
       intro w9 hw hr
       have hgr:c.grownBy w9 (Value.slice (some ⟨g2,0,none⟩) 0 0).ownBlock:=grown_wr2 hw
       have hlt:∀k,(Value.slice (some ⟨g2,0,none⟩) 0 0).ownBlock=some k→k < w2.heap.size:=fun k e=>by have e:some g2=some k:=e;injection e with e;rw [←e];exact H1.out.2.2.2.1
       refine Step.turn ⟨g,hr,SeesN.put s8 hw H1.out.2.2.2.1 (Nat.le_refl _)⟩ rfl ⟨Wr.bl hI.1 hw H1.out.2.2.2.2.1,hI.2.1.wr hw H1.out.2.2.2.2.2,Nat.le_trans hI.2.2.1 (Nat.le_of_eq hw.2.2.2.1.symm),SeesN.put hI.2.2.2 hw H1.out.2.2.2.1 (Nat.le_refl _)⟩ ?_
       intro j hj
       match j,hj with
       | 0,hj=>exact hX 0 hj
       | 1,hj=>exact hX 1 hj
       | 2,hj=>exact hX 2 hj
       | 3,hj=>exact hX 3 hj
       | 4,hj=>exact NodF.row (hX 4 hj) hgr hlt
       | 5, hj =>
         obtain ⟨g',e',s'⟩:=hX 5 hj
         exact ⟨g',e',SeesN.put s' hw H1.out.2.2.2.1 (Nat.le_refl _)⟩
       | 6, hj =>
         obtain ⟨g',e',s'⟩:=hX 6 hj
         exact ⟨g',e',SeesN.put s' hw H1.out.2.2.2.1 (Nat.le_refl _)⟩
       | 7,hj=>rw [hSi] at hj;cases hj
       | _+8,_=>trivial
   · intro v2 w4 hI hX
     obtain ⟨g,hr,s8⟩:=hX 7 (by decide)
     have H4:=Lib.hid (show _∧_∧_ from ⟨hr,s8.imp (p':=newB w w4) fun b hb=>zaH hb H1.out.1.size (Nat.le_refl _),hI.1⟩)
     clear hI hX hr s8
     simp only [zbz,Act.put]
     simp
     go_wp2_with fail
     exact bodyPost_ret (zbA rfl _ _ g2 (nodV 32608 none 0 0 (some ⟨g,0,none⟩) 2 2) _ rfl H4.out.1 Tryz.underlying64 rfl zbV) rfl ⟨_,2,rfl,Nat.le_refl _,H4.out.2.1,H4.out.2.2⟩
end Go.Proofs.YtnlhbknajdpnbaaGreatDoor
