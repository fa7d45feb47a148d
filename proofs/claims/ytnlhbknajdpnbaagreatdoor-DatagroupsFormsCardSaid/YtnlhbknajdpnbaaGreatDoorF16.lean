/-
  What is proved here: a region that draws its order and whose operations turn memory at more places than one; the maker Template.
-/
import Derived.Test.YtnlhbknajdpnbaaGreatDoorF15
set_option linter.unusedVariables false
set_option linter.unusedSimpArgs false
namespace Go.Proofs.YtnlhbknajdpnbaaGreatDoor
open Go.RowKit
def StepT (I : World → Prop) (X : Nat → Value → World → Prop) (S : Nat → Bool) (v : Nat → Value) (c : World) (a : Act) (o : Oper) (i : Nat) (a' : Act) (w' : World) : Prop :=
 ∃u,a'=a.put o.dst u∧X i u w'∧(Below c.heap.size c w'∨(I w'∧∀j,S j=true→X j (v j) w'))
theorem zdm {P : Program} {ops : Array Oper} {Q : Exit → Act → World → Prop} {id : Nat} {w : World} (hm : P.follows .mixedOrders = true) (a0 : Act) (I : World → Prop) (X : Nat → Value → World → Prop) (hB : zfL ops a0.tmps.size = true) (hF : ∀ i, Firm (X i)) (hI : ∀ c c', I c → Below c.heap.size c c' → I c')
 (h1:I w)
 (hstep : ∀ (i : Nat) (o : Oper), ops[i]? = some o → ∀ (v : Nat → Value) (S : Nat → Bool) (c : World) (a : Act), I c → (∀ j, S j = true → X j (v j) c) → S i = false → (∀ e ∈ o.after, Region.binds .any e = true → S e.on = true) → SlotsIn ops a0 S v a → zez ops S →
  o.wp P a c (StepT I X S v c a o i) Q)
 (hend:∀(v:Nat→Value) (c:World),I c→(∀j,j < ops.size→X j (v j) c)→Q .normal (zbz v 0 ops.toList a0) c):(Code.region id ops true).wp P Q a0 w:=by
 refine zdw hm a0 (fun v=>v) (fun v S c=>I c∧∀j,S j=true→X j (v j) c) hB (fun _=>undef) ⟨hI _ _ h1 (zbS _ _ 1),fun j h=>by cases h⟩ ?_ (fun v c S hall hW=>hend v c hW.1 fun j hj=>hW.2 j (hall j hj))
 intro i o ho v S c a hW hSi hdep hS hC
 refine Oper.wp_mono ?_ (hstep i o ho v S c a hW.1 hW.2 hSi hdep hS hC)
 rintro a' w' ⟨u,e,h2,h3⟩
 refine ⟨fun j=>if j=i then u else v j,fun j hj=>?_,by simpa using e,?_,fun j hj=>?_⟩
 · have : j ≠ i := by rintro rfl; rw [hSi] at hj; cases hj
   simp [this]
 · rcases h3 with h3 | h3
   · exact hI _ _ hW.1 h3
   · exact h3.1
 · by_cases hji : j = i
   · subst hji;simpa using h2
   · have hSj : S j = true := by simpa [hji] using hj
     simp only [hji,if_false]
     rcases h3 with h3 | h3
     · exact hF j _ _ _ (hW.2 j hSj) h3
     · exact h3.2 j hSj
section
variable {a:Act} {c:World} {o:Oper} {I:World→Prop} {X:Nat→Value→World→Prop} {S:Nat→Bool} {v:Nat→Value} {i:Nat}
theorem StepT.still {x:Value} (h:X i x c):StepT I X S v c a o i (a.put o.dst x) c:=⟨x,rfl,h,.inl (Below.refl _ _)⟩
theorem StepT.new {x:Value} {c':World} (h:X i x c') (hb:Below c.heap.size c c'):StepT I X S v c a o i (a.put o.dst x) c':=⟨x,rfl,h,.inl hb⟩
theorem StepT.turn {x:Value} {c':World} (h:X i x c') (hI:I c') (hX:∀j,S j=true→X j (v j) c'):StepT I X S v c a o i (a.put o.dst x) c':=⟨x,rfl,h,.inr ⟨hI,hX⟩⟩
end
theorem o_stA {P : Program} {a : Act} {w : World} {K : Act → World → Prop} {Q : Exit → Act → World → Prop} {o : Oper} (ty : TypeId) (x y : Operand) (ho : o.op = .store ty x y) (g i : Nat) (vs : List Value) (u : Value)
 (hx:a.eval x=.pointer (some ⟨g,i,none⟩)) (hy:a.eval y=u) (h:RowV w g vs) (hlt:i < vs.length) (h1:u.oneCell'=true) (hc:u.cells=#[u]) (hi:(P.info? ty).map (·.size)=some 1)
 (hK:∀w',Wr w w' g→RowV w' g (vs.set i u)→K (a.put o.dst undef) w'):o.wp P a w K Q:=by
 obtain ⟨t,h⟩:=h
 have hst:=run_storeCells_at P g i t [u] 0 _ w h (by simp;omega) (by simpa using h1)
 have hr : (storeVar ty ⟨g, i, none⟩ u).run P w = .ok () (w.setRow g (vs.set i u).toArray) := by
  cases hq:P.info? ty with
  | none=>simp [hq] at hi
  | some i0 =>
    have hs:i0.size=1:=by simpa [hq] using hi
    have e:vs.take i++u::vs.drop (i+1)=vs.set i u:=(List.set_eq_take_append_cons_drop ..).trans (if_pos hlt) |>.symm
    simp only [Nat.add_zero] at hst
    simp [storeVar,sizeOf,typeInfo,hq,hc,hs,hst,e]
 unfold Oper.wp execOp
 simp only [ho,hx,hy,Instr.storeAt,Instr.sureAddr,Sem.run_bind,Sem.run_pure,Result.andThen_ok,hr]
 exact hK _ (Wr.row _ _ _) ⟨t,setRow_heap w g _ _ t (0,0) h⟩
theorem add_nat (x y : Nat) (hx : x < 4611686018427387904) (hy : y < 4611686018427387904) (p q : Operand) (w : World) : (do eqGuard .add 3 p q (.int .i64 (x : Int)) (.int .i64 (y : Int)); binOp .add 3 (.int .i64 (x : Int)) (.int .i64 (y : Int))).run Tryz.prog w = .ok (.int .i64 ((x + y : Nat) : Int)) w := by
 have e:((x+y:Nat):Int)=wrap64 ((x:Int)+(y:Int)):=by unfold wrap64;omega
 rw [e]
 simp [eqGuard,binOp,go_sem]
 rw [IntKind.wrap_i64]
 unfold wrap64
 rfl
theorem Fresh.grown {w w' : World} {g : Nat} (hf : Fresh w w' g) (row : Option Nat) : w.grownBy w' row := by
 obtain ⟨_,o,rfl⟩:=hf
 exact zaB _ _ _
theorem wr_grown {w w':World} {g:Nat} (hw:Wr w w' g):w.grownBy w' (some g):=⟨hw.1,hw.2.1,hw.2.2.1,by rw [hw.2.2.2.1];exact Nat.le_refl _,fun k _ hn=>hw.2.2.2.2 k fun e=>hn (by rw [e])⟩
theorem _root_.Go.World.grownBy.on {w a b : World} {row : Option Nat} (h : w.grownBy a row) (hb : Below a.heap.size a b) : w.grownBy b row :=
 ⟨hb.os.trans h.os,hb.tape.trans h.tape,hb.output.trans h.output,Nat.le_trans h.size hb.size,fun k hk hn=>(hb.block k (Nat.lt_of_lt_of_le hk h.size)).trans (h.block k hk hn)⟩
theorem _root_.Go.World.grownBy.wrote {w a b : World} {D g : Nat} (h : w.grownBy a (some D)) (hw : Wr a b g) (hg : w.heap.size ≤ g) : w.grownBy b (some D) :=
 zaF h (wr_grown hw) fun k e=>by injection e with e;omega
theorem DiceOk.wrote {a b:World} {D g:Nat} (h:DiceOk a D) (hw:Wr a b g) (hg:D < g):DiceOk b D:=h.grown (wr_grown hw) fun k e=>by injection e with e;omega
theorem RowV.dice {w w':World} {g D:Nat} {vs:List Value} (h:RowV w g vs) (hg:w.grownBy w' (some D)) (hne:g≠D):RowV w' g vs:=h.same (hg.block g h.lt fun e=>hne (by injection e))
theorem SeesP.dice {w0 w w' : World} {D : Nat} {A : Option Addr} {cs : List Value} (h : SeesP w (newB w0 w) A cs) (hg : w.grownBy w' (some D)) (hD : D < w0.heap.size) : SeesP w' (newB w0 w') A cs :=
 (h.keep fun q hq=>World.cell?_of_block (hg.block _ hq.2 fun e=>by injection e with e;have:=hq.1;omega)).imp fun b hb=>⟨hb.1,Nat.lt_of_lt_of_le hb.2 hg.size⟩
theorem SeesP.wrote {w0 w w' : World} {g : Nat} {A : Option Addr} {cs : List Value} (h : SeesP w (newB w0 w) A cs) (hw : Wr w w' g) (hg : g < w0.heap.size) : SeesP w' (newB w0 w') A cs :=
 (h.keep fun q hq=>World.cell?_of_block (hw.2.2.2.2 _ fun e=>by have:=hq.1;omega)).imp fun b hb=>⟨hb.1,by rw [hw.2.2.2.1];exact hb.2⟩
theorem zbT {w:World} {g D:Nat} (h:w.heap.size≤g) (hD:D < w.heap.size):g≠D:=by omega
def csT (kd:Int) (a b q:Nat) (z:Int):List Value:=(⟨kd,0,a,z,b,q,[]⟩ : Tm).cs none 0
theorem blt_csT (kd:Int) (a b q:Nat):Tryz.prog.built 85 [(0,.int .i64 kd),(2,.int .i64 (a:Int)),(4,.int .i64 (b:Int)),(5,.int .i64 (q:Int))]=some (csT kd a b q 0).toArray:=by kernel_rfl
theorem pe4t {a : Act} {x0 x1 x2 x3 : Operand} {u0 u1 u2 u3 : Value} (h0 : a.eval x0 = u0) (h1 : a.eval x1 = u1) (h2 : a.eval x2 = u2) (h3 : a.eval x3 = u3) :
 ((#[(0,x0),(2,x1),(4,x2),(5,x3)]:Array (Nat×Operand)).map fun (i,x)=>(i,a.eval x)).toList=[(0,u0),(2,u1),(4,u2),(5,u3)]:=by simp [h0,h1,h2,h3]
def TmIs (w:World) (D:Nat) (kd:Int) (e:Ending) (w':World):Prop:=∃(x:Tm) (A:Option Addr) (c:Nat),e=.returned (.agg (x.cs A c).toArray)∧vT x=0∧x.k=kd∧((A=none→c=0)∧x.d.length≤c)∧SeesP w' (newB w w') A (Us x.d)∧w.grownBy w' (some D)∧DiceOk w' D
theorem vT_made {kd p : Int} {a b q z : Nat} {v : List UInt8} (hp : zcf kd p = true) (h0 : a < 40000) (h1 : a ≤ z ∧ z < a + 30000) (h2 : b < 65536) (h3 : q < 101) (h4 : 1 ≤ v.length) (h5 : v.length ≤ 1024) : vT ⟨kd, p, a, z, b, q, v⟩ = 0 := by
 refine vT_mk hp ?_ ?_ ?_
 · simp [zdY,dayB];omega
 · simp [zfb];omega
 · simp [sizeT];omega
def BytesB (w:World) (D most:Nat) (e:Ending) (w':World):Prop:=∃(u:Value) (k:Nat),e=.returned u∧k≤most∧BRel_Bb w D u k w'
set_option maxHeartbeats 1000000 in
theorem zee (D most : Nat) (w : World) (hm : most ≤ 1000) (h : DiceOk w D) :
 Calls Tryz.prog 58 #[.pointer (some ⟨D,0,none⟩),.int .i64 (most:Int)] w (BytesB w D most):=by
 obtain ⟨i0,hi,hz0,hz1,hz2⟩:=info_parts zaW
 have hDw:=h.lt
 have hN:=zar D (most+1) w (by omega) (by omega) h
 have ec:((most+1:Nat):Int)=(most:Int)+1:=by omega
 rw [ec] at hN
 have HN:=Lib.hid hN
 clear hN ec h
 go_enter Tryz.func58,Tryz.ntmps58
 go_wp2_with fail
 refine HN.out.mono ?_
 rintro e w1 ⟨r,hr,rfl,hg,hd⟩
 have H1:=Lib.hid (show BRel_Bb w D (.slice none 0 0) 0 w1 from ⟨⟨[],rfl,⟨rfl,.inl ⟨rfl,rfl⟩⟩⟩,hg,hd⟩)
 clear HN hg hd
 go_wp2_with fail
 go_loopw [5,6] (fun a i wr=>∃k:Nat,k≤r∧i=.int .i64 ((r:Int) - (k:Int))∧Hid (BRel_Bb w D a k wr)) (fun _ i _=>(intOf i).toNat)
 case atStart=>exact ⟨0,Nat.zero_le _,by go_num,H1⟩
 case round =>
  clear H1
  obtain ⟨k,hk,rfl,HB⟩:=hrel
  by_cases hlt:k < r
  · have d1 : decide ((0 : Int) < (r : Int) - (k : Int)) = true := by simp; omega
    have HN:=Lib.hid (zar D 256 wr (by decide) (by decide) HB.out.2.2)
    go_wp2_with fail
    refine HN.out.mono ?_
    rintro e w2 ⟨x,hx,rfl,hg,hd⟩
    obtain ⟨l,hl,hown⟩:=HB.out.1
    have hown2 : w2.ownsRow w.heap.size 5 1 u5 k (Us l) := zbm hown hg (by
     rcases hown.2 with ⟨e,_⟩ | ⟨g,cap,cur,e,hb,_⟩
     · rw [e];simp [Value.ownBlock]
     · rw [e];simp [Value.ownBlock];omega)
    have HG:=Lib.hid (show _∧_∧_ from ⟨zae HB.out.2.1 hg,hd,hl⟩)
    clear hown hg hd HN hl
    go_wp2_with (at_builtin;refine wpList_append_own _ rfl (.tmp 15) (.tmp 19) 27 rfl w.heap.size 5 i0 (.int .u8 0) 1 1 Tryz.underlying27 hi hz0 hz1 hz2 rfl (by decide) u5 k _ rfl (hown2.alloc _) ⟨w2.heap.size,0,none⟩ 1 1 [_] rfl rfl (zaZ _ _ _) (zby _) (by unfold maxLen;omega) (by omega) (by have:=HG.out.1.size;simp;omega) ?_;intro v3 w3 ho hg3 _)
    have hrow : w3.ownsRow w.heap.size 5 1 v3 (k + 1) (Us (l ++ [UInt8.ofNat x])) := by
     rw [zaP]
     have:Us [UInt8.ofNat x]=[Value.int .u8 (x:Int)]:=by rw [zct x hx];rfl
     rw [this]
     exact ho
    have hgw:=zaF (zae HG.out.1 (zaB w2 (.cells #[.int .u8 (x:Int)] 5) (some D))) hg3 (fun g e=>(hown2.lt g e).1)
    have hdd:DiceOk w3 D:=(HG.out.2.1.below ((Below.refl _ _).alloc (Nat.le_refl _) (.cells #[.int .u8 (x:Int)] 5))).grown hg3 (fun g e=>by have:=(hown2.lt g e).1;omega)
    have HF:=Lib.hid (show BRel_Bb w D v3 (k+1) w3 from ⟨⟨_,by rw [List.length_append,HG.out.2.2];rfl,hrow⟩,hgw,hdd⟩)
    clear hrow hgw hdd ho hg3 hown2
    go_roundw
    case rel=>exact ⟨k+1,by omega,by go_num,HF⟩
    case measure=>simp [intOf];omega
  · obtain rfl : k = r := by omega
    have d1:decide ((0:Int) < (k:Int) - (k:Int))=false:=by simp
    obtain ⟨l,hl,hown⟩:=HB.out.1
    have hb:BytesB w D most (.returned u5) wr:=⟨u5,k,rfl,by omega,HB.out⟩
    have HF:=Lib.hid hb
    clear hb hown HB
    go_wp2_with fail
    go_ret
    exact HF.out
set_option maxHeartbeats 6400000 in
set_option maxRecDepth 20000 in
theorem zgp (D : Nat) (w : World) (h : DiceOk w D) :
 Calls Tryz.prog 47 #[.pointer (some ⟨D,0,none⟩),.int .i64 1] w (TmIs w D 1):=by
 obtain ⟨i0,hi,hz0,hz1,hz2⟩:=info_parts zaW
 have hDw:=h.lt
 have N1:=Lib.hid (show ∀w,DiceOk w D→Calls Tryz.prog 8 #[.pointer (some ⟨D,0,none⟩),.int .i64 40000] w (zbj w D 40000) from fun w h=>zar D 40000 w (by decide) (by decide) h)
 have N2:=Lib.hid (show ∀w,DiceOk w D→Calls Tryz.prog 8 #[.pointer (some ⟨D,0,none⟩),.int .i64 65536] w (zbj w D 65536) from fun w h=>zar D 65536 w (by decide) (by decide) h)
 have N3:=Lib.hid (show ∀w,DiceOk w D→Calls Tryz.prog 8 #[.pointer (some ⟨D,0,none⟩),.int .i64 101] w (zbj w D 101) from fun w h=>zar D 101 w (by decide) (by decide) h)
 have N4:=Lib.hid (show ∀w,DiceOk w D→Calls Tryz.prog 8 #[.pointer (some ⟨D,0,none⟩),.int .i64 30000] w (zbj w D 30000) from fun w h=>zar D 30000 w (by decide) (by decide) h)
 have N5:=Lib.hid (show ∀w,DiceOk w D→Calls Tryz.prog 8 #[.pointer (some ⟨D,0,none⟩),.int .i64 256] w (zbj w D 256) from fun w h=>zar D 256 w (by decide) (by decide) h)
 have N6:=Lib.hid (show ∀w,DiceOk w D→Calls Tryz.prog 58 #[.pointer (some ⟨D,0,none⟩),.int .i64 40] w (BytesB w D 40) from fun w h=>zee D 40 w (by decide) h)
 skip
 have H0:=Lib.hid h
 clear h
 go_enter Tryz.func47,Tryz.ntmps47
 go_wp2_with (first
  | ((with_reducible refine zaG (d:=4) ?_);refine zam (op:=⟨some 4,_,_,_,_,_⟩) rfl 85 rfl zerT zcS ?_;intro g4 w1 hf hr;have H1:=Lib.hid (show w.grownBy w1 (some D)∧DiceOk w1 D∧RowV w1 g4 zerT∧w.heap.size≤g4 from ⟨hf.grown _,H0.out.below hf.bw,hr,by rw [hf.1];exact Nat.le_refl _⟩);clear hf hr)
  | (go_at_call 8;((with_reducible refine (N1.out _ H1.out.2.1).mono ?_);rintro e w2 ⟨x0,hx0,rfl,hg,hd⟩);have H2:=Lib.hid (show w.grownBy w2 (some D)∧DiceOk w2 D∧RowV w2 g4 zerT from ⟨zae H1.out.1 hg,hd,H1.out.2.2.1.dice hg (zbT H1.out.2.2.2 hDw)⟩);have HX0:=Lib.hid hx0;clear hg hd hx0)
  | (go_at_call 8;((with_reducible refine (N2.out _ H2.out.2.1).mono ?_);rintro e w3 ⟨x1,hx1,rfl,hg,hd⟩);have H3:=Lib.hid (show w.grownBy w3 (some D)∧DiceOk w3 D∧RowV w3 g4 zerT from ⟨zae H2.out.1 hg,hd,H2.out.2.2.dice hg (zbT H1.out.2.2.2 hDw)⟩);have HX1:=Lib.hid hx1;clear hg hd hx1)
  | (go_at_call 8;((with_reducible refine (N3.out _ H3.out.2.1).mono ?_);rintro e w4 ⟨x2,hx2,rfl,hg,hd⟩);have H5:=Lib.hid (show w.grownBy w4 (some D)∧DiceOk w4 D∧RowV w4 g4 zerT from ⟨zae H3.out.1 hg,hd,H3.out.2.2.dice hg (zbT H1.out.2.2.2 hDw)⟩);have HX2:=Lib.hid hx2;clear hg hd hx2)
  | ((with_reducible refine zal (d:=13) ?_);go_must (refine zed rfl 85 _ rfl (pe4t rfl rfl rfl rfl) (blt_csT 1 x0 x1 x2) ?_))
  | ((with_reducible refine zaG (d:=5) ?_);refine zam (op:=⟨some 5,_,_,_,_,_⟩) rfl 85 rfl zerT zcS ?_;intro g5 w5 hf hr;have H6:=Lib.hid (show w.grownBy w5 (some D)∧DiceOk w5 D∧RowV w5 g4 zerT∧RowV w5 g5 zerT∧g4 < g5 from ⟨H5.out.1.on hf.bw,H5.out.2.1.below hf.bw,H5.out.2.2.fresh hf,hr,Nat.lt_of_lt_of_eq H5.out.2.2.lt hf.1.symm⟩);clear hf hr)
  | ((with_reducible refine zak (i:=5) ?_);go_must (refine zan rfl 85 (.tmp 5) (.tmp 13) rfl g5 zerT (csT 1 x0 x1 x2 0) rfl rfl H6.out.2.2.2.1 rfl (cs_one _ _ _) zbg ?_);intro w6 hw hr;have H4:=Lib.hid (show w.grownBy w6 (some D)∧DiceOk w6 D∧RowV w6 g4 zerT∧RowV w6 g5 (csT 1 x0 x1 x2 0) from ⟨H6.out.1.wrote hw (Nat.le_trans H1.out.2.2.2 (Nat.le_of_lt H6.out.2.2.2.2)),H6.out.2.1.wrote hw (Nat.lt_of_lt_of_le hDw (Nat.le_trans H1.out.2.2.2 (Nat.le_of_lt H6.out.2.2.2.2))),H6.out.2.2.1.wr hw (Nat.ne_of_lt H6.out.2.2.2.2),hr⟩);clear hw hr))
 have HG4:=Lib.hid H1.out.2.2.2
 have HG45:=Lib.hid (show g4≠g5 from Nat.ne_of_lt H6.out.2.2.2.2)
 have HG5:=Lib.hid (show w.heap.size≤g5 from Nat.le_trans H1.out.2.2.2 (Nat.le_of_lt H6.out.2.2.2.2))
 have HD4:=Lib.hid (zbT HG4.out hDw)
 have HD5:=Lib.hid (zbT HG5.out hDw)
 have HD6:=Lib.hid (show D < g5 from Nat.lt_of_lt_of_le hDw HG5.out)
 have HD7:=Lib.hid (show D < g4 from Nat.lt_of_lt_of_le hDw HG4.out)
 clear H1 H2 H3 H5 H6
 refine zdm (by kernel_rfl) _ (fun c=>w.grownBy c (some D)∧DiceOk c D∧(∃z:Int,RowV c g5 (csT 1 x0 x1 x2 z))∧RowV c g4 zerT) (zef [fun u _=>u=.pointer (some ⟨g5,2,none⟩),fun u _=>u=.int .i64 (x0:Int),fun u _=>u=.pointer (some ⟨D,0,none⟩),fun u _=>∃r:Nat,r < 30000∧u=.int .i64 (r:Int),fun u _=>∃y:Nat,x0≤y∧y < x0+30000∧u=.int .i64 (y:Int),fun u _=>u=.pointer (some ⟨g5,3,none⟩),fun _ c=>∃y:Nat,x0≤y∧y < x0+30000∧RowV c g5 (csT 1 x0 x1 x2 y)]) (by kernel_rfl) (zbR (by simp only [List.forall_mem_cons];exact ⟨zaq _,zaq _,zaq _,fun u c c' h _=>h,fun u c c' h _=>h,zaq _,fun u c c' h hb=>by obtain ⟨y,h1,h2,h3⟩:=h;exact ⟨y,h1,h2,h3.on hb⟩,fun X h=>by cases h⟩)) (fun c c' h hb=>⟨h.1.on hb,h.2.1.below hb,by obtain ⟨z,hz⟩:=h.2.2.1;exact ⟨z,hz.on hb⟩,h.2.2.2.on hb⟩) ⟨H4.out.1,H4.out.2.1,⟨0,H4.out.2.2.2⟩,H4.out.2.2.1⟩ ?_ ?_
 · refine zch (allI.cons ?_ (allI.cons ?_ (allI.cons ?_ (allI.cons ?_ (allI.cons ?_ (allI.cons ?_ (allI.cons ?_ allI.nil))))))) <;> intro v S c a hI hX hSi hdep hS hC
   · exact o_fa _ (.tmp 5) 2 rfl (hS.old 5 rfl) (fa_t2 g5 _) (StepT.still rfl)
   · obtain ⟨z, hz⟩ := hI.2.2.1
     exact o_ld _ (.tmp 14) rfl ((hS.get 0 (zad hdep 0 rfl) rfl rfl).trans (hX 0 (zad hdep 0 rfl))) ((hz.cell 2).trans rfl) ag_i (StepT.still rfl)
   · exact o_mv _ rfl (hS.old 0 rfl) (StepT.still rfl)
   · refine zaR (.func 8) 8 #[.tmp 16, .const (.int .i64 30000)] _ rfl rfl (ev2 ((hS.get 2 (zad hdep 2 rfl) rfl rfl).trans (hX 2 (zad hdep 2 rfl))) rfl) (by kernel_rfl) (N4.out c hI.2.1) (fun e w9 h => ?_)
     obtain ⟨r,hr,rfl,hg,hd⟩:=h
     obtain ⟨z,hz⟩:=hI.2.2.1
     refine ⟨_,rfl,StepT.turn ⟨r,hr,rfl⟩ ⟨zae hI.1 hg,hd,⟨z,hz.dice hg HD5.out⟩,hI.2.2.2.dice hg HD4.out⟩ fun j hj=>?_⟩
     match j,hj with
     | 0,hj=>exact hX 0 hj
     | 1,hj=>exact hX 1 hj
     | 2,hj=>exact hX 2 hj
     | 3,hj=>exact hX 3 hj
     | 4,hj=>exact hX 4 hj
     | 5,hj=>exact hX 5 hj
     | 6, hj =>
       obtain ⟨y,h1,h2,h3⟩:=hX 6 hj
       exact ⟨y,h1,h2,h3.dice hg HD5.out⟩
     | _+7,_=>trivial
   · obtain ⟨r, hr, e3⟩ := (hX 3 (zad hdep 3 rfl))
     exact o_bin .add _ _ (.tmp 15) (.tmp 17) rfl ((hS.get 1 (zad hdep 1 rfl) rfl rfl).trans (hX 1 (zad hdep 1 rfl))) ((hS.get 3 (zad hdep 3 rfl) rfl rfl).trans e3) (add_nat x0 r (by have:=HX0.out;omega) (by omega) _ _ _) (StepT.still ⟨x0+r,Nat.le_add_right _ _,by omega,rfl⟩)
   · exact o_fa _ (.tmp 5) 3 rfl (hS.old 5 rfl) (fa_t3 g5 _) (StepT.still rfl)
   · obtain ⟨y, h1, h2, e4⟩ := (hX 4 (zad hdep 4 rfl))
     obtain ⟨z,hz⟩:=hI.2.2.1
     refine o_stA 3 (.tmp 19) (.tmp 18) rfl g5 3 (csT 1 x0 x1 x2 z) (.int .i64 (y:Int)) ((hS.get 5 (zad hdep 5 rfl) rfl rfl).trans (hX 5 (zad hdep 5 rfl))) ((hS.get 4 (zad hdep 4 rfl) rfl rfl).trans e4) hz (by decide:3 < 7) rfl rfl zcO (fun w9 hw hr=>?_)
     refine StepT.turn ⟨y,h1,h2,hr⟩ ⟨hI.1.wrote hw HG5.out,hI.2.1.wrote hw HD6.out,⟨y,hr⟩,hI.2.2.2.wr hw HG45.out⟩ fun j hj=>?_
     match j,hj with
     | 0,hj=>exact hX 0 hj
     | 1,hj=>exact hX 1 hj
     | 2,hj=>exact hX 2 hj
     | 3,hj=>exact hX 3 hj
     | 4,hj=>exact hX 4 hj
     | 5,hj=>exact hX 5 hj
     | 6,hj=>exact ⟨y,h1,h2,hr⟩
     | _+7,_=>trivial
 · intro v w7 hI hX
   obtain ⟨y,hy1,hy2,h6⟩:=hX 6 (by decide)
   have H7:=Lib.hid (show w.grownBy w7 (some D)∧DiceOk w7 D∧RowV w7 g4 zerT∧RowV w7 g5 (csT 1 x0 x1 x2 y) from ⟨hI.1,hI.2.1,hI.2.2.2,h6⟩)
   clear hI hX h6
   simp only [zbz,Act.put]
   simp
   go_wp2_with fail
   refine (N6.out _ H7.out.2.1).mono ?_
   rintro e w8 ⟨u,k,rfl,hk,⟨l,hll,hown⟩,hg,hd⟩
   have H8:=Lib.hid (show w.grownBy w8 (some D)∧RowV w8 g4 zerT∧RowV w8 g5 (csT 1 x0 x1 x2 y) from ⟨zae H7.out.1 hg,H7.out.2.2.1.dice hg HD4.out,H7.out.2.2.2.dice hg HD5.out⟩)
   have hs78:=hg.size
   have HD8:=Lib.hid (show D < w7.heap.size from H7.out.2.1.lt)
   have HG57:=Lib.hid (show g5 < w7.heap.size from H7.out.2.2.2.lt)
   have HG47:=Lib.hid (show g4 < w7.heap.size from H7.out.2.2.1.lt)
   have HY:=Lib.hid (show x0≤y∧y < x0+30000 from ⟨hy1,hy2⟩)
   clear hg hy1 hy2
   go_wp2_with fail
   refine (N5.out _ hd).mono ?_
   rintro e w9 ⟨x3,hx3,rfl,hg,hd9⟩
   have hown2 : w9.ownsRow w7.heap.size 5 1 u k (Us l) := zbm hown hg (by
    rcases hown.2 with ⟨e,_⟩ | ⟨g,cap,cur,e,hb,_⟩
    · rw [e];simp [Value.ownBlock]
    · rw [e];simp [Value.ownBlock];have:=H7.out.2.1.lt;omega)
   have h95:=H8.out.2.2.dice hg HD5.out
   have h94:=H8.out.2.1.dice hg HD4.out
   have hs79:w7.heap.size≤w9.heap.size:=Nat.le_trans hs78 hg.size
   have HGR := Lib.hid (show ∀ w10, (w9.alloc (.cells #[.int .u8 (x3 : Int)] 5)).grownBy w10 u.ownBlock → w.grownBy w10 (some D) ∧ DiceOk w10 D ∧ RowV w10 g4 zerT ∧ RowV w10 g5 (csT 1 x0 x1 x2 y) from fun w10 hg10 => by
    have hge:∀g,u.ownBlock=some g→w7.heap.size≤g:=fun g e=>(hown2.lt g e).1
    have h7s:=H7.out.1.size
    have hr4:=H7.out.2.2.1.lt
    have hr5:=H7.out.2.2.2.lt
    refine ⟨zaF (zae (zae H8.out.1 hg) (zaB w9 _ (some D))) hg10 (fun g e=>Nat.le_trans h7s (hge g e)),(hd9.below ((Below.refl _ _).alloc (Nat.le_refl _) _)).grown hg10 (fun g e=>Nat.lt_of_lt_of_le H7.out.2.1.lt (hge g e)),?_,?_⟩
    · have hq : RowV (w9.alloc (.cells #[.int .u8 (x3 : Int)] 5)) g4 zerT := h94.on ((Below.refl _ _).alloc (Nat.le_refl _) _)
      exact hq.same (hg10.block _ hq.lt fun e=>by have:=hge _ e.symm;omega)
    · have hq : RowV (w9.alloc (.cells #[.int .u8 (x3 : Int)] 5)) g5 (csT 1 x0 x1 x2 y) := h95.on ((Below.refl _ _).alloc (Nat.le_refl _) _)
      exact hq.same (hg10.block _ hq.lt fun e=>by have:=hge _ e.symm;omega))
   obtain ⟨L,hL⟩ : ∃L,l++[UInt8.ofNat x3]=L:=⟨_,rfl⟩
   have hLL:L.length=k+1:=by rw [←hL,List.length_append,hll];rfl
   have HOW := Lib.hid (show ∀ w10 v3, w10.ownsRow w7.heap.size 5 1 v3 (k + 1) (Us l ++ [.int .u8 (x3 : Int)]) → ∃ A c, v3 = .slice A (k + 1) c ∧ ((A = none → c = 0) ∧ k + 1 ≤ c) ∧ SeesP w10 (newB w7 w10) A (Us L) from fun w10 v3 ho => by
    refine zde (w:=w7) (e:=5) ?_
    have e1:Us [UInt8.ofNat x3]=[Value.int .u8 (x3:Int)]:=by rw [zct x3 hx3];rfl
    rw [←hL,zaP,e1]
    exact ho)
   have HSET:=Lib.hid (show ∀A c,(csT 1 x0 x1 x2 y).set 6 (.slice A (k+1) c)=(⟨1,0,x0,y,x1,x2,L⟩ : Tm).cs A c from fun A c=>by rw [←hLL];rfl)
   have HLL:=Lib.hid hLL
   have hk40:k≤40:=hk
   have hs9:=Lib.hid hs79
   clear hs78 hg hd hd9 hown h95 h94 hL hll hLL hk hs79
   go_wp2_with (first
    | (at_builtin;refine wpList_append_own _ rfl (.tmp 21) (.tmp 25) 27 rfl w7.heap.size 5 i0 (.int .u8 0) 1 1 Tryz.underlying27 hi hz0 hz1 hz2 rfl (by decide) u k _ rfl (hown2.alloc _) ⟨w9.heap.size,0,none⟩ 1 1 [_] rfl rfl (zaZ _ _ _) (zby _) (by unfold maxLen;omega) (by omega) (by have:=hs9.out;simp;omega) ?_;intro v3 w10 ho hg10 _;have H10:=Lib.hid (HGR.out _ hg10);obtain ⟨A3,c3,hv3,hn3,hs3⟩:=HOW.out _ _ ho;subst hv3;have H3D:=Lib.hid (show _∧_ from ⟨hn3,hs3⟩);clear ho hg10 hn3 hs3)
    | ((with_reducible refine zak (i:=27) ?_);go_must (refine zaj rfl 27 (.tmp 27) (.tmp 26) rfl g5 6 (csT 1 x0 x1 x2 y) (.slice A3 (k+1) c3) rfl rfl H10.out.2.2.2 (by decide:6 < 7) rfl rfl size_sl ?_);intro w11 hw hr;have H11:=Lib.hid (show w.grownBy w11 (some D)∧DiceOk w11 D∧RowV w11 g4 zerT∧RowV w11 g5 ((⟨1,0,x0,y,x1,x2,L⟩ : Tm).cs A3 c3)∧SeesP w11 (newB w7 w11) A3 (Us L) from ⟨H10.out.1.wrote hw HG5.out,H10.out.2.1.wrote hw HD6.out,H10.out.2.2.1.wr hw HG45.out,HSET.out A3 c3 ▸ hr,H3D.out.2.wrote hw HG57.out⟩);have HLAST:=H11;clear hw hr)
    | ((with_reducible refine zaa (d:=41) ?_);go_must (refine zaJ rfl 85 (.tmp 5) rfl g5 rfl ((⟨1,0,x0,y,x1,x2,L⟩ : Tm).cs A3 c3) _ HLAST.out.2.2.2.1 Tryz.underlying85 rfl zbg ?_))
    | ((with_reducible refine zak (i:=4) ?_);go_must (refine zan rfl 85 (.tmp 4) (.tmp 41) rfl g4 zerT ((⟨1,0,x0,y,x1,x2,L⟩ : Tm).cs A3 c3) rfl rfl HLAST.out.2.2.1 rfl (cs_one _ _ _) zbg ?_);intro w14 hw hr;have H14:=Lib.hid (show w.grownBy w14 (some D)∧DiceOk w14 D∧RowV w14 g4 ((⟨1,0,x0,y,x1,x2,L⟩ : Tm).cs A3 c3)∧SeesP w14 (newB w7 w14) A3 (Us L) from ⟨HLAST.out.1.wrote hw HG4.out,HLAST.out.2.1.wrote hw HD7.out,hr,HLAST.out.2.2.2.2.wrote hw HG47.out⟩);clear hw hr))
   exact bodyPost_ret (zbA rfl _ _ g4 ((⟨1,0,x0,y,x1,x2,L⟩ : Tm).cs A3 c3) _ rfl H14.out.2.2.1 Tryz.underlying85 rfl zbg) rfl ⟨⟨1,0,x0,y,x1,x2,L⟩,A3,c3,rfl,vT_made (by decide) HX0.out HY.out HX1.out HX2.out (by rw [HLL.out];omega) (by rw [HLL.out];omega),rfl,(show _∧L.length≤c3 from by rw [HLL.out];exact H3D.out.1),H14.out.2.2.2.imp fun b hb=>zaH hb H7.out.1.size (Nat.le_refl _),H14.out.1,H14.out.2.1⟩
set_option maxHeartbeats 6400000 in
set_option maxRecDepth 20000 in
theorem zgj (D : Nat) (w : World) (h : DiceOk w D) :
 Calls Tryz.prog 47 #[.pointer (some ⟨D,0,none⟩),.int .i64 2] w (TmIs w D 2):=by
 obtain ⟨i0,hi,hz0,hz1,hz2⟩:=info_parts zaW
 have hDw:=h.lt
 have N1:=Lib.hid (show ∀w,DiceOk w D→Calls Tryz.prog 8 #[.pointer (some ⟨D,0,none⟩),.int .i64 40000] w (zbj w D 40000) from fun w h=>zar D 40000 w (by decide) (by decide) h)
 have N2:=Lib.hid (show ∀w,DiceOk w D→Calls Tryz.prog 8 #[.pointer (some ⟨D,0,none⟩),.int .i64 65536] w (zbj w D 65536) from fun w h=>zar D 65536 w (by decide) (by decide) h)
 have N3:=Lib.hid (show ∀w,DiceOk w D→Calls Tryz.prog 8 #[.pointer (some ⟨D,0,none⟩),.int .i64 101] w (zbj w D 101) from fun w h=>zar D 101 w (by decide) (by decide) h)
 have N4:=Lib.hid (show ∀w,DiceOk w D→Calls Tryz.prog 8 #[.pointer (some ⟨D,0,none⟩),.int .i64 30000] w (zbj w D 30000) from fun w h=>zar D 30000 w (by decide) (by decide) h)
 have N5:=Lib.hid (show ∀w,DiceOk w D→Calls Tryz.prog 8 #[.pointer (some ⟨D,0,none⟩),.int .i64 256] w (zbj w D 256) from fun w h=>zar D 256 w (by decide) (by decide) h)
 have N6:=Lib.hid (show ∀w,DiceOk w D→Calls Tryz.prog 58 #[.pointer (some ⟨D,0,none⟩),.int .i64 40] w (BytesB w D 40) from fun w h=>zee D 40 w (by decide) h)
 have N7:=Lib.hid (show ∀w,DiceOk w D→Calls Tryz.prog 8 #[.pointer (some ⟨D,0,none⟩),.int .i64 10] w (zbj w D 10) from fun w h=>zar D 10 w (by decide) (by decide) h)
 have H0:=Lib.hid h
 clear h
 go_enter Tryz.func47,Tryz.ntmps47
 go_wp2_with (first
  | ((with_reducible refine zaG (d:=4) ?_);refine zam (op:=⟨some 4,_,_,_,_,_⟩) rfl 85 rfl zerT zcS ?_;intro g4 w1 hf hr;have H1:=Lib.hid (show w.grownBy w1 (some D)∧DiceOk w1 D∧RowV w1 g4 zerT∧w.heap.size≤g4 from ⟨hf.grown _,H0.out.below hf.bw,hr,by rw [hf.1];exact Nat.le_refl _⟩);clear hf hr)
  | (go_at_call 8;((with_reducible refine (N1.out _ H1.out.2.1).mono ?_);rintro e w2 ⟨x0,hx0,rfl,hg,hd⟩);have H2:=Lib.hid (show w.grownBy w2 (some D)∧DiceOk w2 D∧RowV w2 g4 zerT from ⟨zae H1.out.1 hg,hd,H1.out.2.2.1.dice hg (zbT H1.out.2.2.2 hDw)⟩);have HX0:=Lib.hid hx0;clear hg hd hx0)
  | (go_at_call 8;((with_reducible refine (N2.out _ H2.out.2.1).mono ?_);rintro e w3 ⟨x1,hx1,rfl,hg,hd⟩);have H3:=Lib.hid (show w.grownBy w3 (some D)∧DiceOk w3 D∧RowV w3 g4 zerT from ⟨zae H2.out.1 hg,hd,H2.out.2.2.dice hg (zbT H1.out.2.2.2 hDw)⟩);have HX1:=Lib.hid hx1;clear hg hd hx1)
  | (go_at_call 8;((with_reducible refine (N3.out _ H3.out.2.1).mono ?_);rintro e w4 ⟨x2,hx2,rfl,hg,hd⟩);have H5:=Lib.hid (show w.grownBy w4 (some D)∧DiceOk w4 D∧RowV w4 g4 zerT from ⟨zae H3.out.1 hg,hd,H3.out.2.2.dice hg (zbT H1.out.2.2.2 hDw)⟩);have HX2:=Lib.hid hx2;clear hg hd hx2)
  | ((with_reducible refine zal (d:=13) ?_);go_must (refine zed rfl 85 _ rfl (pe4t rfl rfl rfl rfl) (blt_csT 2 x0 x1 x2) ?_))
  | ((with_reducible refine zaG (d:=5) ?_);refine zam (op:=⟨some 5,_,_,_,_,_⟩) rfl 85 rfl zerT zcS ?_;intro g5 w5 hf hr;have H6:=Lib.hid (show w.grownBy w5 (some D)∧DiceOk w5 D∧RowV w5 g4 zerT∧RowV w5 g5 zerT∧g4 < g5 from ⟨H5.out.1.on hf.bw,H5.out.2.1.below hf.bw,H5.out.2.2.fresh hf,hr,Nat.lt_of_lt_of_eq H5.out.2.2.lt hf.1.symm⟩);clear hf hr)
  | ((with_reducible refine zak (i:=5) ?_);go_must (refine zan rfl 85 (.tmp 5) (.tmp 13) rfl g5 zerT (csT 2 x0 x1 x2 0) rfl rfl H6.out.2.2.2.1 rfl (cs_one _ _ _) zbg ?_);intro w6 hw hr;have H4:=Lib.hid (show w.grownBy w6 (some D)∧DiceOk w6 D∧RowV w6 g4 zerT∧RowV w6 g5 (csT 2 x0 x1 x2 0) from ⟨H6.out.1.wrote hw (Nat.le_trans H1.out.2.2.2 (Nat.le_of_lt H6.out.2.2.2.2)),H6.out.2.1.wrote hw (Nat.lt_of_lt_of_le hDw (Nat.le_trans H1.out.2.2.2 (Nat.le_of_lt H6.out.2.2.2.2))),H6.out.2.2.1.wr hw (Nat.ne_of_lt H6.out.2.2.2.2),hr⟩);clear hw hr))
 have HG4:=Lib.hid H1.out.2.2.2
 have HG45:=Lib.hid (show g4≠g5 from Nat.ne_of_lt H6.out.2.2.2.2)
 have HG5:=Lib.hid (show w.heap.size≤g5 from Nat.le_trans H1.out.2.2.2 (Nat.le_of_lt H6.out.2.2.2.2))
 have HD4:=Lib.hid (zbT HG4.out hDw)
 have HD5:=Lib.hid (zbT HG5.out hDw)
 have HD6:=Lib.hid (show D < g5 from Nat.lt_of_lt_of_le hDw HG5.out)
 have HD7:=Lib.hid (show D < g4 from Nat.lt_of_lt_of_le hDw HG4.out)
 clear H1 H2 H3 H5 H6
 refine zdm (by kernel_rfl) _ (fun c=>w.grownBy c (some D)∧DiceOk c D∧(∃z:Int,RowV c g5 (csT 2 x0 x1 x2 z))∧RowV c g4 zerT) (zef [fun u _=>u=.pointer (some ⟨g5,2,none⟩),fun u _=>u=.int .i64 (x0:Int),fun u _=>u=.pointer (some ⟨D,0,none⟩),fun u _=>∃r:Nat,r < 30000∧u=.int .i64 (r:Int),fun u _=>∃y:Nat,x0≤y∧y < x0+30000∧u=.int .i64 (y:Int),fun u _=>u=.pointer (some ⟨g5,3,none⟩),fun _ c=>∃y:Nat,x0≤y∧y < x0+30000∧RowV c g5 (csT 2 x0 x1 x2 y)]) (by kernel_rfl) (zbR (by simp only [List.forall_mem_cons];exact ⟨zaq _,zaq _,zaq _,fun u c c' h _=>h,fun u c c' h _=>h,zaq _,fun u c c' h hb=>by obtain ⟨y,h1,h2,h3⟩:=h;exact ⟨y,h1,h2,h3.on hb⟩,fun X h=>by cases h⟩)) (fun c c' h hb=>⟨h.1.on hb,h.2.1.below hb,by obtain ⟨z,hz⟩:=h.2.2.1;exact ⟨z,hz.on hb⟩,h.2.2.2.on hb⟩) ⟨H4.out.1,H4.out.2.1,⟨0,H4.out.2.2.2⟩,H4.out.2.2.1⟩ ?_ ?_
 · refine zch (allI.cons ?_ (allI.cons ?_ (allI.cons ?_ (allI.cons ?_ (allI.cons ?_ (allI.cons ?_ (allI.cons ?_ allI.nil))))))) <;> intro v S c a hI hX hSi hdep hS hC
   · exact o_fa _ (.tmp 5) 2 rfl (hS.old 5 rfl) (fa_t2 g5 _) (StepT.still rfl)
   · obtain ⟨z, hz⟩ := hI.2.2.1
     exact o_ld _ (.tmp 14) rfl ((hS.get 0 (zad hdep 0 rfl) rfl rfl).trans (hX 0 (zad hdep 0 rfl))) ((hz.cell 2).trans rfl) ag_i (StepT.still rfl)
   · exact o_mv _ rfl (hS.old 0 rfl) (StepT.still rfl)
   · refine zaR (.func 8) 8 #[.tmp 16, .const (.int .i64 30000)] _ rfl rfl (ev2 ((hS.get 2 (zad hdep 2 rfl) rfl rfl).trans (hX 2 (zad hdep 2 rfl))) rfl) (by kernel_rfl) (N4.out c hI.2.1) (fun e w9 h => ?_)
     obtain ⟨r,hr,rfl,hg,hd⟩:=h
     obtain ⟨z,hz⟩:=hI.2.2.1
     refine ⟨_,rfl,StepT.turn ⟨r,hr,rfl⟩ ⟨zae hI.1 hg,hd,⟨z,hz.dice hg HD5.out⟩,hI.2.2.2.dice hg HD4.out⟩ fun j hj=>?_⟩
     match j,hj with
     | 0,hj=>exact hX 0 hj
     | 1,hj=>exact hX 1 hj
     | 2,hj=>exact hX 2 hj
     | 3,hj=>exact hX 3 hj
     | 4,hj=>exact hX 4 hj
     | 5,hj=>exact hX 5 hj
     | 6, hj =>
       obtain ⟨y,h1,h2,h3⟩:=hX 6 hj
       exact ⟨y,h1,h2,h3.dice hg HD5.out⟩
     | _+7,_=>trivial
   · obtain ⟨r, hr, e3⟩ := (hX 3 (zad hdep 3 rfl))
     exact o_bin .add _ _ (.tmp 15) (.tmp 17) rfl ((hS.get 1 (zad hdep 1 rfl) rfl rfl).trans (hX 1 (zad hdep 1 rfl))) ((hS.get 3 (zad hdep 3 rfl) rfl rfl).trans e3) (add_nat x0 r (by have:=HX0.out;omega) (by omega) _ _ _) (StepT.still ⟨x0+r,Nat.le_add_right _ _,by omega,rfl⟩)
   · exact o_fa _ (.tmp 5) 3 rfl (hS.old 5 rfl) (fa_t3 g5 _) (StepT.still rfl)
   · obtain ⟨y, h1, h2, e4⟩ := (hX 4 (zad hdep 4 rfl))
     obtain ⟨z,hz⟩:=hI.2.2.1
     refine o_stA 3 (.tmp 19) (.tmp 18) rfl g5 3 (csT 2 x0 x1 x2 z) (.int .i64 (y:Int)) ((hS.get 5 (zad hdep 5 rfl) rfl rfl).trans (hX 5 (zad hdep 5 rfl))) ((hS.get 4 (zad hdep 4 rfl) rfl rfl).trans e4) hz (by decide:3 < 7) rfl rfl zcO (fun w9 hw hr=>?_)
     refine StepT.turn ⟨y,h1,h2,hr⟩ ⟨hI.1.wrote hw HG5.out,hI.2.1.wrote hw HD6.out,⟨y,hr⟩,hI.2.2.2.wr hw HG45.out⟩ fun j hj=>?_
     match j,hj with
     | 0,hj=>exact hX 0 hj
     | 1,hj=>exact hX 1 hj
     | 2,hj=>exact hX 2 hj
     | 3,hj=>exact hX 3 hj
     | 4,hj=>exact hX 4 hj
     | 5,hj=>exact hX 5 hj
     | 6,hj=>exact ⟨y,h1,h2,hr⟩
     | _+7,_=>trivial
 · intro v w7 hI hX
   obtain ⟨y,hy1,hy2,h6⟩:=hX 6 (by decide)
   have H7:=Lib.hid (show w.grownBy w7 (some D)∧DiceOk w7 D∧RowV w7 g4 zerT∧RowV w7 g5 (csT 2 x0 x1 x2 y) from ⟨hI.1,hI.2.1,hI.2.2.2,h6⟩)
   clear hI hX h6
   simp only [zbz,Act.put]
   simp
   go_wp2_with fail
   refine (N6.out _ H7.out.2.1).mono ?_
   rintro e w8 ⟨u,k,rfl,hk,⟨l,hll,hown⟩,hg,hd⟩
   have H8:=Lib.hid (show w.grownBy w8 (some D)∧RowV w8 g4 zerT∧RowV w8 g5 (csT 2 x0 x1 x2 y) from ⟨zae H7.out.1 hg,H7.out.2.2.1.dice hg HD4.out,H7.out.2.2.2.dice hg HD5.out⟩)
   have hs78:=hg.size
   have HD8:=Lib.hid (show D < w7.heap.size from H7.out.2.1.lt)
   have HG57:=Lib.hid (show g5 < w7.heap.size from H7.out.2.2.2.lt)
   have HG47:=Lib.hid (show g4 < w7.heap.size from H7.out.2.2.1.lt)
   have HY:=Lib.hid (show x0≤y∧y < x0+30000 from ⟨hy1,hy2⟩)
   clear hg hy1 hy2
   go_wp2_with fail
   refine (N5.out _ hd).mono ?_
   rintro e w9 ⟨x3,hx3,rfl,hg,hd9⟩
   have hown2 : w9.ownsRow w7.heap.size 5 1 u k (Us l) := zbm hown hg (by
    rcases hown.2 with ⟨e,_⟩ | ⟨g,cap,cur,e,hb,_⟩
    · rw [e];simp [Value.ownBlock]
    · rw [e];simp [Value.ownBlock];have:=H7.out.2.1.lt;omega)
   have h95:=H8.out.2.2.dice hg HD5.out
   have h94:=H8.out.2.1.dice hg HD4.out
   have hs79:w7.heap.size≤w9.heap.size:=Nat.le_trans hs78 hg.size
   have HGR := Lib.hid (show ∀ w10, (w9.alloc (.cells #[.int .u8 (x3 : Int)] 5)).grownBy w10 u.ownBlock → w.grownBy w10 (some D) ∧ DiceOk w10 D ∧ RowV w10 g4 zerT ∧ RowV w10 g5 (csT 2 x0 x1 x2 y) from fun w10 hg10 => by
    have hge:∀g,u.ownBlock=some g→w7.heap.size≤g:=fun g e=>(hown2.lt g e).1
    have h7s:=H7.out.1.size
    have hr4:=H7.out.2.2.1.lt
    have hr5:=H7.out.2.2.2.lt
    refine ⟨zaF (zae (zae H8.out.1 hg) (zaB w9 _ (some D))) hg10 (fun g e=>Nat.le_trans h7s (hge g e)),(hd9.below ((Below.refl _ _).alloc (Nat.le_refl _) _)).grown hg10 (fun g e=>Nat.lt_of_lt_of_le H7.out.2.1.lt (hge g e)),?_,?_⟩
    · have hq : RowV (w9.alloc (.cells #[.int .u8 (x3 : Int)] 5)) g4 zerT := h94.on ((Below.refl _ _).alloc (Nat.le_refl _) _)
      exact hq.same (hg10.block _ hq.lt fun e=>by have:=hge _ e.symm;omega)
    · have hq : RowV (w9.alloc (.cells #[.int .u8 (x3 : Int)] 5)) g5 (csT 2 x0 x1 x2 y) := h95.on ((Below.refl _ _).alloc (Nat.le_refl _) _)
      exact hq.same (hg10.block _ hq.lt fun e=>by have:=hge _ e.symm;omega))
   obtain ⟨L,hL⟩ : ∃L,l++[UInt8.ofNat x3]=L:=⟨_,rfl⟩
   have hLL:L.length=k+1:=by rw [←hL,List.length_append,hll];rfl
   have HOW := Lib.hid (show ∀ w10 v3, w10.ownsRow w7.heap.size 5 1 v3 (k + 1) (Us l ++ [.int .u8 (x3 : Int)]) → ∃ A c, v3 = .slice A (k + 1) c ∧ ((A = none → c = 0) ∧ k + 1 ≤ c) ∧ SeesP w10 (newB w7 w10) A (Us L) from fun w10 v3 ho => by
    refine zde (w:=w7) (e:=5) ?_
    have e1:Us [UInt8.ofNat x3]=[Value.int .u8 (x3:Int)]:=by rw [zct x3 hx3];rfl
    rw [←hL,zaP,e1]
    exact ho)
   have HSET:=Lib.hid (show ∀A c,(csT 2 x0 x1 x2 y).set 6 (.slice A (k+1) c)=(⟨2,0,x0,y,x1,x2,L⟩ : Tm).cs A c from fun A c=>by rw [←hLL];rfl)
   have HLL:=Lib.hid hLL
   have hk40:k≤40:=hk
   have hs9:=Lib.hid hs79
   clear hs78 hg hd hd9 hown h95 h94 hL hll hLL hk hs79
   go_wp2_with (first
    | (at_builtin;refine wpList_append_own _ rfl (.tmp 21) (.tmp 25) 27 rfl w7.heap.size 5 i0 (.int .u8 0) 1 1 Tryz.underlying27 hi hz0 hz1 hz2 rfl (by decide) u k _ rfl (hown2.alloc _) ⟨w9.heap.size,0,none⟩ 1 1 [_] rfl rfl (zaZ _ _ _) (zby _) (by unfold maxLen;omega) (by omega) (by have:=hs9.out;simp;omega) ?_;intro v3 w10 ho hg10 _;have H10:=Lib.hid (HGR.out _ hg10);obtain ⟨A3,c3,hv3,hn3,hs3⟩:=HOW.out _ _ ho;subst hv3;have H3D:=Lib.hid (show _∧_ from ⟨hn3,hs3⟩);clear ho hg10 hn3 hs3)
    | ((with_reducible refine zak (i:=27) ?_);go_must (refine zaj rfl 27 (.tmp 27) (.tmp 26) rfl g5 6 (csT 2 x0 x1 x2 y) (.slice A3 (k+1) c3) rfl rfl H10.out.2.2.2 (by decide:6 < 7) rfl rfl size_sl ?_);intro w11 hw hr;have H11:=Lib.hid (show w.grownBy w11 (some D)∧DiceOk w11 D∧RowV w11 g4 zerT∧RowV w11 g5 ((⟨2,0,x0,y,x1,x2,L⟩ : Tm).cs A3 c3)∧SeesP w11 (newB w7 w11) A3 (Us L) from ⟨H10.out.1.wrote hw HG5.out,H10.out.2.1.wrote hw HD6.out,H10.out.2.2.1.wr hw HG45.out,HSET.out A3 c3 ▸ hr,H3D.out.2.wrote hw HG57.out⟩);clear hw hr)
    | (go_at_call 8;((with_reducible refine (N7.out _ H11.out.2.1).mono ?_);rintro e w12 ⟨x4,hx4,rfl,hg,hd⟩);have H12:=Lib.hid (show w.grownBy w12 (some D)∧DiceOk w12 D∧RowV w12 g4 zerT∧RowV w12 g5 ((⟨2,0,x0,y,x1,x2,L⟩ : Tm).cs A3 c3)∧SeesP w12 (newB w7 w12) A3 (Us L) from ⟨zae H11.out.1 hg,hd,H11.out.2.2.1.dice hg HD4.out,H11.out.2.2.2.1.dice hg HD5.out,H11.out.2.2.2.2.dice hg HD8.out⟩);clear hg hd)
    | ((with_reducible refine zak (i:=34) ?_);go_must (refine zaj rfl 3 (.tmp 34) (.tmp 33) rfl g5 1 ((⟨2,0,x0,y,x1,x2,L⟩ : Tm).cs A3 c3) (.int .i64 (1+(x4:Int))) rfl rfl H12.out.2.2.2.1 (by decide:1 < 7) rfl rfl zcO ?_);intro w13 hw hr;have HLAST:=Lib.hid (show w.grownBy w13 (some D)∧DiceOk w13 D∧RowV w13 g4 zerT∧RowV w13 g5 ((⟨2,(1+(x4:Int)),x0,y,x1,x2,L⟩ : Tm).cs A3 c3)∧SeesP w13 (newB w7 w13) A3 (Us L) from ⟨H12.out.1.wrote hw HG5.out,H12.out.2.1.wrote hw HD6.out,H12.out.2.2.1.wr hw HG45.out,hr,H12.out.2.2.2.2.wrote hw HG57.out⟩);clear hw hr)
    | ((with_reducible refine zaa (d:=41) ?_);go_must (refine zaJ rfl 85 (.tmp 5) rfl g5 rfl ((⟨2,(1+(x4:Int)),x0,y,x1,x2,L⟩ : Tm).cs A3 c3) _ HLAST.out.2.2.2.1 Tryz.underlying85 rfl zbg ?_))
    | ((with_reducible refine zak (i:=4) ?_);go_must (refine zan rfl 85 (.tmp 4) (.tmp 41) rfl g4 zerT ((⟨2,(1+(x4:Int)),x0,y,x1,x2,L⟩ : Tm).cs A3 c3) rfl rfl HLAST.out.2.2.1 rfl (cs_one _ _ _) zbg ?_);intro w14 hw hr;have H14:=Lib.hid (show w.grownBy w14 (some D)∧DiceOk w14 D∧RowV w14 g4 ((⟨2,(1+(x4:Int)),x0,y,x1,x2,L⟩ : Tm).cs A3 c3)∧SeesP w14 (newB w7 w14) A3 (Us L) from ⟨HLAST.out.1.wrote hw HG4.out,HLAST.out.2.1.wrote hw HD7.out,hr,HLAST.out.2.2.2.2.wrote hw HG47.out⟩);clear hw hr))
   exact bodyPost_ret (zbA rfl _ _ g4 ((⟨2,(1+(x4:Int)),x0,y,x1,x2,L⟩ : Tm).cs A3 c3) _ rfl H14.out.2.2.1 Tryz.underlying85 rfl zbg) rfl ⟨⟨2,(1+(x4:Int)),x0,y,x1,x2,L⟩,A3,c3,rfl,vT_made (by simp [zcf];omega) HX0.out HY.out HX1.out HX2.out (by rw [HLL.out];omega) (by rw [HLL.out];omega),rfl,(show _∧L.length≤c3 from by rw [HLL.out];exact H3D.out.1),H14.out.2.2.2.imp fun b hb=>zaH hb H7.out.1.size (Nat.le_refl _),H14.out.1,H14.out.2.1⟩
set_option maxHeartbeats 6400000 in
set_option maxRecDepth 20000 in
theorem zgk (D : Nat) (w : World) (h : DiceOk w D) :
 Calls Tryz.prog 47 #[.pointer (some ⟨D,0,none⟩),.int .i64 3] w (TmIs w D 3):=by
 obtain ⟨i0,hi,hz0,hz1,hz2⟩:=info_parts zaW
 have hDw:=h.lt
 have N1:=Lib.hid (show ∀w,DiceOk w D→Calls Tryz.prog 8 #[.pointer (some ⟨D,0,none⟩),.int .i64 40000] w (zbj w D 40000) from fun w h=>zar D 40000 w (by decide) (by decide) h)
 have N2:=Lib.hid (show ∀w,DiceOk w D→Calls Tryz.prog 8 #[.pointer (some ⟨D,0,none⟩),.int .i64 65536] w (zbj w D 65536) from fun w h=>zar D 65536 w (by decide) (by decide) h)
 have N3:=Lib.hid (show ∀w,DiceOk w D→Calls Tryz.prog 8 #[.pointer (some ⟨D,0,none⟩),.int .i64 101] w (zbj w D 101) from fun w h=>zar D 101 w (by decide) (by decide) h)
 have N4:=Lib.hid (show ∀w,DiceOk w D→Calls Tryz.prog 8 #[.pointer (some ⟨D,0,none⟩),.int .i64 30000] w (zbj w D 30000) from fun w h=>zar D 30000 w (by decide) (by decide) h)
 have N5:=Lib.hid (show ∀w,DiceOk w D→Calls Tryz.prog 8 #[.pointer (some ⟨D,0,none⟩),.int .i64 256] w (zbj w D 256) from fun w h=>zar D 256 w (by decide) (by decide) h)
 have N6:=Lib.hid (show ∀w,DiceOk w D→Calls Tryz.prog 58 #[.pointer (some ⟨D,0,none⟩),.int .i64 40] w (BytesB w D 40) from fun w h=>zee D 40 w (by decide) h)
 have N7:=Lib.hid (show ∀w,DiceOk w D→Calls Tryz.prog 8 #[.pointer (some ⟨D,0,none⟩),.int .i64 2] w (zbj w D 2) from fun w h=>zar D 2 w (by decide) (by decide) h)
 have H0:=Lib.hid h
 clear h
 go_enter Tryz.func47,Tryz.ntmps47
 go_wp2_with (first
  | ((with_reducible refine zaG (d:=4) ?_);refine zam (op:=⟨some 4,_,_,_,_,_⟩) rfl 85 rfl zerT zcS ?_;intro g4 w1 hf hr;have H1:=Lib.hid (show w.grownBy w1 (some D)∧DiceOk w1 D∧RowV w1 g4 zerT∧w.heap.size≤g4 from ⟨hf.grown _,H0.out.below hf.bw,hr,by rw [hf.1];exact Nat.le_refl _⟩);clear hf hr)
  | (go_at_call 8;((with_reducible refine (N1.out _ H1.out.2.1).mono ?_);rintro e w2 ⟨x0,hx0,rfl,hg,hd⟩);have H2:=Lib.hid (show w.grownBy w2 (some D)∧DiceOk w2 D∧RowV w2 g4 zerT from ⟨zae H1.out.1 hg,hd,H1.out.2.2.1.dice hg (zbT H1.out.2.2.2 hDw)⟩);have HX0:=Lib.hid hx0;clear hg hd hx0)
  | (go_at_call 8;((with_reducible refine (N2.out _ H2.out.2.1).mono ?_);rintro e w3 ⟨x1,hx1,rfl,hg,hd⟩);have H3:=Lib.hid (show w.grownBy w3 (some D)∧DiceOk w3 D∧RowV w3 g4 zerT from ⟨zae H2.out.1 hg,hd,H2.out.2.2.dice hg (zbT H1.out.2.2.2 hDw)⟩);have HX1:=Lib.hid hx1;clear hg hd hx1)
  | (go_at_call 8;((with_reducible refine (N3.out _ H3.out.2.1).mono ?_);rintro e w4 ⟨x2,hx2,rfl,hg,hd⟩);have H5:=Lib.hid (show w.grownBy w4 (some D)∧DiceOk w4 D∧RowV w4 g4 zerT from ⟨zae H3.out.1 hg,hd,H3.out.2.2.dice hg (zbT H1.out.2.2.2 hDw)⟩);have HX2:=Lib.hid hx2;clear hg hd hx2)
  | ((with_reducible refine zal (d:=13) ?_);go_must (refine zed rfl 85 _ rfl (pe4t rfl rfl rfl rfl) (blt_csT 3 x0 x1 x2) ?_))
  | ((with_reducible refine zaG (d:=5) ?_);refine zam (op:=⟨some 5,_,_,_,_,_⟩) rfl 85 rfl zerT zcS ?_;intro g5 w5 hf hr;have H6:=Lib.hid (show w.grownBy w5 (some D)∧DiceOk w5 D∧RowV w5 g4 zerT∧RowV w5 g5 zerT∧g4 < g5 from ⟨H5.out.1.on hf.bw,H5.out.2.1.below hf.bw,H5.out.2.2.fresh hf,hr,Nat.lt_of_lt_of_eq H5.out.2.2.lt hf.1.symm⟩);clear hf hr)
  | ((with_reducible refine zak (i:=5) ?_);go_must (refine zan rfl 85 (.tmp 5) (.tmp 13) rfl g5 zerT (csT 3 x0 x1 x2 0) rfl rfl H6.out.2.2.2.1 rfl (cs_one _ _ _) zbg ?_);intro w6 hw hr;have H4:=Lib.hid (show w.grownBy w6 (some D)∧DiceOk w6 D∧RowV w6 g4 zerT∧RowV w6 g5 (csT 3 x0 x1 x2 0) from ⟨H6.out.1.wrote hw (Nat.le_trans H1.out.2.2.2 (Nat.le_of_lt H6.out.2.2.2.2)),H6.out.2.1.wrote hw (Nat.lt_of_lt_of_le hDw (Nat.le_trans H1.out.2.2.2 (Nat.le_of_lt H6.out.2.2.2.2))),H6.out.2.2.1.wr hw (Nat.ne_of_lt H6.out.2.2.2.2),hr⟩);clear hw hr))
 have HG4:=Lib.hid H1.out.2.2.2
 have HG45:=Lib.hid (show g4≠g5 from Nat.ne_of_lt H6.out.2.2.2.2)
 have HG5:=Lib.hid (show w.heap.size≤g5 from Nat.le_trans H1.out.2.2.2 (Nat.le_of_lt H6.out.2.2.2.2))
 have HD4:=Lib.hid (zbT HG4.out hDw)
 have HD5:=Lib.hid (zbT HG5.out hDw)
 have HD6:=Lib.hid (show D < g5 from Nat.lt_of_lt_of_le hDw HG5.out)
 have HD7:=Lib.hid (show D < g4 from Nat.lt_of_lt_of_le hDw HG4.out)
 clear H1 H2 H3 H5 H6
 refine zdm (by kernel_rfl) _ (fun c=>w.grownBy c (some D)∧DiceOk c D∧(∃z:Int,RowV c g5 (csT 3 x0 x1 x2 z))∧RowV c g4 zerT) (zef [fun u _=>u=.pointer (some ⟨g5,2,none⟩),fun u _=>u=.int .i64 (x0:Int),fun u _=>u=.pointer (some ⟨D,0,none⟩),fun u _=>∃r:Nat,r < 30000∧u=.int .i64 (r:Int),fun u _=>∃y:Nat,x0≤y∧y < x0+30000∧u=.int .i64 (y:Int),fun u _=>u=.pointer (some ⟨g5,3,none⟩),fun _ c=>∃y:Nat,x0≤y∧y < x0+30000∧RowV c g5 (csT 3 x0 x1 x2 y)]) (by kernel_rfl) (zbR (by simp only [List.forall_mem_cons];exact ⟨zaq _,zaq _,zaq _,fun u c c' h _=>h,fun u c c' h _=>h,zaq _,fun u c c' h hb=>by obtain ⟨y,h1,h2,h3⟩:=h;exact ⟨y,h1,h2,h3.on hb⟩,fun X h=>by cases h⟩)) (fun c c' h hb=>⟨h.1.on hb,h.2.1.below hb,by obtain ⟨z,hz⟩:=h.2.2.1;exact ⟨z,hz.on hb⟩,h.2.2.2.on hb⟩) ⟨H4.out.1,H4.out.2.1,⟨0,H4.out.2.2.2⟩,H4.out.2.2.1⟩ ?_ ?_
 · refine zch (allI.cons ?_ (allI.cons ?_ (allI.cons ?_ (allI.cons ?_ (allI.cons ?_ (allI.cons ?_ (allI.cons ?_ allI.nil))))))) <;> intro v S c a hI hX hSi hdep hS hC
   · exact o_fa _ (.tmp 5) 2 rfl (hS.old 5 rfl) (fa_t2 g5 _) (StepT.still rfl)
   · obtain ⟨z, hz⟩ := hI.2.2.1
     exact o_ld _ (.tmp 14) rfl ((hS.get 0 (zad hdep 0 rfl) rfl rfl).trans (hX 0 (zad hdep 0 rfl))) ((hz.cell 2).trans rfl) ag_i (StepT.still rfl)
   · exact o_mv _ rfl (hS.old 0 rfl) (StepT.still rfl)
   · refine zaR (.func 8) 8 #[.tmp 16, .const (.int .i64 30000)] _ rfl rfl (ev2 ((hS.get 2 (zad hdep 2 rfl) rfl rfl).trans (hX 2 (zad hdep 2 rfl))) rfl) (by kernel_rfl) (N4.out c hI.2.1) (fun e w9 h => ?_)
     obtain ⟨r,hr,rfl,hg,hd⟩:=h
     obtain ⟨z,hz⟩:=hI.2.2.1
     refine ⟨_,rfl,StepT.turn ⟨r,hr,rfl⟩ ⟨zae hI.1 hg,hd,⟨z,hz.dice hg HD5.out⟩,hI.2.2.2.dice hg HD4.out⟩ fun j hj=>?_⟩
     match j,hj with
     | 0,hj=>exact hX 0 hj
     | 1,hj=>exact hX 1 hj
     | 2,hj=>exact hX 2 hj
     | 3,hj=>exact hX 3 hj
     | 4,hj=>exact hX 4 hj
     | 5,hj=>exact hX 5 hj
     | 6, hj =>
       obtain ⟨y,h1,h2,h3⟩:=hX 6 hj
       exact ⟨y,h1,h2,h3.dice hg HD5.out⟩
     | _+7,_=>trivial
   · obtain ⟨r, hr, e3⟩ := (hX 3 (zad hdep 3 rfl))
     exact o_bin .add _ _ (.tmp 15) (.tmp 17) rfl ((hS.get 1 (zad hdep 1 rfl) rfl rfl).trans (hX 1 (zad hdep 1 rfl))) ((hS.get 3 (zad hdep 3 rfl) rfl rfl).trans e3) (add_nat x0 r (by have:=HX0.out;omega) (by omega) _ _ _) (StepT.still ⟨x0+r,Nat.le_add_right _ _,by omega,rfl⟩)
   · exact o_fa _ (.tmp 5) 3 rfl (hS.old 5 rfl) (fa_t3 g5 _) (StepT.still rfl)
   · obtain ⟨y, h1, h2, e4⟩ := (hX 4 (zad hdep 4 rfl))
     obtain ⟨z,hz⟩:=hI.2.2.1
     refine o_stA 3 (.tmp 19) (.tmp 18) rfl g5 3 (csT 3 x0 x1 x2 z) (.int .i64 (y:Int)) ((hS.get 5 (zad hdep 5 rfl) rfl rfl).trans (hX 5 (zad hdep 5 rfl))) ((hS.get 4 (zad hdep 4 rfl) rfl rfl).trans e4) hz (by decide:3 < 7) rfl rfl zcO (fun w9 hw hr=>?_)
     refine StepT.turn ⟨y,h1,h2,hr⟩ ⟨hI.1.wrote hw HG5.out,hI.2.1.wrote hw HD6.out,⟨y,hr⟩,hI.2.2.2.wr hw HG45.out⟩ fun j hj=>?_
     match j,hj with
     | 0,hj=>exact hX 0 hj
     | 1,hj=>exact hX 1 hj
     | 2,hj=>exact hX 2 hj
     | 3,hj=>exact hX 3 hj
     | 4,hj=>exact hX 4 hj
     | 5,hj=>exact hX 5 hj
     | 6,hj=>exact ⟨y,h1,h2,hr⟩
     | _+7,_=>trivial
 · intro v w7 hI hX
   obtain ⟨y,hy1,hy2,h6⟩:=hX 6 (by decide)
   have H7:=Lib.hid (show w.grownBy w7 (some D)∧DiceOk w7 D∧RowV w7 g4 zerT∧RowV w7 g5 (csT 3 x0 x1 x2 y) from ⟨hI.1,hI.2.1,hI.2.2.2,h6⟩)
   clear hI hX h6
   simp only [zbz,Act.put]
   simp
   go_wp2_with fail
   refine (N6.out _ H7.out.2.1).mono ?_
   rintro e w8 ⟨u,k,rfl,hk,⟨l,hll,hown⟩,hg,hd⟩
   have H8:=Lib.hid (show w.grownBy w8 (some D)∧RowV w8 g4 zerT∧RowV w8 g5 (csT 3 x0 x1 x2 y) from ⟨zae H7.out.1 hg,H7.out.2.2.1.dice hg HD4.out,H7.out.2.2.2.dice hg HD5.out⟩)
   have hs78:=hg.size
   have HD8:=Lib.hid (show D < w7.heap.size from H7.out.2.1.lt)
   have HG57:=Lib.hid (show g5 < w7.heap.size from H7.out.2.2.2.lt)
   have HG47:=Lib.hid (show g4 < w7.heap.size from H7.out.2.2.1.lt)
   have HY:=Lib.hid (show x0≤y∧y < x0+30000 from ⟨hy1,hy2⟩)
   clear hg hy1 hy2
   go_wp2_with fail
   refine (N5.out _ hd).mono ?_
   rintro e w9 ⟨x3,hx3,rfl,hg,hd9⟩
   have hown2 : w9.ownsRow w7.heap.size 5 1 u k (Us l) := zbm hown hg (by
    rcases hown.2 with ⟨e,_⟩ | ⟨g,cap,cur,e,hb,_⟩
    · rw [e];simp [Value.ownBlock]
    · rw [e];simp [Value.ownBlock];have:=H7.out.2.1.lt;omega)
   have h95:=H8.out.2.2.dice hg HD5.out
   have h94:=H8.out.2.1.dice hg HD4.out
   have hs79:w7.heap.size≤w9.heap.size:=Nat.le_trans hs78 hg.size
   have HGR := Lib.hid (show ∀ w10, (w9.alloc (.cells #[.int .u8 (x3 : Int)] 5)).grownBy w10 u.ownBlock → w.grownBy w10 (some D) ∧ DiceOk w10 D ∧ RowV w10 g4 zerT ∧ RowV w10 g5 (csT 3 x0 x1 x2 y) from fun w10 hg10 => by
    have hge:∀g,u.ownBlock=some g→w7.heap.size≤g:=fun g e=>(hown2.lt g e).1
    have h7s:=H7.out.1.size
    have hr4:=H7.out.2.2.1.lt
    have hr5:=H7.out.2.2.2.lt
    refine ⟨zaF (zae (zae H8.out.1 hg) (zaB w9 _ (some D))) hg10 (fun g e=>Nat.le_trans h7s (hge g e)),(hd9.below ((Below.refl _ _).alloc (Nat.le_refl _) _)).grown hg10 (fun g e=>Nat.lt_of_lt_of_le H7.out.2.1.lt (hge g e)),?_,?_⟩
    · have hq : RowV (w9.alloc (.cells #[.int .u8 (x3 : Int)] 5)) g4 zerT := h94.on ((Below.refl _ _).alloc (Nat.le_refl _) _)
      exact hq.same (hg10.block _ hq.lt fun e=>by have:=hge _ e.symm;omega)
    · have hq : RowV (w9.alloc (.cells #[.int .u8 (x3 : Int)] 5)) g5 (csT 3 x0 x1 x2 y) := h95.on ((Below.refl _ _).alloc (Nat.le_refl _) _)
      exact hq.same (hg10.block _ hq.lt fun e=>by have:=hge _ e.symm;omega))
   obtain ⟨L,hL⟩ : ∃L,l++[UInt8.ofNat x3]=L:=⟨_,rfl⟩
   have hLL:L.length=k+1:=by rw [←hL,List.length_append,hll];rfl
   have HOW := Lib.hid (show ∀ w10 v3, w10.ownsRow w7.heap.size 5 1 v3 (k + 1) (Us l ++ [.int .u8 (x3 : Int)]) → ∃ A c, v3 = .slice A (k + 1) c ∧ ((A = none → c = 0) ∧ k + 1 ≤ c) ∧ SeesP w10 (newB w7 w10) A (Us L) from fun w10 v3 ho => by
    refine zde (w:=w7) (e:=5) ?_
    have e1:Us [UInt8.ofNat x3]=[Value.int .u8 (x3:Int)]:=by rw [zct x3 hx3];rfl
    rw [←hL,zaP,e1]
    exact ho)
   have HSET:=Lib.hid (show ∀A c,(csT 3 x0 x1 x2 y).set 6 (.slice A (k+1) c)=(⟨3,0,x0,y,x1,x2,L⟩ : Tm).cs A c from fun A c=>by rw [←hLL];rfl)
   have HLL:=Lib.hid hLL
   have hk40:k≤40:=hk
   have hs9:=Lib.hid hs79
   clear hs78 hg hd hd9 hown h95 h94 hL hll hLL hk hs79
   go_wp2_with (first
    | (at_builtin;refine wpList_append_own _ rfl (.tmp 21) (.tmp 25) 27 rfl w7.heap.size 5 i0 (.int .u8 0) 1 1 Tryz.underlying27 hi hz0 hz1 hz2 rfl (by decide) u k _ rfl (hown2.alloc _) ⟨w9.heap.size,0,none⟩ 1 1 [_] rfl rfl (zaZ _ _ _) (zby _) (by unfold maxLen;omega) (by omega) (by have:=hs9.out;simp;omega) ?_;intro v3 w10 ho hg10 _;have H10:=Lib.hid (HGR.out _ hg10);obtain ⟨A3,c3,hv3,hn3,hs3⟩:=HOW.out _ _ ho;subst hv3;have H3D:=Lib.hid (show _∧_ from ⟨hn3,hs3⟩);clear ho hg10 hn3 hs3)
    | ((with_reducible refine zak (i:=27) ?_);go_must (refine zaj rfl 27 (.tmp 27) (.tmp 26) rfl g5 6 (csT 3 x0 x1 x2 y) (.slice A3 (k+1) c3) rfl rfl H10.out.2.2.2 (by decide:6 < 7) rfl rfl size_sl ?_);intro w11 hw hr;have H11:=Lib.hid (show w.grownBy w11 (some D)∧DiceOk w11 D∧RowV w11 g4 zerT∧RowV w11 g5 ((⟨3,0,x0,y,x1,x2,L⟩ : Tm).cs A3 c3)∧SeesP w11 (newB w7 w11) A3 (Us L) from ⟨H10.out.1.wrote hw HG5.out,H10.out.2.1.wrote hw HD6.out,H10.out.2.2.1.wr hw HG45.out,HSET.out A3 c3 ▸ hr,H3D.out.2.wrote hw HG57.out⟩);clear hw hr)
    | (go_at_call 8;((with_reducible refine (N7.out _ H11.out.2.1).mono ?_);rintro e w12 ⟨x4,hx4,rfl,hg,hd⟩);have H12:=Lib.hid (show w.grownBy w12 (some D)∧DiceOk w12 D∧RowV w12 g4 zerT∧RowV w12 g5 ((⟨3,0,x0,y,x1,x2,L⟩ : Tm).cs A3 c3)∧SeesP w12 (newB w7 w12) A3 (Us L) from ⟨zae H11.out.1 hg,hd,H11.out.2.2.1.dice hg HD4.out,H11.out.2.2.2.1.dice hg HD5.out,H11.out.2.2.2.2.dice hg HD8.out⟩);clear hg hd)
    | ((with_reducible refine zak (i:=40) ?_);go_must (refine zaj rfl 3 (.tmp 40) (.tmp 39) rfl g5 1 ((⟨3,0,x0,y,x1,x2,L⟩ : Tm).cs A3 c3) (.int .i64 (1+(x4:Int))) rfl rfl H12.out.2.2.2.1 (by decide:1 < 7) rfl rfl zcO ?_);intro w13 hw hr;have HLAST:=Lib.hid (show w.grownBy w13 (some D)∧DiceOk w13 D∧RowV w13 g4 zerT∧RowV w13 g5 ((⟨3,(1+(x4:Int)),x0,y,x1,x2,L⟩ : Tm).cs A3 c3)∧SeesP w13 (newB w7 w13) A3 (Us L) from ⟨H12.out.1.wrote hw HG5.out,H12.out.2.1.wrote hw HD6.out,H12.out.2.2.1.wr hw HG45.out,hr,H12.out.2.2.2.2.wrote hw HG57.out⟩);clear hw hr)
    | ((with_reducible refine zaa (d:=41) ?_);go_must (refine zaJ rfl 85 (.tmp 5) rfl g5 rfl ((⟨3,(1+(x4:Int)),x0,y,x1,x2,L⟩ : Tm).cs A3 c3) _ HLAST.out.2.2.2.1 Tryz.underlying85 rfl zbg ?_))
    | ((with_reducible refine zak (i:=4) ?_);go_must (refine zan rfl 85 (.tmp 4) (.tmp 41) rfl g4 zerT ((⟨3,(1+(x4:Int)),x0,y,x1,x2,L⟩ : Tm).cs A3 c3) rfl rfl HLAST.out.2.2.1 rfl (cs_one _ _ _) zbg ?_);intro w14 hw hr;have H14:=Lib.hid (show w.grownBy w14 (some D)∧DiceOk w14 D∧RowV w14 g4 ((⟨3,(1+(x4:Int)),x0,y,x1,x2,L⟩ : Tm).cs A3 c3)∧SeesP w14 (newB w7 w14) A3 (Us L) from ⟨HLAST.out.1.wrote hw HG4.out,HLAST.out.2.1.wrote hw HD7.out,hr,HLAST.out.2.2.2.2.wrote hw HG47.out⟩);clear hw hr))
   exact bodyPost_ret (zbA rfl _ _ g4 ((⟨3,(1+(x4:Int)),x0,y,x1,x2,L⟩ : Tm).cs A3 c3) _ rfl H14.out.2.2.1 Tryz.underlying85 rfl zbg) rfl ⟨⟨3,(1+(x4:Int)),x0,y,x1,x2,L⟩,A3,c3,rfl,vT_made (by simp [zcf];omega) HX0.out HY.out HX1.out HX2.out (by rw [HLL.out];omega) (by rw [HLL.out];omega),rfl,(show _∧L.length≤c3 from by rw [HLL.out];exact H3D.out.1),H14.out.2.2.2.imp fun b hb=>zaH hb H7.out.1.size (Nat.le_refl _),H14.out.1,H14.out.2.1⟩
theorem dice_template (D : Nat) (kd : Int) (hkd : kd = 1 ∨ kd = 2 ∨ kd = 3) (w : World) (h : DiceOk w D) :
 Calls Tryz.prog 47 #[.pointer (some ⟨D,0,none⟩),.int .i64 kd] w (TmIs w D kd):=by
 rcases hkd with rfl | rfl | rfl
 · exact zgp D w h
 · exact zgj D w h
 · exact zgk D w h
end Go.Proofs.YtnlhbknajdpnbaaGreatDoor
