/-
  What is proved here: the file that an identifier or a short one selects, by the program and by the reference.
-/
import Derived.Test.YtkdlfbggddllhaaPG22
set_option linter.unusedVariables false
set_option linter.unusedSimpArgs false
namespace Go.Proofs.Ytkdlfbggddllhaa
open Go.RowKit
set_option maxRecDepth 8000
section
variable {P:Program} {ops:Array Oper} {rest:List Oper} {op:Oper} {a:Act} {w:World} {Q:Exit→Act→World→Prop}
theorem wpList_box_c (hgd : op.guard = none) (ty : TypeId) (x : Operand) (ho : op.op = .box ty x) (v : Value) (hx : a.eval x = v) (hv : v.cells = #[v])
 (hK:∀g w',Fresh w w' g→RowV w' g [v]→wpList P ops Q rest (a.put op.dst (.pointer (some ⟨g,0,none⟩))) w'):wpList P ops Q (op::rest) a w:=by
 refine wpList_plain hgd fun K hK2=>?_
 have hr : (Instr.box ty v).run P w = .ok (.pointer (some ⟨w.heap.size, 0, none⟩)) (w.alloc (.cells #[v] ty)) := by
  simp [Instr.box,newVar,newRow,newObj,hv]
  rfl
 unfold Oper.wp execOp
 simp only [ho,hx,Sem.run_bind,hr,Result.andThen_ok]
 exact hK2 _ _ (hK _ _ ⟨rfl,_,rfl⟩ (RowV.new rfl))
end
theorem zai {P : Program} {ops : Array Oper} {rest : List Oper} {o : Oper} {a : Act} {w : World} {Q : Exit → Act → World → Prop} (hgd : o.guard = none) (t : TypeId) (parts : Array (Nat × Operand)) (ho : o.op = .build t parts) {ps : List (Nat × Value)} (hp : (parts.map fun (i, x) => (i, a.eval x)).toList = ps) {vs : List Value} (hb : P.built t ps = some vs.toArray)
 (hK:wpList P ops Q rest (a.put o.dst (.agg vs.toArray)) w):wpList P ops Q (o::rest) a w :=
 wpList_plain hgd fun _ hK2=>o_bld t parts ho hp hb (hK2 _ _ hK)
theorem pe0 {a:Act}:((#[]:Array (Nat×Operand)).map fun (i,x)=>(i,a.eval x)).toList=[]:=by simp
theorem pe2v {a : Act} {x0 x1 : Operand} {u0 u1 : Value} (h0 : a.eval x0 = u0) (h1 : a.eval x1 = u1) :
 ((#[(0,x0),(1,x1)]:Array (Nat×Operand)).map fun (i,x)=>(i,a.eval x)).toList=[(0,u0),(1,u1)]:=by simp [h0,h1]
theorem zaQ:Try.prog.built 27 []=some (plV 0 0).toArray:=by kernel_rfl
theorem bld_pl (p q:Int):Try.prog.built 27 [(0,.int .i64 p),(1,.int .i64 q)]=some (plV p q).toArray:=by kernel_rfl
def FndIs (w:World) (G:Gw) (app file:Int) (f:Fw→Bool) (e:Ending) (w':World):Prop:=e=.returned (.tuple #[.agg (plV (fndP G app file f).1 (fndP G app file f).2).toArray,.int .i64 (fndE G app file f)])∧Below w.heap.size w w'
theorem fnd_bad {G : Gw} {app file : Int} {f : Fw → Bool} (h : atE G app file ≠ 0) : fndE G app file f = 14 ∧ fndP G app file f = (0, 0) := by
 have e:fndE G app file f=14:=by unfold fndE;rw [if_pos h]
 exact ⟨e,by unfold fndP;rw [if_neg (by rw [e];decide)]⟩
theorem fnd_none {G : Gw} {app file : Int} {f : Fw → Bool} (h : atE G app file = 0) (h2 : fstP f 0 (lstL G app) < 0) : fndE G app file f = 16 ∧ fndP G app file f = (0, 0) := by
 have e:fndE G app file f=16:=by unfold fndE;rw [if_neg (by rw [h];decide),if_pos h2]
 exact ⟨e,by unfold fndP;rw [if_neg (by rw [e];decide)]⟩
theorem fnd_ok {G : Gw} {app file : Int} {f : Fw → Bool} (h : atE G app file = 0) (h2 : ¬ fstP f 0 (lstL G app) < 0) : fndE G app file f = 0 ∧ fndP G app file f = (app, fstP f 0 (lstL G app)) := by
 have e:fndE G app file f=0:=by unfold fndE;rw [if_neg (by rw [h];decide),if_neg h2]
 exact ⟨e,by unfold fndP;rw [if_pos e]⟩
theorem atE_or (G:Gw) (app file:Int):atE G app file=14∨atE G app file=0:=by unfold atE;split <;> simp
theorem fnd_cases (G : Gw) (app file : Int) (f : Fw → Bool) : (atE G app file = 14 ∧ atV G app file = .slice none 0 0 ∧ fndE G app file f = 14 ∧ fndP G app file f = (0, 0)) ∨
 (atE G app file=0∧atV G app file=.slice (lstA G app) (lstL G app).length (lstC G app)∧(lstL G app).length≤24∧((decide (fstP f 0 (lstL G app) < 0)=true∧fndE G app file f=16∧fndP G app file f=(0,0))∨(decide (fstP f 0 (lstL G app) < 0)=false∧fndE G app file f=0∧fndP G app file f=(app,fstP f 0 (lstL G app))))):=by
 rcases atE_or G app file with h | h
 · left
   have hne:atE G app file≠0:=by rw [h];decide
   exact ⟨h,by unfold atV;rw [if_neg hne],fnd_bad hne⟩
 · right
   obtain ⟨h1,h2,h3,_,_⟩:=zaS h
   obtain ⟨v1,v2,v3⟩:=valE_ok h1
   refine ⟨h,by unfold atV;rw [if_pos h],?_,?_⟩
   · unfold lstL
     by_cases hn:app < 0
     · rw [if_pos hn];exact (lisE_ok v2).1
     · rw [if_neg hn]
       have hk:app.toNat < G.apps.length:=by omega
       have e:G.apps.getD app.toNat zerA=G.apps[app.toNat]:=by simp [hk]
       rw [e]
       exact (lisE_ok (v3 _ (List.getElem_mem hk)).2).1
   · by_cases hz : fstP f 0 (lstL G app) < 0
     · left;exact ⟨by simpa using hz,fnd_none h hz⟩
     · right;exact ⟨by simpa using hz,fnd_ok h hz⟩
set_option maxHeartbeats 1600000 in
theorem p_idc (id : Int) (x : Fw) (g : Nat) (w : World) (hr : RowV w g [.int .i64 id]) : Calls Try.prog 46 #[.agg x.cs.toArray, .pointer (some ⟨g, 0, none⟩)] w fun e w' => e = .returned (.bool (idB id x)) ∧ Below w.heap.size w w' := by
 have c0:w.cell? ⟨g,0,none⟩=some (.int .i64 id):=hr.cell 0
 have hlt:=hr.lt
 have ha:x.cs.toArray=#[.int .i64 x.id,.int .i64 x.sh,.slice x.A x.d.length x.c,.int .i64 x.lv,.int .i64 x.rt]:=rfl
 have hq:idB id x=(x.id==id):=by unfold idB;by_cases h:x.id=id <;> simp [h]
 rw [ha,hq]
 obtain ⟨i,s,A,c,lv,rt,d⟩:=x
 simp only
 obtain ⟨n,hn⟩ : ∃z,d.length=z:=⟨_,rfl⟩
 rw [hn]
 clear ha hq hr hn
 go_enter Try.func46,Try.ntmps46
 go_wp2
 go_ret
 exact ⟨rfl,zay _ _⟩
set_option maxHeartbeats 3200000 in
theorem p_ixI (f : Fw → Bool) (g : Nat) (L : List Fw) (n : Nat) (hn : L.length = n) (hm : n ≤ 1000000) (A : Option Addr) (c : Nat) (w : World) (hs : SeesU w (· < w.heap.size) A c L)
 (hc:∀(z:Fw) (u:World),z∈L→Below w.heap.size w u→Calls Try.prog 46 #[.agg z.cs.toArray,.pointer (some ⟨g,0,none⟩)] u fun e u'=>e=.returned (.bool (f z))∧Below u.heap.size u u') :
 Calls Try.prog 51 #[.slice A n c,.func (.func 46) #[] #[.pointer (some ⟨g,0,none⟩)]] w fun e w'=>e=.returned (.int .i64 (fstP f 0 L))∧Below w.heap.size w w':=by
 have HS:=Lib.hid (show _∧_ from ⟨hs,hn⟩)
 have HC:=Lib.hid hc
 obtain ⟨R,hR⟩ : ∃z,fstP f 0 L=z:=⟨_,rfl⟩
 rw [hR]
 have HR:=Lib.hid hR
 have HB:=Lib.hid (Below.refl w.heap.size w)
 clear hs hn hR hc
 go_enter Try.func51,Try.ntmps51
 go_wp2
 go_loopw [8] (fun i wr=>∃(j:Nat),j≤n∧i=.int .i64 (j:Int)∧Hid (Below w.heap.size w wr∧fstP f j (L.drop j)=R)) (fun i _=>n - (intOf i).toNat)
 case atStart=>exact ⟨0,by omega,rfl,Lib.hid ⟨HB.out,HR.out⟩⟩
 case round =>
  obtain ⟨j,hj,rfl,HQ⟩:=hrel
  by_cases hlt:j < n
  · have dj : decide ((j : Int) < (n : Int)) = true := by simp; omega
    obtain ⟨x,hx⟩ : ∃x,L[j]? = some x:=⟨_,List.getElem?_eq_getElem (by rw [HS.out.2];exact hlt)⟩
    obtain ⟨b,off,rfl,hb,hr⟩:=fw_at (HS.out.1.on HQ.out.1) hx
    have hcl:=HC.out x wr (List.mem_of_getElem? hx) HQ.out.1
    have hst:=(fstP_at (f:=f) hx).symm.trans HQ.out.2
    obtain ⟨us,hus⟩ : ∃us,x.cs=us:=⟨_,rfl⟩
    have h5:us.length=5:=by rw [←hus];rfl
    obtain ⟨q,hq⟩ : ∃z,f x=z:=⟨_,rfl⟩
    rw [hus] at hr hcl
    rw [hq] at hcl hst
    have HU:=Lib.hid (show _∧_ from ⟨hr,h5⟩)
    have HCL:=Lib.hid hcl
    have HST:=Lib.hid (show (q=true→(j:Int)=R)∧(q=false→fstP f (j+1) (L.drop (j+1))=R) from ⟨fun e=>by rw [e] at hst;exact hst,fun e=>by rw [e] at hst;exact hst⟩)
    have ixk:=fun w=>ix_fw b off n c j hlt w
    clear hx hb hr hus hcl hst h5 hq
    rcases q with _ | _
    · go_wp2_with (first
       | ((with_reducible refine zac (d:=15) ?_);refine wpList_load_mid rfl 60 (.tmp 14) rfl b (off+j*5) rfl us _ HU.out.1 Try.underlying60 rfl (by rw [HU.out.2];exact zaq) ?_)
       | (go_at_call 46;((with_reducible refine HCL.out.mono ?_);rintro e w9 ⟨rfl,h9⟩);have H9:=Lib.hid (zad HQ.out.1 h9);clear h9))
      go_roundw
      case rel=>exact ⟨j+1,by omega,by first | rfl | go_num,Lib.hid ⟨H9.out,HST.out.2 (by first | rfl | trivial)⟩⟩
      case measure=>simp [intOf];omega
    · go_wp2_with (first
       | ((with_reducible refine zac (d:=15) ?_);refine wpList_load_mid rfl 60 (.tmp 14) rfl b (off+j*5) rfl us _ HU.out.1 Try.underlying60 rfl (by rw [HU.out.2];exact zaq) ?_)
       | (go_at_call 46;((with_reducible refine HCL.out.mono ?_);rintro e w9 ⟨rfl,h9⟩);have H9:=Lib.hid (zad HQ.out.1 h9);clear h9))
      go_ret
      exact ⟨by rw [←HST.out.1 (by first | rfl | trivial)];rfl,H9.out⟩
  · obtain rfl : j = n := by omega
    have dj:decide ((j:Int) < (j:Int))=false:=by simp
    have HN := Lib.hid (show R = -1 from by
     have h:=HQ.out.2
     rw [List.drop_of_length_le (by rw [HS.out.2];exact Nat.le_refl _)] at h
     exact h.symm)
    go_wp2
    go_ret
    exact ⟨by rw [HN.out];rfl,HQ.out.1⟩
set_option maxHeartbeats 6400000 in
theorem p_findI (f : Fw → Bool) (g : Nat) (G : Gw) (app file : Int) (w : World) (hs : SeesW w (· < w.heap.size) G)
 (hc:∀(z:Fw) (u:World),Below w.heap.size w u→Calls Try.prog 46 #[.agg z.cs.toArray,.pointer (some ⟨g,0,none⟩)] u fun e u'=>e=.returned (.bool (f z))∧Below u.heap.size u u') :
 Calls Try.prog 44 #[.agg G.cs.toArray,.agg (plV app file).toArray,.func (.func 46) #[] #[.pointer (some ⟨g,0,none⟩)]] w (FndIs w G app file f):=by
 have hcs:=fnd_cases G app file f
 have HA:=Lib.hid (fun u (hb:Below w.heap.size w u)=>p_at17 G app file u (hs.on hb))
 have HL := Lib.hid (fun (h : atE G app file = 0) u (hb : Below w.heap.size w u) => (show SeesU u (· < u.heap.size) (lstA G app) (lstC G app) (lstL G app) from by
  obtain ⟨_,h2,h3,_,_⟩:=zaS h
  exact lst_sees (hs.on hb) h2 h3))
 obtain ⟨n,hn⟩ : ∃z,(lstL G app).length=z:=⟨_,rfl⟩
 rw [hn] at hcs
 have HI:=Lib.hid (fun (h:atE G app file=0) (hn24:n≤24) u (hb:Below w.heap.size w u)=>p_ixI f g (lstL G app) n hn (by omega) (lstA G app) (lstC G app) u (HL.out h u hb) fun z u' _ hb2=>hc z u' (zad hb hb2))
 obtain ⟨us,hus⟩ : ∃us,G.cs=us:=⟨_,rfl⟩
 have h2:us.length=2:=by rw [←hus];rfl
 obtain ⟨V,hV⟩ : ∃v,atV G app file=v:=⟨_,rfl⟩
 obtain ⟨E,hE⟩ : ∃v,atE G app file=v:=⟨_,rfl⟩
 obtain ⟨Z,hZ⟩ : ∃v,fstP f 0 (lstL G app)=v:=⟨_,rfl⟩
 obtain ⟨FE,hFE⟩ : ∃v,fndE G app file f=v:=⟨_,rfl⟩
 obtain ⟨FP,hFP⟩ : ∃v,fndP G app file f=v:=⟨_,rfl⟩
 obtain ⟨lA,hlA⟩ : ∃v,lstA G app=v:=⟨_,rfl⟩
 obtain ⟨lC,hlC⟩ : ∃v,lstC G app=v:=⟨_,rfl⟩
 unfold FndIs
 rw [hV,hE] at HA
 rw [hE,hZ,hlA,hlC] at HI
 rw [hV,hE,hZ,hFE,hFP,hlA,hlC] at hcs
 rw [hus] at HA ⊢
 rw [hFE,hFP]
 have HB:=Lib.hid (Below.refl w.heap.size w)
 have H2:=Lib.hid h2
 clear hs hus h2 hc HL hV hE hZ hFE hFP hlA hlC hn
 rcases hcs with ⟨rfl,rfl,rfl,rfl⟩ | ⟨rfl,rfl,hn24,⟨hz,rfl,rfl⟩ | ⟨hz,rfl,rfl⟩⟩
 · go_enter Try.func44, Try.ntmps44
   go_wp2_with (first
    | ((with_reducible refine zag (d:=3) ?_);refine zaa (op:=⟨some 3,_,_,_,_,_⟩) rfl 25 _ rfl us rfl ?_;intro g3 w1 hf hr;have H1:=Lib.hid (show Below w.heap.size w w1∧RowV w1 g3 us from ⟨hf.bl HB.out,hr⟩);clear hf hr)
    | ((with_reducible refine zag (d:=4) ?_);refine zaa (op:=⟨some 4,_,_,_,_,_⟩) rfl 27 _ rfl (plV app file) rfl ?_;intro g4 w2 hf hr;have H3:=Lib.hid (show Below w.heap.size w w2∧RowV w2 g3 us∧RowV w2 g4 (plV app file) from ⟨hf.bl H1.out.1,H1.out.2.fresh hf,hr⟩);clear hf hr)
    | ((with_reducible refine zaj (d:=6) ?_);refine zae (op:=⟨some 6,_,_,_,_,_⟩) rfl 27 rfl (plV 0 0) zbf ?_;intro g6 w3 hf hr;have H4:=Lib.hid (show Below w.heap.size w w3∧RowV w3 g3 us∧RowV w3 g4 (plV app file)∧RowV w3 g6 (plV 0 0)∧w.heap.size≤g6∧g4≠g6 from ⟨hf.bl H3.out.1,H3.out.2.1.fresh hf,H3.out.2.2.fresh hf,hr,hf.ge H3.out.1,H3.out.2.2.ne hf⟩);clear hf hr)
    | ((with_reducible refine zac (d:=12) ?_);refine zab rfl 25 (.tmp 3) rfl g3 rfl us _ H4.out.2.1 Try.underlying25 rfl (by rw [H2.out];exact zas) ?_)
    | ((with_reducible refine zac (d:=13) ?_);refine zab rfl 27 (.tmp 4) rfl g4 rfl (plV app file) _ H4.out.2.2.1 Try.underlying27 rfl zam ?_)
    | (go_at_call 50;((with_reducible refine (HA.out _ H4.out.1).mono ?_);rintro e w5 ⟨rfl,h⟩);have H5:=Lib.hid (show Below w.heap.size w w5∧RowV w5 g4 (plV app file)∧RowV w5 g6 (plV 0 0) from ⟨zad H4.out.1 h,H4.out.2.2.1.on h,H4.out.2.2.2.1.on h⟩);clear h)
    | ((with_reducible refine zal (d:=19) ?_);go_must (refine zai rfl 27 _ rfl pe0 zaQ ?_);have H8:=Lib.hid (show Below w.heap.size w w5∧RowV w5 g6 (plV 0 0) from ⟨H5.out.1,H5.out.2.2⟩))
    | ((with_reducible refine zal (d:=26) ?_);go_must (refine zai rfl 27 _ rfl pe0 zaQ ?_))
    | ((with_reducible refine zal (d:=30) ?_);go_must (refine zai rfl 27 _ rfl (pe2v rfl rfl) (bld_pl app Z) ?_))
    | (go_at_call 51;((with_reducible refine (HI2.out _ H5.out.1).mono ?_);rintro e w6 ⟨rfl,h⟩);have H8:=Lib.hid (show Below w.heap.size w w6∧RowV w6 g6 (plV 0 0) from ⟨zad H5.out.1 h,H5.out.2.2.on h⟩);have a0:w6.cell? ⟨g4,0,none⟩=some (.int .i64 app):=(H5.out.2.1.on h).cell 0;clear h)
    | ((with_reducible refine zah (i:=6) ?_);go_must (refine zaf rfl 27 (.tmp 6) _ rfl g6 (plV 0 0) (plV _ _) rfl rfl H8.out.2 rfl (pl_one _ _) zam ?_);intro w9 hw hr;have H9:=Lib.hid (show Below w.heap.size w w9∧RowV w9 g6 (plV _ _) from ⟨Wr.bl H8.out.1 hw H4.out.2.2.2.2.1,hr⟩);clear hw hr))
   exact bodyPost_ret (zau rfl _ _ g6 (plV 0 0) _ rfl H9.out.2 Try.underlying27 rfl zam) rfl ⟨rfl,H9.out.1⟩
 · have HI2 := Lib.hid (HI.out rfl hn24)
   go_enter Try.func44,Try.ntmps44
   go_wp2_with (first
    | ((with_reducible refine zag (d:=3) ?_);refine zaa (op:=⟨some 3,_,_,_,_,_⟩) rfl 25 _ rfl us rfl ?_;intro g3 w1 hf hr;have H1:=Lib.hid (show Below w.heap.size w w1∧RowV w1 g3 us from ⟨hf.bl HB.out,hr⟩);clear hf hr)
    | ((with_reducible refine zag (d:=4) ?_);refine zaa (op:=⟨some 4,_,_,_,_,_⟩) rfl 27 _ rfl (plV app file) rfl ?_;intro g4 w2 hf hr;have H3:=Lib.hid (show Below w.heap.size w w2∧RowV w2 g3 us∧RowV w2 g4 (plV app file) from ⟨hf.bl H1.out.1,H1.out.2.fresh hf,hr⟩);clear hf hr)
    | ((with_reducible refine zaj (d:=6) ?_);refine zae (op:=⟨some 6,_,_,_,_,_⟩) rfl 27 rfl (plV 0 0) zbf ?_;intro g6 w3 hf hr;have H4:=Lib.hid (show Below w.heap.size w w3∧RowV w3 g3 us∧RowV w3 g4 (plV app file)∧RowV w3 g6 (plV 0 0)∧w.heap.size≤g6∧g4≠g6 from ⟨hf.bl H3.out.1,H3.out.2.1.fresh hf,H3.out.2.2.fresh hf,hr,hf.ge H3.out.1,H3.out.2.2.ne hf⟩);clear hf hr)
    | ((with_reducible refine zac (d:=12) ?_);refine zab rfl 25 (.tmp 3) rfl g3 rfl us _ H4.out.2.1 Try.underlying25 rfl (by rw [H2.out];exact zas) ?_)
    | ((with_reducible refine zac (d:=13) ?_);refine zab rfl 27 (.tmp 4) rfl g4 rfl (plV app file) _ H4.out.2.2.1 Try.underlying27 rfl zam ?_)
    | (go_at_call 50;((with_reducible refine (HA.out _ H4.out.1).mono ?_);rintro e w5 ⟨rfl,h⟩);have H5:=Lib.hid (show Below w.heap.size w w5∧RowV w5 g4 (plV app file)∧RowV w5 g6 (plV 0 0) from ⟨zad H4.out.1 h,H4.out.2.2.1.on h,H4.out.2.2.2.1.on h⟩);clear h)
    | ((with_reducible refine zal (d:=19) ?_);go_must (refine zai rfl 27 _ rfl pe0 zaQ ?_);have H8:=Lib.hid (show Below w.heap.size w w5∧RowV w5 g6 (plV 0 0) from ⟨H5.out.1,H5.out.2.2⟩))
    | ((with_reducible refine zal (d:=26) ?_);go_must (refine zai rfl 27 _ rfl pe0 zaQ ?_))
    | ((with_reducible refine zal (d:=30) ?_);go_must (refine zai rfl 27 _ rfl (pe2v rfl rfl) (bld_pl app Z) ?_))
    | (go_at_call 51;((with_reducible refine (HI2.out _ H5.out.1).mono ?_);rintro e w6 ⟨rfl,h⟩);have H8:=Lib.hid (show Below w.heap.size w w6∧RowV w6 g6 (plV 0 0) from ⟨zad H5.out.1 h,H5.out.2.2.on h⟩);have a0:w6.cell? ⟨g4,0,none⟩=some (.int .i64 app):=(H5.out.2.1.on h).cell 0;clear h)
    | ((with_reducible refine zah (i:=6) ?_);go_must (refine zaf rfl 27 (.tmp 6) _ rfl g6 (plV 0 0) (plV _ _) rfl rfl H8.out.2 rfl (pl_one _ _) zam ?_);intro w9 hw hr;have H9:=Lib.hid (show Below w.heap.size w w9∧RowV w9 g6 (plV _ _) from ⟨Wr.bl H8.out.1 hw H4.out.2.2.2.2.1,hr⟩);clear hw hr))
   exact bodyPost_ret (zau rfl _ _ g6 (plV 0 0) _ rfl H9.out.2 Try.underlying27 rfl zam) rfl ⟨rfl,H9.out.1⟩
 · have HI2 := Lib.hid (HI.out rfl hn24)
   go_enter Try.func44,Try.ntmps44
   go_wp2_with (first
    | ((with_reducible refine zag (d:=3) ?_);refine zaa (op:=⟨some 3,_,_,_,_,_⟩) rfl 25 _ rfl us rfl ?_;intro g3 w1 hf hr;have H1:=Lib.hid (show Below w.heap.size w w1∧RowV w1 g3 us from ⟨hf.bl HB.out,hr⟩);clear hf hr)
    | ((with_reducible refine zag (d:=4) ?_);refine zaa (op:=⟨some 4,_,_,_,_,_⟩) rfl 27 _ rfl (plV app file) rfl ?_;intro g4 w2 hf hr;have H3:=Lib.hid (show Below w.heap.size w w2∧RowV w2 g3 us∧RowV w2 g4 (plV app file) from ⟨hf.bl H1.out.1,H1.out.2.fresh hf,hr⟩);clear hf hr)
    | ((with_reducible refine zaj (d:=6) ?_);refine zae (op:=⟨some 6,_,_,_,_,_⟩) rfl 27 rfl (plV 0 0) zbf ?_;intro g6 w3 hf hr;have H4:=Lib.hid (show Below w.heap.size w w3∧RowV w3 g3 us∧RowV w3 g4 (plV app file)∧RowV w3 g6 (plV 0 0)∧w.heap.size≤g6∧g4≠g6 from ⟨hf.bl H3.out.1,H3.out.2.1.fresh hf,H3.out.2.2.fresh hf,hr,hf.ge H3.out.1,H3.out.2.2.ne hf⟩);clear hf hr)
    | ((with_reducible refine zac (d:=12) ?_);refine zab rfl 25 (.tmp 3) rfl g3 rfl us _ H4.out.2.1 Try.underlying25 rfl (by rw [H2.out];exact zas) ?_)
    | ((with_reducible refine zac (d:=13) ?_);refine zab rfl 27 (.tmp 4) rfl g4 rfl (plV app file) _ H4.out.2.2.1 Try.underlying27 rfl zam ?_)
    | (go_at_call 50;((with_reducible refine (HA.out _ H4.out.1).mono ?_);rintro e w5 ⟨rfl,h⟩);have H5:=Lib.hid (show Below w.heap.size w w5∧RowV w5 g4 (plV app file)∧RowV w5 g6 (plV 0 0) from ⟨zad H4.out.1 h,H4.out.2.2.1.on h,H4.out.2.2.2.1.on h⟩);clear h)
    | ((with_reducible refine zal (d:=19) ?_);go_must (refine zai rfl 27 _ rfl pe0 zaQ ?_);have H8:=Lib.hid (show Below w.heap.size w w5∧RowV w5 g6 (plV 0 0) from ⟨H5.out.1,H5.out.2.2⟩))
    | ((with_reducible refine zal (d:=26) ?_);go_must (refine zai rfl 27 _ rfl pe0 zaQ ?_))
    | ((with_reducible refine zal (d:=30) ?_);go_must (refine zai rfl 27 _ rfl (pe2v rfl rfl) (bld_pl app Z) ?_))
    | (go_at_call 51;((with_reducible refine (HI2.out _ H5.out.1).mono ?_);rintro e w6 ⟨rfl,h⟩);have H8:=Lib.hid (show Below w.heap.size w w6∧RowV w6 g6 (plV 0 0) from ⟨zad H5.out.1 h,H5.out.2.2.on h⟩);have a0:w6.cell? ⟨g4,0,none⟩=some (.int .i64 app):=(H5.out.2.1.on h).cell 0;clear h)
    | ((with_reducible refine zah (i:=6) ?_);go_must (refine zaf rfl 27 (.tmp 6) _ rfl g6 (plV 0 0) (plV _ _) rfl rfl H8.out.2 rfl (pl_one _ _) zam ?_);intro w9 hw hr;have H9:=Lib.hid (show Below w.heap.size w w9∧RowV w9 g6 (plV _ _) from ⟨Wr.bl H8.out.1 hw H4.out.2.2.2.2.1,hr⟩);clear hw hr))
   exact bodyPost_ret (zau rfl _ _ g6 (plV app Z) _ rfl H9.out.2 Try.underlying27 rfl zam) rfl ⟨rfl,H9.out.1⟩
set_option maxHeartbeats 3200000 in
theorem p_id17 (G : Gw) (app file n : Int) (w : World) (hs : SeesW w (· < w.heap.size) G) :
 Calls Try.prog 29 #[.agg G.cs.toArray,.agg (plV app file).toArray,.int .i64 n] w (FndIs w G app file (idB n)):=by
 have HF:=Lib.hid (fun g u (hb:Below w.heap.size w u) (hr:RowV u g [.int .i64 n])=>p_findI (idB n) g G app file u (hs.on hb) fun z u' hb2=>p_idc n z g u' (hr.on hb2))
 obtain ⟨us,hus⟩ : ∃us,G.cs=us:=⟨_,rfl⟩
 have h2:us.length=2:=by rw [←hus];rfl
 obtain ⟨FE,hFE⟩ : ∃v,fndE G app file (idB n)=v:=⟨_,rfl⟩
 obtain ⟨P1,hP1⟩ : ∃v,(fndP G app file (idB n)).1=v:=⟨_,rfl⟩
 obtain ⟨P2,hP2⟩ : ∃v,(fndP G app file (idB n)).2=v:=⟨_,rfl⟩
 unfold FndIs at HF ⊢
 rw [hFE,hP1,hP2] at HF ⊢
 rw [hus] at HF ⊢
 have HB:=Lib.hid (Below.refl w.heap.size w)
 have H2:=Lib.hid h2
 clear hs hus h2 hFE hP1 hP2
 go_enter Try.func29,Try.ntmps29
 go_wp2_with (first
  | ((with_reducible refine zag (d:=3) ?_);refine zaa (op:=⟨some 3,_,_,_,_,_⟩) rfl 25 _ rfl us rfl ?_;intro g3 w1 hf hr;have H1:=Lib.hid (show Below w.heap.size w w1∧RowV w1 g3 us from ⟨hf.bl HB.out,hr⟩);clear hf hr)
  | ((with_reducible refine zag (d:=4) ?_);refine zaa (op:=⟨some 4,_,_,_,_,_⟩) rfl 27 _ rfl (plV app file) rfl ?_;intro g4 w2 hf hr;have H3:=Lib.hid (show Below w.heap.size w w2∧RowV w2 g3 us∧RowV w2 g4 (plV app file) from ⟨hf.bl H1.out.1,H1.out.2.fresh hf,hr⟩);clear hf hr)
  | ((with_reducible refine zag (d:=5) ?_);refine wpList_box_c (op:=⟨some 5,_,_,_,_,_⟩) rfl 3 _ rfl (.int .i64 n) rfl rfl ?_;intro g5 w2b hf hr;have H3B:=Lib.hid (show Below w.heap.size w w2b∧RowV w2b g3 us∧RowV w2b g4 (plV app file)∧RowV w2b g5 [.int .i64 n] from ⟨hf.bl H3.out.1,H3.out.2.1.fresh hf,H3.out.2.2.fresh hf,hr⟩);clear hf hr)
  | ((with_reducible refine zaj (d:=6) ?_);refine zae (op:=⟨some 6,_,_,_,_,_⟩) rfl 27 rfl (plV 0 0) zbf ?_;intro g6 w3 hf hr;have H4:=Lib.hid (show Below w.heap.size w w3∧RowV w3 g3 us∧RowV w3 g4 (plV app file)∧RowV w3 g5 [.int .i64 n]∧RowV w3 g6 (plV 0 0)∧w.heap.size≤g6 from ⟨hf.bl H3B.out.1,H3B.out.2.1.fresh hf,H3B.out.2.2.1.fresh hf,H3B.out.2.2.2.fresh hf,hr,hf.ge H3B.out.1⟩);clear hf hr)
  | ((with_reducible refine zac (d:=8) ?_);refine zab rfl 25 (.tmp 3) rfl g3 rfl us _ H4.out.2.1 Try.underlying25 rfl (by rw [H2.out];exact zas) ?_)
  | ((with_reducible refine zac (d:=9) ?_);refine zab rfl 27 (.tmp 4) rfl g4 rfl (plV app file) _ H4.out.2.2.1 Try.underlying27 rfl zam ?_)
  | (go_at_call 44;((with_reducible refine (HF.out g5 _ H4.out.1 H4.out.2.2.2.1).mono ?_);rintro e w5 ⟨rfl,h⟩);have H5:=Lib.hid (show Below w.heap.size w w5∧RowV w5 g6 (plV 0 0) from ⟨zad H4.out.1 h,H4.out.2.2.2.2.1.on h⟩);clear h)
  | ((with_reducible refine zah (i:=6) ?_);go_must (refine zaf rfl 27 (.tmp 6) _ rfl g6 (plV 0 0) (plV P1 P2) rfl rfl H5.out.2 rfl (pl_one _ _) zam ?_);intro w9 hw hr;have H9:=Lib.hid (show Below w.heap.size w w9∧RowV w9 g6 (plV P1 P2) from ⟨Wr.bl H5.out.1 hw H4.out.2.2.2.2.2,hr⟩);clear hw hr))
 exact bodyPost_ret (zau rfl _ _ g6 (plV P1 P2) _ rfl H9.out.2 Try.underlying27 rfl zam) rfl ⟨rfl,H9.out.1⟩
end Go.Proofs.Ytkdlfbggddllhaa
