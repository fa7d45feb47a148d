/-
  What is proved here: the makers' Details.
-/
import Derived.Test.YtnlhbknajdpnbaaGreatDoorF20
import Derived.Test.YtnlhbknajdpnbaaGreatDoorF16
import Derived.Test.YtnlhbknajdpnbaaGreatDoorF21
set_option linter.unusedVariables false
set_option linter.unusedSimpArgs false
namespace Go.Proofs.YtnlhbknajdpnbaaGreatDoor
open Go.RowKit
set_option maxRecDepth 8000
def StepI (I : (Nat → Bool) → World → Prop) (X : Nat → Value → World → Prop) (S : Nat → Bool) (v : Nat → Value) (a : Act) (o : Oper) (i : Nat) (a' : Act) (w' : World) : Prop :=
 ∃u,a'=a.put o.dst u∧X i u w'∧I (fun j=>S j || j==i) w'∧∀j,S j=true→X j (v j) w'
theorem zgR {P : Program} {ops : Array Oper} {Q : Exit → Act → World → Prop} {id : Nat} {w : World} (hm : P.follows .mixedOrders = true) (a0 : Act) (I : (Nat → Bool) → World → Prop) (X : Nat → Value → World → Prop) (hB : zfL ops a0.tmps.size = true) (hD : ∀ c c', I (fun _ => false) c → Below c.heap.size c c' → I (fun _ => false) c') (h1 : I (fun _ => false) w)
 (hstep : ∀ (i : Nat) (o : Oper), ops[i]? = some o → ∀ (v : Nat → Value) (S : Nat → Bool) (c : World) (a : Act), I S c → (∀ j, S j = true → X j (v j) c) → S i = false → (∀ e ∈ o.after, Region.binds .any e = true → S e.on = true) → SlotsIn ops a0 S v a → zez ops S →
  o.wp P a c (StepI I X S v a o i) Q)
 (hend:∀(v:Nat→Value) (c:World) (S:Nat→Bool),(∀j,j < ops.size→S j=true)→I S c→(∀j,j < ops.size→X j (v j) c)→Q .normal (zbz v 0 ops.toList a0) c):(Code.region id ops true).wp P Q a0 w:=by
 refine zdw hm a0 (fun v=>v) (fun v S c=>I S c∧∀j,S j=true→X j (v j) c) hB (fun _=>undef) ⟨hD _ _ h1 (zbS _ _ 1),fun j h=>by cases h⟩ ?_ (fun v c S hall hW=>hend v c S hall hW.1 fun j hj=>hW.2 j (hall j hj))
 intro i o ho v S c a hW hSi hdep hS hC
 refine Oper.wp_mono ?_ (hstep i o ho v S c a hW.1 hW.2 hSi hdep hS hC)
 rintro a' w' ⟨u,e,h2,h3,h4⟩
 refine ⟨fun j=>if j=i then u else v j,fun j hj=>?_,by simpa using e,h3,fun j hj=>?_⟩
 · have : j ≠ i := by rintro rfl; rw [hSi] at hj; cases hj
   simp [this]
 · by_cases hji : j = i
   · subst hji;simpa using h2
   · have hSj : S j = true := by simpa [hji] using hj
     simp only [hji,if_false]
     exact h4 j hSj
theorem or_false {S : Nat → Bool} {j i : Nat} (h : (S j || j == i) = false) : S j = false := by
 rcases hq:S j with _ | _
 · rfl
 · rw [hq] at h;cases h
theorem or_at {S : Nat → Bool} {i : Nat} (h : (S i || i == i) = false) : False := by
 rw [show (i==i)=true by simp,Bool.or_true] at h
 cases h
theorem Dcs_app : ∀ (K L : List Dtl), Dcs (K ++ L) = Dcs K ++ Dcs L
 | [],_=>rfl
 | d::r,L=>by simp only [List.cons_append,Dcs,Dcs_app r L]
theorem Dcs_one : ∀ L : List Dtl, ∀ u ∈ Dcs L, u.oneCell' = true
 | [],u,h=>by cases h
 | d :: r, u, h => by
   simp only [Dcs,List.mem_cons] at h
   rcases h with rfl | rfl | h
   · rfl
   · rfl
   · exact Dcs_one r u h
theorem info_dt:(Tryz.prog.info? 88).map (fun i=>(i.zero,i.size,i.bytes))=some (some (.agg #[.int .i64 0,.string ⟨#[]⟩]),2,24):=by kernel_rfl
theorem size_dt:(Tryz.prog.info? 88).map (·.size)=some 2:=by kernel_rfl
theorem bld_dt (t:Int) (s:ByteArray):Tryz.prog.built 88 [(0,.int .i64 t),(1,.string s)]=some #[.int .i64 t,.string s]:=by kernel_rfl
theorem bs_dt (u1 u2:Value):Tryz.prog.builtSlice 88 1 [(0,.agg #[u1,u2])]=some ([u1,u2]:List Value).toArray:=by kernel_rfl
theorem pvv8 {a:Act} {x0 x1 x2 x3 x4 x5 x6 x7:Operand} {u0 u1 u2 u3 u4 u5 u6 u7:Value} (h0:a.eval x0=u0) (h1:a.eval x1=u1) (h2:a.eval x2=u2) (h3:a.eval x3=u3) (h4:a.eval x4=u4) (h5:a.eval x5=u5) (h6:a.eval x6=u6) (h7:a.eval x7=u7):((#[(0,x0),(1,x1),(2,x2),(3,x3),(4,x4),(5,x5),(6,x6),(7,x7)]:Array (Nat×Operand)).map fun (i,x)=>(i,a.eval x)).toList=[(0,u0),(1,u1),(2,u2),(3,u3),(4,u4),(5,u5),(6,u6),(7,u7)]:=by simp [h0,h1,h2,h3,h4,h5,h6,h7]
def tagsA:List Int:=[24334,24336,24337,24386,24338,24339,24340,24341]
def tagsB:List Int:=[24345,24358,24347,24405]
theorem bs_tA:Tryz.prog.builtSlice 3 8 [(0,.int .i64 24334),(1,.int .i64 24336),(2,.int .i64 24337),(3,.int .i64 24386),(4,.int .i64 24338),(5,.int .i64 24339),(6,.int .i64 24340),(7,.int .i64 24341)]=some (tagsA.map (Value.int .i64)).toArray:=by kernel_rfl
theorem bs_tB:Tryz.prog.builtSlice 3 4 [(0,.int .i64 24345),(1,.int .i64 24358),(2,.int .i64 24347),(3,.int .i64 24405)]=some (tagsB.map (Value.int .i64)).toArray:=by kernel_rfl
def DtsIs (w:World) (D:Nat) (e:Ending) (w':World):Prop:=∃v L,e=.returned v∧L.length≤8∧(∀d∈L,(24334≤d.1∧d.1≤24405)∧d.2.length≤99)∧w'.ownsRow w.heap.size 88 2 v L.length (Dcs L)∧w.grownBy w' (some D)∧DiceOk w' D
theorem ix_i15 (g n k : Nat) (hk : k < n) (w : World) : (Instr.indexAt 22 (.slice (some ⟨g, 0, none⟩) n n) (.int .i64 (k : Int))).run Tryz.prog w = .ok (.pointer (some ⟨g, k, none⟩)) w := by
 have h0:(k:Int) < (n:Int):=by omega
 have h1:(0:Int)≤(k:Int):=by omega
 simp [go_sem,Addr.add,h0,h1]
 intro h;exact h.symm
theorem ix_d15 (g n c k : Nat) (hk : k < n) (w : World) : (Instr.indexAt 52 (.slice (some ⟨g, 0, none⟩) n c) (.int .i64 (k : Int))).run Tryz.prog w = .ok (.pointer (some ⟨g, k * 2, none⟩)) w := by
 have h0:(k:Int) < (n:Int):=by omega
 have h1:(0:Int)≤(k:Int):=by omega
 have e:Tryz.prog.cellsOf 88=2:=by kernel_rfl
 simp [go_sem,Addr.add,h0,h1,e]
 intro h;exact h.symm
theorem own_form15 {w : World} {base : Nat} {e : TypeId} {size : Nat} {v : Value} {n : Nat} {xs : List Value} (h : w.ownsRow base e size v n xs) : ∃ A c, v = .slice A n c := by
 rcases h.2 with ⟨rfl,rfl⟩ | ⟨g,cap,_,rfl,_⟩
 · exact ⟨none,0,rfl⟩
 · exact ⟨_,cap,rfl⟩
theorem own_some15 {w : World} {base : Nat} {e : TypeId} {size : Nat} {v : Value} {n : Nat} {xs : List Value} (h : w.ownsRow base e size v n xs) (hn : 0 < n) : ∃ g c, v = .slice (some ⟨g, 0, none⟩) n c ∧ base ≤ g := by
 rcases h.2 with ⟨rfl,rfl⟩ | ⟨g,cap,_,rfl,hb,_⟩
 · omega
 · exact ⟨g,cap,rfl,hb⟩
theorem zfy {w : World} {base g n cap : Nat} {e : TypeId} {size : Nat} {xs : List Value} (h : w.ownsRow base e size (.slice (some ⟨g, 0, none⟩) n cap) n xs) : base ≤ g ∧ ∃ cur : Array Value, w.heap[g]? = some (.cells cur e (0, 0)) ∧ n ≤ cap ∧ cap ≤ maxLen ∧ cur.size = cap * size ∧ cur.toList.take (n * size) = xs := by
 rcases h.2 with ⟨h1,_⟩ | ⟨g',cap',cur,h1,hb,hh,h2,h3,h4,h5⟩
 · cases h1
 · injection h1 with h1 h6 h7
   injection h1 with h1
   injection h1 with h1
   subst h1 h7
   exact ⟨hb,cur,hh,h2,h3,h4,h5⟩
theorem own_cell15 {w : World} {base g n cap : Nat} {e : TypeId} {size : Nat} {xs : List Value} (h : w.ownsRow base e size (.slice (some ⟨g, 0, none⟩) n cap) n xs) (i : Nat) (hi : i < xs.length) : w.cell? ⟨g, i, none⟩ = xs[i]? := by
 obtain ⟨_,cur,hh,_,_,_,ht⟩:=zfy h
 have hl:=h.1
 rw [cell_of_row w g i cur _ (0,0) hh,←ht,List.getElem?_take,if_pos (by omega),Array.getElem?_toList]
theorem o_stO {P : Program} {a : Act} {w : World} {K : Act → World → Prop} {Q : Exit → Act → World → Prop} {o : Oper} (ty : TypeId) (x y : Operand) (ho : o.op = .store ty x y) {base g n cap i : Nat} {e : TypeId} {size : Nat} {xs us : List Value}
 (hx:a.eval x=.pointer (some ⟨g,i,none⟩)) (hy:a.eval y=.agg us.toArray) (h:w.ownsRow base e size (.slice (some ⟨g,0,none⟩) n cap) n xs) (hl:i+us.length≤xs.length) (h1:∀u∈us,u.oneCell'=true) (hi:(P.info? ty).map (·.size)=some us.length)
 (hK:∀w',Wr w w' g→w'.ownsRow base e size (.slice (some ⟨g,0,none⟩) n cap) n (xs.take i++us++xs.drop (i+us.length))→K (a.put o.dst undef) w'):o.wp P a w K Q:=by
 obtain ⟨hb,cur,hh,h2,h3,h4,h5⟩:=zfy h
 have hxl:=h.1
 have hm:n*size≤cap*size:=Nat.mul_le_mul_right _ h2
 have hst:=run_storeCells_at P g i e us 0 cur w hh (by omega) h1
 have hr : (storeVar ty ⟨g, i, none⟩ (.agg us.toArray)).run P w = .ok () (w.setRow g (cur.toList.take i ++ us ++ cur.toList.drop (i + us.length)).toArray) := by
  cases hq:P.info? ty with
  | none=>simp [hq] at hi
  | some i0 =>
    have hs:i0.size=us.length:=by simpa [hq] using hi
    simp only [Nat.add_zero] at hst
    simp [storeVar,sizeOf,typeInfo,hq,Value.cells,hs,hst]
 unfold Oper.wp execOp
 simp only [ho,hx,hy,Instr.storeAt,Instr.sureAddr,Sem.run_bind,Sem.run_pure,Result.andThen_ok,hr]
 refine hK _ (Wr.row _ _ _) ⟨by simp only [List.length_append,List.length_take,List.length_drop];omega,.inr ⟨g,cap,_,rfl,hb,setRow_heap w g _ _ e (0,0) hh,h2,h3,?_,?_⟩⟩
 · simp only [List.size_toArray, List.length_append, List.length_take, List.length_drop, Array.length_toList]
   omega
 · have hcl : cur.toList.length = cap * size := by rw [Array.length_toList]; exact h4
   rw [←h5]
   rw [List.take_append,List.take_append,List.take_take,List.take_take,List.drop_take]
   simp only [List.length_append,List.length_take,hcl]
   rw [show min (n*size) i=i by omega,show min i (n*size)=i by omega,show n*size - min i (cap*size)=n*size - i by omega]
   rw [List.take_of_length_le (l:=us) (by omega)]
   rw [show n*size - (min i (cap*size)+us.length)=n*size - (i+us.length) by omega]
theorem ix_d1 (g n c:Nat) (hk:1 < n) (w:World):(Instr.indexAt 52 (.slice (some ⟨g,0,none⟩) n c) (.int .i64 1)).run Tryz.prog w=.ok (.pointer (some ⟨g,2,none⟩)) w:=ix_d15 g n c 1 hk w
theorem ix_d0 (g n c:Nat) (hk:0 < n) (w:World):(Instr.indexAt 52 (.slice (some ⟨g,0,none⟩) n c) (.int .i64 0)).run Tryz.prog w=.ok (.pointer (some ⟨g,0,none⟩)) w:=ix_d15 g n c 0 hk w
def RowD (w0 c:World) (g n cap:Nat) (L:List Dtl):Prop:=c.ownsRow w0.heap.size 88 2 (.slice (some ⟨g,0,none⟩) n cap) n (Dcs L)
theorem RowD.range {w0 c : World} {g n cap : Nat} {L : List Dtl} (h : RowD w0 c g n cap L) {j : Nat} {d : Dtl} (hd : L[j]? = some d) : c.rangeAt g (j * 2) [.int .i64 d.1, .string (S d.2)] := by
 obtain ⟨e1,e2⟩:=Dcs_at hd
 have hj:=(List.getElem?_eq_some_iff.1 hd).1
 have hl:=zfG L
 intro i u hu
 have hi:i < 2:=(List.getElem?_eq_some_iff.1 hu).1
 rw [own_cell15 h _ (by omega),←hu]
 obtain rfl | rfl:i=0∨i=1:=by omega
 · exact e1
 · exact e2
theorem zbQ {S:Nat→Bool} {j i:Nat} (h:(S j || j==i)=true) (hne:(j==i)=false):S j=true:=by rwa [hne,Bool.or_false] at h
theorem not_dep {ops : Array Oper} {S : Nat → Bool} (hC : zez ops S) {i j : Nat} (hSi : S i = false) {oj : Oper} (e : Edge) (hj : ops[j]? = some oj) (he : e ∈ oj.after) (hb : Region.binds .any e = true) (hon : e.on = i) : S j = false := by
 rcases hq:S j with _ | _
 · rfl
 · have := hC j oj hj hq e he hb
   rw [hon,hSi] at this
   cases this
theorem o_ldm15D {P : Program} {a : Act} {w : World} {K : Act → World → Prop} {Q : Exit → Act → World → Prop} {o : Oper} (ty : TypeId) (x : Operand) (ho : o.op = .load ty x) (g k : Nat) (hx : a.eval x = .pointer (some ⟨g, k, none⟩)) (vs : List Value) (d : TypeDesc)
 (h:w.rangeAt g k vs) (hu:P.underlying ty=some d) (hd:d.isRow=true) (hi:(P.info? ty).map (·.size)=some vs.length) (hK:K (a.put o.dst (.agg vs.toArray)) w):o.wp P a w K Q :=
 wp_load_mid ty x ho g k hx vs d h hu hd hi hK
set_option maxHeartbeats 12800000 in
set_option maxRecDepth 20000 in
theorem zeU (D : Nat) (n : Int) (hn : n = 11 ∨ n = 12) (w : World) (h : DiceOk w D) : Calls Tryz.prog 20 #[.pointer (some ⟨D, 0, none⟩), .int .i64 n] w (DtsIs w D) := by
 obtain ⟨i0,ni,nz0,nz1,nz2⟩:=info_parts info_dt
 have HD:=Lib.hid h
 have HDw:=Lib.hid h.lt
 have HN:=Lib.hid hn
 have HON:=Lib.hid (show ∀w,DiceOk w D→Calls Tryz.prog 41 #[.pointer (some ⟨D,0,none⟩),.int .i64 2] w (OneIs w D) from fun w h=>zeg D 2 w (by decide) (by decide) h)
 clear h hn
 go_enter Tryz.func20,Tryz.ntmps20
 go_upto_if 10 with (first
  | ((with_reducible refine zal (d:=8) ?_);go_must (refine zap rfl 22 3 8 _ rfl Tryz.underlying22 (pvv8 rfl rfl rfl rfl rfl rfl rfl rfl) bs_tA ?_);intro g1 w1 hf hr;have H1:=Lib.hid (show Below w.heap.size w w1∧RowV w1 g1 (tagsA.map (Value.int .i64))∧w.heap.size≤g1 from ⟨hf.bw,hr,Nat.le_of_eq hf.1.symm⟩);clear hf hr))
 go_cut [5] from 8 to 47 (fun v5 wx=>∃(g nt:Nat) (tl:List Int),v5=.slice (some ⟨g,0,none⟩) nt nt∧nt≤8∧Hid (tl.length=nt∧(∀t∈tl,24334≤t∧t≤24405)∧RowV wx g (tl.map (Value.int .i64))∧w.heap.size≤g∧Below w.heap.size w wx))
 case first =>
  rcases HN.out with rfl | rfl
  · go_wp2_with fail
    go_meet
    exact ⟨g1,8,tagsA,rfl,by decide,Lib.hid ⟨rfl,by decide,H1.out.2.1,H1.out.2.2,H1.out.1⟩⟩
  · go_wp2_with (first
     | ((with_reducible refine zal (d:=11) ?_);go_must (refine zap rfl 22 3 4 _ rfl Tryz.underlying22 (pvv4 rfl rfl rfl rfl) bs_tB ?_);intro g2 w2 hf hr;have H2:=Lib.hid (show Below w.heap.size w w2∧RowV w2 g2 (tagsB.map (Value.int .i64))∧w.heap.size≤g2 from ⟨zaf H1.out.1 hf.bw,hr,Nat.le_trans H1.out.1.size (Nat.le_of_eq hf.1.symm)⟩);clear hf hr))
    go_meet
    exact ⟨g2,4,tagsB,rfl,by decide,Lib.hid ⟨rfl,by decide,H2.out.2.1,H2.out.2.2,H2.out.1⟩⟩
 case rest =>
 obtain ⟨g5,nt,tl,rfl,hnt,HCX⟩:=hcut
 have HC5:=Lib.hid (show g5≠D from by have:=HCX.out.2.2.2.1;have:=HDw.out;omega)
 try clear H1
 go_wp2_with fail
 go_loopw [6,7] (fun v6 i wr=>∃(j:Nat),j≤nt∧i=.int .i64 (j:Int)∧Hid (∃L,L.length≤j∧(∀d∈L,(24334≤d.1∧d.1≤24405)∧d.2.length≤99)∧wr.ownsRow w.heap.size 88 2 v6 L.length (Dcs L)∧w.grownBy wr (some D)∧DiceOk wr D∧RowV wr g5 (tl.map (Value.int .i64))∧v6.ownBlock≠some g5)) (fun _ i _=>nt - (intOf i).toNat)
 case atStart=>exact ⟨0,by omega,rfl,Lib.hid ⟨[],by simp,fun d hd=>(by cases hd),⟨rfl,.inl ⟨rfl,rfl⟩⟩,zaD HCX.out.2.2.2.2,HD.out.below HCX.out.2.2.2.2,HCX.out.2.2.1,fun e=>by cases e⟩⟩
 case round =>
  obtain ⟨j,hj,rfl,HRx⟩:=hrel
  obtain ⟨L,hR⟩:=HRx.out
  have HR:=Lib.hid hR
  clear HRx hR
  obtain ⟨jl,hjl⟩ : ∃z,L.length=z:=⟨_,rfl⟩
  have HJL:=Lib.hid hjl
  have hjlb:jl≤8:=by have h:=HR.out.1;omega
  clear hjl
  by_cases hlt:j < nt
  · have dj : decide ((j : Int) < (nt : Int)) = true := by simp; omega
    obtain ⟨tg,htg⟩ : ∃t,tl[j]? = some t:=⟨_,List.getElem?_eq_getElem (by rw [HCX.out.1];exact hlt)⟩
    have HTG:=Lib.hid (show (tl.map (Value.int .i64))[j]? = some (.int .i64 tg)∧24334≤tg∧tg≤24405 from ⟨by rw [List.getElem?_map,htg];rfl,HCX.out.2.1 tg (List.mem_of_getElem? htg)⟩)
    clear htg
    go_wp2_with fail
    refine (HON.out _ HR.out.2.2.2.2.1).mono ?_
    rintro e w1 ⟨q1,rfl,hg,hd⟩
    have hown:=HR.out.2.2.1
    rw [HJL.out] at hown
    have H1:=Lib.hid (show w.grownBy w1 (some D)∧DiceOk w1 D∧RowV w1 g5 (tl.map (Value.int .i64))∧wr.heap.size≤w1.heap.size∧w1.ownsRow w.heap.size 88 2 u6 jl (Dcs L) from ⟨zae HR.out.2.2.2.1 hg,hd,HR.out.2.2.2.2.2.1.dice hg HC5.out,hg.size,zbm hown hg (fun e=>by have:=(zas hown D e).1;have:=HDw.out;omega)⟩)
    have HNE:=Lib.hid HR.out.2.2.2.2.2.2
    have HV6:=Lib.hid (show u6.ownBlock≠some D∧u6.ownBlock≠some g5∧D < w.heap.size from ⟨fun e=>by have:=(zas hown D e).1;have:=HDw.out;omega,HNE.out,HDw.out⟩)
    have HV6L:=Lib.hid (show ∀k,u6.ownBlock=some k→k < wr.heap.size from fun k e=>(zas hown k e).2)
    have HGW:=Lib.hid HR.out.2.2.2.1.size
    clear hg hd hown
    rcases q1 with _ | _
    · go_wp2_with fail
      go_roundw
      case rel=>exact ⟨j+1,by omega,by first | rfl | go_num,Lib.hid ⟨L,by have:=HR.out.1;omega,HR.out.2.1,by rw [HJL.out];exact H1.out.2.2.2.2,H1.out.1,H1.out.2.1,H1.out.2.2.1,HNE.out⟩⟩
      case measure=>simp [intOf];omega
    · go_wp2_with fail
      refine zgR (by kernel_rfl) _ (fun Sd c=>w.grownBy c (some D)∧DiceOk c D∧RowV c g5 (tl.map (Value.int .i64))∧wr.heap.size≤c.heap.size∧(Sd 9=false→c.ownsRow w.heap.size 88 2 u6 jl (Dcs L))) (zef [fun u _=>u=u6,fun u _=>u=.slice (some ⟨g5,0,none⟩) nt nt,fun u _=>u=.int .i64 (j:Int),fun u _=>u=.pointer (some ⟨g5,j,none⟩),fun u _=>u=.int .i64 tg,fun u _=>u=.pointer (some ⟨D,0,none⟩),fun u _=>∃s:List UInt8,s.length≤99∧u=.string (S s),fun u _=>∃s:List UInt8,s.length≤99∧u=.agg #[.int .i64 tg,.string (S s)],fun u c=>∃(s:List UInt8) (g:Nat),s.length≤99∧u=.slice (some ⟨g,0,none⟩) 1 1∧RowV c g [.int .i64 tg,.string (S s)]∧wr.heap.size≤g,fun u c=>∃(s:List UInt8) (g cp:Nat),s.length≤99∧u=.slice (some ⟨g,0,none⟩) (jl+1) cp∧c.ownsRow w.heap.size 88 2 (.slice (some ⟨g,0,none⟩) (jl+1) cp) (jl+1) (Dcs L++[.int .i64 tg,.string (S s)])∧g≠g5,fun u c=>∃(s:List UInt8) (g cp:Nat),s.length≤99∧u=.slice (some ⟨g,0,none⟩) (jl+1) cp∧c.ownsRow w.heap.size 88 2 (.slice (some ⟨g,0,none⟩) (jl+1) cp) (jl+1) (Dcs L++[.int .i64 tg,.string (S s)])∧g≠g5]) (by kernel_rfl) (fun c c2 h B=>⟨h.1.on B,h.2.1.below B,h.2.2.1.on B,Nat.le_trans h.2.2.2.1 B.size,fun x=>zaI (h.2.2.2.2 x) B⟩) ⟨H1.out.1,H1.out.2.1,H1.out.2.2.1,H1.out.2.2.2.1,fun _=>H1.out.2.2.2.2⟩ ?_ ?_
      · refine zch (allI.cons ?_ (allI.cons ?_ (allI.cons ?_ (allI.cons ?_ (allI.cons ?_ (allI.cons ?_ (allI.cons ?_ (allI.cons ?_ (allI.cons ?_ (allI.cons ?_ (allI.cons ?_ allI.nil))))))))))) <;> intro v Sd c a hI hX hSi hdep hS hC
        · exact o_mv (.tmp 6) rfl (hS.before hC hSi 6 rfl) ⟨_,rfl,rfl,⟨hI.1,hI.2.1,hI.2.2.1,hI.2.2.2.1,fun h=>hI.2.2.2.2 (or_false h)⟩,hX⟩
        · exact o_mv (.tmp 5) rfl (hS.old 5 rfl) ⟨_,rfl,rfl,⟨hI.1,hI.2.1,hI.2.2.1,hI.2.2.2.1,fun h=>hI.2.2.2.2 (or_false h)⟩,hX⟩
        · exact o_mv (.tmp 7) rfl (hS.old 7 rfl) ⟨_,rfl,rfl,⟨hI.1,hI.2.1,hI.2.2.1,hI.2.2.2.1,fun h=>hI.2.2.2.2 (or_false h)⟩,hX⟩
        · exact o_ix 22 (.tmp 21) (.tmp 22) rfl ((hS.get 1 (zad hdep 1 rfl) rfl rfl).trans (hX 1 (zad hdep 1 rfl))) ((hS.get 2 (zad hdep 2 rfl) rfl rfl).trans (hX 2 (zad hdep 2 rfl))) (ix_i15 g5 nt j hlt _) ⟨_,rfl,rfl,⟨hI.1,hI.2.1,hI.2.2.1,hI.2.2.2.1,fun h=>hI.2.2.2.2 (or_false h)⟩,hX⟩
        · exact o_ld _ (.tmp 23) rfl ((hS.get 3 (zad hdep 3 rfl) rfl rfl).trans (hX 3 (zad hdep 3 rfl))) ((hI.2.2.1.cell j).trans HTG.out.1) ag_i ⟨_,rfl,rfl,⟨hI.1,hI.2.1,hI.2.2.1,hI.2.2.2.1,fun h=>hI.2.2.2.2 (or_false h)⟩,hX⟩
        · exact o_mv (.tmp 0) rfl (hS.old 0 rfl) ⟨_,rfl,rfl,⟨hI.1,hI.2.1,hI.2.2.1,hI.2.2.2.1,fun h=>hI.2.2.2.2 (or_false h)⟩,hX⟩
        · refine zaR (.func 42) 42 #[.tmp 25, .const (.int .i64 99)] _ rfl rfl (ev2 ((hS.get 5 (zad hdep 5 rfl) rfl rfl).trans (hX 5 (zad hdep 5 rfl))) rfl) (by kernel_rfl) (zgu D 99 c (by decide) (by decide) hI.2.1) (fun e w9 h => ?_)
          obtain ⟨x,rfl,_,hx,_,hg,hd⟩:=h
          refine ⟨_,rfl,_,rfl,⟨x,hx,rfl⟩,⟨zae hI.1 hg,hd,hI.2.2.1.dice hg HC5.out,Nat.le_trans hI.2.2.2.1 hg.size,fun h=>zbm (hI.2.2.2.2 (or_false h)) hg HV6.out.1⟩,fun j hj=>?_⟩
          match j,hj with
          | 0,hj=>exact hX 0 hj
          | 1,hj=>exact hX 1 hj
          | 2,hj=>exact hX 2 hj
          | 3,hj=>exact hX 3 hj
          | 4,hj=>exact hX 4 hj
          | 5,hj=>exact hX 5 hj
          | 6,hj=>exact hX 6 hj
          | 7,hj=>exact hX 7 hj
          | 8, hj =>
           obtain ⟨s,g,h1,h2,h3,h4⟩:=hX 8 hj
           exact ⟨s,g,h1,h2,h3.dice hg (by have:=HGW.out;have:=HDw.out;omega),h4⟩
          | 9, hj =>
           obtain ⟨s,g,cp,h1,h2,h3⟩:=hX 9 hj
           exact ⟨s,g,cp,h1,h2,zbm h3.1 hg (fun e=>by have:=(zas h3.1 D e).1;have:=HV6.out.2.2;omega),h3.2⟩
          | 10, hj =>
           obtain ⟨s,g,cp,h1,h2,h3⟩:=hX 10 hj
           exact ⟨s,g,cp,h1,h2,zbm h3.1 hg (fun e=>by have:=(zas h3.1 D e).1;have:=HV6.out.2.2;omega),h3.2⟩
          | _+11,_=>trivial
        · obtain ⟨s, h1, e6⟩ := (hX 6 (zad hdep 6 rfl))
          refine o_bld 88 _ rfl (pvv2 ((hS.get 4 (zad hdep 4 rfl) rfl rfl).trans (hX 4 (zad hdep 4 rfl))) ((hS.get 6 (zad hdep 6 rfl) rfl rfl).trans e6)) (vs:=[.int .i64 tg,.string (S s)]) (bld_dt tg (S s)) ?_
          exact ⟨_,rfl,⟨s,h1,rfl⟩,⟨hI.1,hI.2.1,hI.2.2.1,hI.2.2.2.1,fun h=>hI.2.2.2.2 (or_false h)⟩,hX⟩
        · obtain ⟨s, h1, e7⟩ := (hX 7 (zad hdep 7 rfl))
          refine zeI 52 88 1 _ rfl Tryz.underlying52 (pe1 ((hS.get 7 (zad hdep 7 rfl) rfl rfl).trans e7)) (bs_dt _ _) (fun g w9 hf hr=>?_)
          refine ⟨_,rfl,⟨s,g,h1,rfl,hr,Nat.le_trans hI.2.2.2.1 (Nat.le_of_eq hf.1.symm)⟩,⟨hI.1.on hf.bw,hI.2.1.below hf.bw,hI.2.2.1.on hf.bw,Nat.le_trans hI.2.2.2.1 hf.bw.size,fun h=>zaI (hI.2.2.2.2 (or_false h)) hf.bw⟩,fun j hj=>?_⟩
          match j,hj with
          | 0,hj=>exact hX 0 hj
          | 1,hj=>exact hX 1 hj
          | 2,hj=>exact hX 2 hj
          | 3,hj=>exact hX 3 hj
          | 4,hj=>exact hX 4 hj
          | 5,hj=>exact hX 5 hj
          | 6,hj=>exact hX 6 hj
          | 7,hj=>exact hX 7 hj
          | 8,hj=>rw [hSi] at hj;cases hj
          | 9, hj =>
           obtain ⟨s2,g2,cp,k1,k2,k3⟩:=hX 9 hj
           exact ⟨s2,g2,cp,k1,k2,zaI k3.1 hf.bw,k3.2⟩
          | 10, hj =>
           obtain ⟨s2,g2,cp,k1,k2,k3⟩:=hX 10 hj
           exact ⟨s2,g2,cp,k1,k2,zaI k3.1 hf.bw,k3.2⟩
          | _+11,_=>trivial
        · obtain ⟨s, g, h1, e8, h3, h4⟩ := (hX 8 (zad hdep 8 rfl))
          have hrow:=hI.2.2.2.2 hSi
          refine wp_append_lies _ (.tmp 20) (.tmp 28) 52 rfl w.heap.size 88 i0 _ 2 24 Tryz.underlying52 ni nz0 nz1 nz2 rfl (by decide) u6 jl (Dcs L) ((hS.get 0 (zad hdep 0 rfl) rfl rfl).trans (hX 0 (zad hdep 0 rfl))) hrow ⟨g,0,none⟩ 1 1 [.int .i64 tg,.string (S s)] ((hS.get 8 (zad hdep 8 rfl) rfl rfl).trans e8) rfl h3.src (Dcs_one [(tg,s)]) (by decide) (by unfold maxLen;omega) (by omega) (Nat.le_trans HGW.out hI.2.2.2.1) _ rfl ?_
          intro g9 c9 w9 ho hg hl hlt9
          refine ⟨_,rfl,⟨s,g9,c9,h1,rfl,ho,fun e=>hl.elim (fun h=>HV6.out.2.1 (by rw [h,e])) (fun h=>by have:=hI.2.2.1.lt;omega)⟩,⟨zaF hI.1 hg (fun k e=>(zas hrow k e).1),hI.2.1.grown hg (fun k e=>by have:=(zas hrow k e).1;have:=HV6.out.2.2;omega),hI.2.2.1.same (hg.block _ hI.2.2.1.lt (fun e=>HV6.out.2.1 e.symm)),Nat.le_trans hI.2.2.2.1 hg.size,fun h=>(or_at h).elim⟩,fun j hj=>?_⟩
          match j,hj with
          | 0,hj=>exact hX 0 hj
          | 1,hj=>exact hX 1 hj
          | 2,hj=>exact hX 2 hj
          | 3,hj=>exact hX 3 hj
          | 4,hj=>exact hX 4 hj
          | 5,hj=>exact hX 5 hj
          | 6,hj=>exact hX 6 hj
          | 7,hj=>exact hX 7 hj
          | 8, hj =>
           obtain ⟨s2,g2,k1,k2,k3,k4⟩:=hX 8 hj
           exact ⟨s2,g2,k1,k2,k3.same (hg.block _ k3.lt (fun e=>by have:=HV6L.out g2 e.symm;omega)),k4⟩
          | 9,hj=>rw [hSi] at hj;cases hj
          | 10, hj =>
           have h10:=hC 10 _ rfl hj { on:=9,ground:=Ground.data } (by simp) rfl
           rw [hSi] at h10
           cases h10
          | _+11,_=>trivial
        · obtain ⟨s, g, cp, h1, e9, h3⟩ := (hX 9 (zad hdep 9 rfl))
          exact o_as (.tmp 29) rfl ((hS.get 9 (zad hdep 9 rfl) rfl rfl).trans e9) ⟨_,rfl,⟨s,g,cp,h1,rfl,h3⟩,⟨hI.1,hI.2.1,hI.2.2.1,hI.2.2.2.1,fun h=>hI.2.2.2.2 (or_false h)⟩,hX⟩
      · intro v c Sd hall hI hX
        simp only [zbz,Act.put]
        simp
        obtain ⟨s,g,cp,h1,h2,h3⟩:=hX 10 (by decide)
        rw [h2]
        have HE:=Lib.hid (show s.length≤99∧c.ownsRow w.heap.size 88 2 (.slice (some ⟨g,0,none⟩) (jl+1) cp) (jl+1) (Dcs L++[.int .i64 tg,.string (S s)])∧w.grownBy c (some D)∧DiceOk c D∧RowV c g5 (tl.map (Value.int .i64))∧(Value.slice (some (⟨g,0,none⟩ : Addr)) (jl+1) cp).ownBlock≠some g5 from ⟨h1,h3.1,hI.1,hI.2.1,hI.2.2.1,fun e=>by injection e with e;exact h3.2 e⟩)
        clear hX hI h1 h2 h3
        go_wp2_with fail
        go_roundw
        case rel => exact ⟨j + 1, by omega, by first | rfl | go_num, Lib.hid ⟨L ++ [(tg, s)], by rw [List.length_append, HJL.out]; have := HR.out.1; have := HJL.out; simp only [List.length_cons, List.length_nil]; omega, fun d hd => (by
         rcases List.mem_append.1 hd with hd | hd
         · exact HR.out.2.1 d hd
         · rw [List.mem_singleton] at hd
           subst hd
           exact ⟨HTG.out.2,HE.out.1⟩),by rw [List.length_append,HJL.out,Dcs_app];exact HE.out.2.1,HE.out.2.2.1,HE.out.2.2.2.1,HE.out.2.2.2.2.1,HE.out.2.2.2.2.2⟩⟩
        case measure=>simp [intOf];omega
  · obtain rfl : j = nt := by omega
    have dj:decide ((j:Int) < (j:Int))=false:=by simp
    have hown:=HR.out.2.2.1
    rw [HJL.out] at hown
    by_cases h1:jl≤1
    · have d1 : decide ((1 : Int) < (jl : Int)) = false := by simp; omega
      obtain ⟨A6,c6,rfl⟩:=own_form15 hown
      have HF:=Lib.hid (show DtsIs w D (.returned (.slice A6 jl c6)) wr from ⟨_,L,rfl,by rw [HJL.out];exact hjlb,HR.out.2.1,by rw [HJL.out];exact hown,HR.out.2.2.2.1,HR.out.2.2.2.2.1⟩)
      clear hown HR
      go_wp2_with fail
      go_ret
      exact HF.out
    · have d1 : decide ((1 : Int) < (jl : Int)) = true := by simp; omega
      obtain ⟨g6,c6,rfl,hg6⟩:=own_some15 hown (by omega)
      obtain ⟨d0, d1x, r, rfl⟩ : ∃ d0 d1x r, L = d0 :: d1x :: r := by
       match L,HJL.out with
       | [],h=>simp at h;omega
       | [_],h=>simp at h;omega
       | d0::d1x::r,_=>exact ⟨d0,d1x,r,rfl⟩
      have HOW:=Lib.hid (show RowD w wr g6 jl c6 (d0::d1x::r) from hown)
      have HG6:=Lib.hid (show w.heap.size≤g6∧D < g6 from ⟨hg6,by have:=HDw.out;omega⟩)
      clear hown hg6
      go_wp2_with fail
      refine (HON.out _ HR.out.2.2.2.2.1).mono ?_
      rintro e w1 ⟨q1,rfl,hg,hd⟩
      have H2:=Lib.hid (show w.grownBy w1 (some D)∧DiceOk w1 D∧RowD w w1 g6 jl c6 (d0::d1x::r) from ⟨zae HR.out.2.2.2.1 hg,hd,zbm HOW.out hg (fun e=>by injection e with e;simp only at e;have:=HG6.out.2;omega)⟩)
      clear hg hd
      have HBD:=Lib.hid HR.out.2.1
      clear HR HOW
      rcases q1 with _ | _
      · have HF := Lib.hid (show DtsIs w D (.returned (.slice (some ⟨g6, 0, none⟩) jl c6)) w1 from ⟨_, _, rfl, by rw [HJL.out]; exact hjlb, HBD.out, by rw [HJL.out]; exact H2.out.2.2, H2.out.1, H2.out.2.1⟩)
        go_wp2_with fail
        go_ret
        exact HF.out
      · have hn6 : 1 < jl := by omega
        go_wp2_with fail
        refine zgR (by kernel_rfl) _ (fun Sd c=>w.grownBy c (some D)∧DiceOk c D∧(Sd 9=false→RowD w c g6 jl c6 (d0::d1x::r))∧(Sd 9=true→Sd 11=false→RowD w c g6 jl c6 (d1x::d1x::r))∧(Sd 11=true→RowD w c g6 jl c6 (d1x::d0::r))) (zef [fun u _=>u=.slice (some ⟨g6,0,none⟩) jl c6,fun u _=>u=.slice (some ⟨g6,0,none⟩) jl c6,fun u _=>u=.slice (some ⟨g6,0,none⟩) jl c6,fun u _=>u=.pointer (some ⟨g6,2,none⟩),fun u _=>u=.agg #[.int .i64 d1x.1,.string (S d1x.2)],fun u _=>u=.slice (some ⟨g6,0,none⟩) jl c6,fun u _=>u=.pointer (some ⟨g6,0,none⟩),fun u _=>u=.agg #[.int .i64 d0.1,.string (S d0.2)],fun u _=>u=.pointer (some ⟨g6,0,none⟩),fun _ _=>True,fun u _=>u=.pointer (some ⟨g6,2,none⟩),fun _ _=>True]) (by kernel_rfl) (fun c c2 h B=>⟨h.1.on B,h.2.1.below B,fun x=>zaI (h.2.2.1 x) B,fun x y=>zaI (h.2.2.2.1 x y) B,fun x=>zaI (h.2.2.2.2 x) B⟩) ⟨H2.out.1,H2.out.2.1,fun _=>H2.out.2.2,fun h=>(by cases h),fun h=>(by cases h)⟩ ?_ ?_
        · refine zch (allI.cons ?_ (allI.cons ?_ (allI.cons ?_ (allI.cons ?_ (allI.cons ?_ (allI.cons ?_ (allI.cons ?_ (allI.cons ?_ (allI.cons ?_ (allI.cons ?_ (allI.cons ?_ (allI.cons ?_ allI.nil)))))))))))) <;> intro v Sd c a hI hX hSi hdep hS hC
          · exact o_mv (.tmp 6) rfl (hS.old 6 rfl) ⟨_,rfl,rfl,⟨hI.1,hI.2.1,fun h=>hI.2.2.1 (or_false h),fun h1 h2=>hI.2.2.2.1 (zbQ h1 (by decide)) (or_false h2),fun h=>hI.2.2.2.2 (zbQ h (by decide))⟩,hX⟩
          · exact o_mv (.tmp 6) rfl (hS.old 6 rfl) ⟨_,rfl,rfl,⟨hI.1,hI.2.1,fun h=>hI.2.2.1 (or_false h),fun h1 h2=>hI.2.2.2.1 (zbQ h1 (by decide)) (or_false h2),fun h=>hI.2.2.2.2 (zbQ h (by decide))⟩,hX⟩
          · exact o_mv (.tmp 6) rfl (hS.old 6 rfl) ⟨_,rfl,rfl,⟨hI.1,hI.2.1,fun h=>hI.2.2.1 (or_false h),fun h1 h2=>hI.2.2.2.1 (zbQ h1 (by decide)) (or_false h2),fun h=>hI.2.2.2.2 (zbQ h (by decide))⟩,hX⟩
          · exact o_ix 52 (.tmp 39) _ rfl ((hS.get 2 (zad hdep 2 rfl) rfl rfl).trans (hX 2 (zad hdep 2 rfl))) rfl (ix_d1 g6 jl c6 hn6 _) ⟨_,rfl,rfl,⟨hI.1,hI.2.1,fun h=>hI.2.2.1 (or_false h),fun h1 h2=>hI.2.2.2.1 (zbQ h1 (by decide)) (or_false h2),fun h=>hI.2.2.2.2 (zbQ h (by decide))⟩,hX⟩
          · have h9 : Sd 9 = false := not_dep hC hSi (i := 4) (j := 9) { on := 4, ground := Ground.data } rfl (by simp) rfl rfl
            exact o_ldm15D 88 (.tmp 40) rfl g6 2 ((hS.get 3 (zad hdep 3 rfl) rfl rfl).trans (hX 3 (zad hdep 3 rfl))) [.int .i64 d1x.1,.string (S d1x.2)] _ (RowD.range (hI.2.2.1 h9) (j:=1) rfl) Tryz.underlying88 rfl size_dt ⟨_,rfl,rfl,⟨hI.1,hI.2.1,fun h=>hI.2.2.1 (or_false h),fun h1 h2=>hI.2.2.2.1 (zbQ h1 (by decide)) (or_false h2),fun h=>hI.2.2.2.2 (zbQ h (by decide))⟩,hX⟩
          · exact o_mv (.tmp 6) rfl (hS.old 6 rfl) ⟨_,rfl,rfl,⟨hI.1,hI.2.1,fun h=>hI.2.2.1 (or_false h),fun h1 h2=>hI.2.2.2.1 (zbQ h1 (by decide)) (or_false h2),fun h=>hI.2.2.2.2 (zbQ h (by decide))⟩,hX⟩
          · exact o_ix 52 (.tmp 42) _ rfl ((hS.get 5 (zad hdep 5 rfl) rfl rfl).trans (hX 5 (zad hdep 5 rfl))) rfl (ix_d0 g6 jl c6 (by omega) _) ⟨_,rfl,rfl,⟨hI.1,hI.2.1,fun h=>hI.2.2.1 (or_false h),fun h1 h2=>hI.2.2.2.1 (zbQ h1 (by decide)) (or_false h2),fun h=>hI.2.2.2.2 (zbQ h (by decide))⟩,hX⟩
          · have h9 : Sd 9 = false := not_dep hC hSi (i := 7) (j := 9) { on := 7, ground := Ground.phase } rfl (by simp) rfl rfl
            exact o_ldm15D 88 (.tmp 43) rfl g6 0 ((hS.get 6 (zad hdep 6 rfl) rfl rfl).trans (hX 6 (zad hdep 6 rfl))) [.int .i64 d0.1,.string (S d0.2)] _ (RowD.range (hI.2.2.1 h9) (j:=0) rfl) Tryz.underlying88 rfl size_dt ⟨_,rfl,rfl,⟨hI.1,hI.2.1,fun h=>hI.2.2.1 (or_false h),fun h1 h2=>hI.2.2.2.1 (zbQ h1 (by decide)) (or_false h2),fun h=>hI.2.2.2.2 (zbQ h (by decide))⟩,hX⟩
          · exact o_ix 52 (.tmp 37) _ rfl ((hS.get 0 (zad hdep 0 rfl) rfl rfl).trans (hX 0 (zad hdep 0 rfl))) rfl (ix_d0 g6 jl c6 (by omega) _) ⟨_,rfl,rfl,⟨hI.1,hI.2.1,fun h=>hI.2.2.1 (or_false h),fun h1 h2=>hI.2.2.2.1 (zbQ h1 (by decide)) (or_false h2),fun h=>hI.2.2.2.2 (zbQ h (by decide))⟩,hX⟩
          · have h11 : Sd 11 = false := not_dep hC hSi (i := 9) (j := 11) { on := 9, ground := Ground.chain } rfl (by simp) rfl rfl
            have hrow:=hI.2.2.1 hSi
            refine o_stO 88 (.tmp 45) (.tmp 41) rfl (us:=[.int .i64 d1x.1,.string (S d1x.2)]) ((hS.get 8 (zad hdep 8 rfl) rfl rfl).trans (hX 8 (zad hdep 8 rfl))) ((hS.get 4 (zad hdep 4 rfl) rfl rfl).trans (hX 4 (zad hdep 4 rfl))) hrow (by have:=zfG (d0::d1x::r);simp only [List.length_cons,List.length_nil] at this ⊢; omega) (Dcs_one [d1x]) size_dt (fun w9 hw hr=>?_)
            refine ⟨_,rfl,trivial,⟨hI.1.wrote hw HG6.out.1,hI.2.1.wrote hw HG6.out.2,fun h=>(or_at h).elim,fun _ _=>hr,fun h=>(by have h2:=zbQ h (by decide);rw [h11] at h2;cases h2)⟩,fun j hj=>?_⟩
            match j,hj with
            | 0,hj=>exact hX 0 hj
            | 1,hj=>exact hX 1 hj
            | 2,hj=>exact hX 2 hj
            | 3,hj=>exact hX 3 hj
            | 4,hj=>exact hX 4 hj
            | 5,hj=>exact hX 5 hj
            | 6,hj=>exact hX 6 hj
            | 7,hj=>exact hX 7 hj
            | 8,hj=>exact hX 8 hj
            | 9,hj=>exact hX 9 hj
            | 10,hj=>exact hX 10 hj
            | 11,hj=>exact hX 11 hj
            | _+12,_=>trivial
          · exact o_ix 52 (.tmp 38) _ rfl ((hS.get 1 (zad hdep 1 rfl) rfl rfl).trans (hX 1 (zad hdep 1 rfl))) rfl (ix_d1 g6 jl c6 hn6 _) ⟨_,rfl,rfl,⟨hI.1,hI.2.1,fun h=>hI.2.2.1 (or_false h),fun h1 h2=>hI.2.2.2.1 (zbQ h1 (by decide)) (or_false h2),fun h=>hI.2.2.2.2 (zbQ h (by decide))⟩,hX⟩
          · have h9 : Sd 9 = true := hdep { on := 9, ground := Ground.chain } (by simp) rfl
            have hrow:=hI.2.2.2.1 h9 hSi
            refine o_stO 88 (.tmp 46) (.tmp 44) rfl (us:=[.int .i64 d0.1,.string (S d0.2)]) ((hS.get 10 (zad hdep 10 rfl) rfl rfl).trans (hX 10 (zad hdep 10 rfl))) ((hS.get 7 (zad hdep 7 rfl) rfl rfl).trans (hX 7 (zad hdep 7 rfl))) hrow (by have:=zfG (d1x::d1x::r);simp only [List.length_cons,List.length_nil] at this ⊢; omega) (Dcs_one [d0]) size_dt (fun w9 hw hr=>?_)
            refine ⟨_,rfl,trivial,⟨hI.1.wrote hw HG6.out.1,hI.2.1.wrote hw HG6.out.2,fun h=>(by have h2:=or_false h;rw [h9] at h2;cases h2),fun _ h=>(or_at h).elim,fun _=>hr⟩,fun j hj=>?_⟩
            match j,hj with
            | 0,hj=>exact hX 0 hj
            | 1,hj=>exact hX 1 hj
            | 2,hj=>exact hX 2 hj
            | 3,hj=>exact hX 3 hj
            | 4,hj=>exact hX 4 hj
            | 5,hj=>exact hX 5 hj
            | 6,hj=>exact hX 6 hj
            | 7,hj=>exact hX 7 hj
            | 8,hj=>exact hX 8 hj
            | 9,hj=>exact hX 9 hj
            | 10,hj=>exact hX 10 hj
            | 11,hj=>exact hX 11 hj
            | _+12,_=>trivial
        · intro v c Sd hall hI hX
          simp only [zbz,Act.put]
          simp
          have HF := Lib.hid (show DtsIs w D (.returned (.slice (some ⟨g6, 0, none⟩) jl c6)) c from ⟨_, d1x :: d0 :: r, rfl, by have := HJL.out; simp only [List.length_cons] at this ⊢; omega, fun d hd => HBD.out d (by
           simp only [List.mem_cons] at hd ⊢
           rcases hd with h | h | h
           · exact .inr (.inl h)
           · exact .inl h
           · exact .inr (.inr h)),by
           have e:=HJL.out
           have e2:(d1x::d0::r).length=jl:=e
           rw [e2]
           exact hI.2.2.2.2 (hall 11 (by decide)),hI.1,hI.2.1⟩)
          clear hX hI
          go_wp2_with fail
          go_ret
          exact HF.out
end Go.Proofs.YtnlhbknajdpnbaaGreatDoor
