/-
  What is proved here: the list of groups of a file, in plain words; hasValue, onlyValue and openCommon of the program.
-/
import Derived.Test.YtnlhbknajdpnbaaGreatDoorF43
import Derived.Test.YtnlhbknajdpnbaaGreatDoorF34
import Derived.Test.YtnlhbknajdpnbaaGreatDoorF17
import Derived.Test.YtnlhbknajdpnbaaGreatDoorF14
import Derived.Deep.OwnRows
set_option linter.unusedVariables false
set_option linter.unusedSimpArgs false
namespace Go.Proofs.YtnlhbknajdpnbaaGreatDoor
open Go.RowKit
set_option maxRecDepth 8000
theorem o_ldm15 {P : Program} {a : Act} {w : World} {K : Act → World → Prop} {Q : Exit → Act → World → Prop} {o : Oper} (ty : TypeId) (x : Operand) (ho : o.op = .load ty x) (g k : Nat) (hx : a.eval x = .pointer (some ⟨g, k, none⟩)) (vs : List Value) (d : TypeDesc)
 (h:w.rangeAt g k vs) (hu:P.underlying ty=some d) (hd:d.isRow=true) (hi:(P.info? ty).map (·.size)=some vs.length) (hK:K (a.put o.dst (.agg vs.toArray)) w):o.wp P a w K Q:=by
 have hr:=run_loadVar_mid (P:=P) w g k ty vs d h hu hd hi
 have h2 : (execOp a.eval o).run P w = .ok (.value (.agg vs.toArray)) w := by
  unfold execOp
  simp only [ho,hx,Instr.loadAt,Instr.sureAddr,Sem.run_bind,Sem.run_pure,Result.andThen_ok,hr]
 exact o_val h2 hK
theorem node_at0 {w : World} {p : Nat → Prop} {b o : Nat} {t : Int} {v : List UInt8} {k r : F} (h : SeesN w p (some ⟨b, o, none⟩) (.cons t v k r)) : ∃ Av cv Ak ck, p b ∧ w.rangeAt b o (nodV t Av v.length cv Ak k.len ck) ∧ (Av = none → cv = 0) ∧ v.length ≤ cv ∧ k.len ≤ ck ∧ SeesP w p Av (Us v) ∧ SeesN w p Ak k := by
 obtain ⟨b2,o2,Av,cv,Ak,ck,e,hb,hr,h1,h2,h3,h4,h5⟩:=node_atN (j:=0) h rfl
 injection e with e
 injection e with e1 e2 _
 subst e1 e2
 rw [Nat.zero_mul,Nat.add_zero] at hr
 exact ⟨Av,cv,Ak,ck,hb,hr,h1,h2,h3,h4,h5⟩
theorem SeesN.some_of {w : World} {p : Nat → Prop} {A : Option Addr} {t : Int} {v : List UInt8} {k r : F} (h : SeesN w p A (.cons t v k r)) : ∃ b o, A = some ⟨b, o, none⟩ := by
 obtain ⟨b,o,_,_,_,_,e,_⟩:=node_atN (j:=0) h rfl
 exact ⟨b,o,e⟩
set_option maxHeartbeats 1600000 in
theorem p_hasv (t : Int) (v : List UInt8) (n : Nat) (hn : v.length = n) (Av : Option Addr) (cv : Nat) (Ak : Option Addr) (lk ck : Nat) (tag : Int) (u : List UInt8) (m : Nat) (hm : u.length = m) (B : Option Addr) (cb : Nat) (w : World) (hs : SeesP w (· < w.heap.size) Av (Us v)) (hu : SeesP w (· < w.heap.size) B (Us u)) :
 Calls Tryz.prog 65 #[.agg (nodV t Av n cv Ak lk ck).toArray,.int .i64 tag,.slice B m cb] w fun e w'=>e=.returned (.bool (decide (t=tag) && zgo v u))∧Below w.heap.size w w':=by
 have HB:=Lib.hid (Below.refl w.heap.size w)
 obtain ⟨us,hus⟩ : ∃us,nodV t Av n cv Ak lk ck=us:=⟨_,rfl⟩
 have HU:=Lib.hid (show us[0]? = some (.int .i64 t)∧us[1]? = some (.slice Av n cv) from by rw [←hus];exact ⟨rfl,rfl⟩)
 rw [hus]
 obtain ⟨bb,hbb⟩ : ∃z,zgo v u=z:=⟨_,rfl⟩
 have HSM : Hid (∀ w0, Below w.heap.size w w0 → Calls Tryz.prog 87 #[.slice Av n cv, .slice B m cb] w0 fun e w' => e = .returned (.bool bb) ∧ w' = w0) := Lib.hid fun w0 hb => by
  have h:=oct_same Av B cv cb n m v u w0 w0.heap.size (SeesP.iff_sees.1 (SeesP.on2 hs hb)) (SeesP.iff_sees.1 (SeesP.on2 hu hb)) hn.symm hm.symm
  rw [hbb] at h
  exact h
 rw [hbb]
 clear hus hbb hs hu hn hm
 by_cases h0:t=tag
 · have d0 : (t == tag) = true := by simpa using h0
   rw [show (decide (t=tag) && bb)=bb by simp [h0]]
   clear h0
   go_enter Tryz.func65,Tryz.ntmps65
   go_wp2_with (first
    | ((with_reducible refine zbl (d:=3) ?_);refine zax (op:=⟨some 3,_,_,_,_,_⟩) rfl 64 _ rfl us rfl ?_;intro g1 w1 hf hr;have H1:=Lib.hid (show _∧_ from ⟨hf.bl HB.out,hr⟩);have c0:=(hr.cell 0).trans HU.out.1;have c1:=(hr.cell 1).trans HU.out.2;clear hf hr)
    | (go_at_call 87;((with_reducible refine (HSM.out _ H1.out.1).mono ?_);rintro e w2 ⟨rfl,hw1⟩);(have hw2:=hw1.symm;clear hw1;subst hw2)))
   go_ret
   exact ⟨rfl,H1.out.1⟩
 · have d0 : (t == tag) = false := by simpa using h0
   rw [show (decide (t=tag) && bb)=false by simp [h0]]
   clear h0
   go_enter Tryz.func65,Tryz.ntmps65
   go_wp2_with (first
    | ((with_reducible refine zbl (d:=3) ?_);refine zax (op:=⟨some 3,_,_,_,_,_⟩) rfl 64 _ rfl us rfl ?_;intro g1 w1 hf hr;have H1:=Lib.hid (show _∧_ from ⟨hf.bl HB.out,hr⟩);have c0:=(hr.cell 0).trans HU.out.1;have c1:=(hr.cell 1).trans HU.out.2;clear hf hr))
   go_ret
   exact ⟨rfl,H1.out.1⟩
def ovX (f : F) (tag : Int) : Option (List UInt8) := match f with
 | .cons t v _ .nil=>if t=tag then some v else none
 | _=>none
theorem ovX_len {f : F} {tag : Int} (h : f.len ≠ 1) : ovX f tag = none := by
 match f,h with
 | .nil,_=>rfl
 | .cons _ _ _ .nil,h=>exact absurd rfl h
 | .cons _ _ _ (.cons _ _ _ _),_=>rfl
def OnvIs (r:Option (List UInt8)) (w:World) (e:Ending) (w':World):Prop:=w'=w∧(r=none→e=.returned (.tuple #[.slice none 0 0,.bool false]))∧∀v,r=some v→∃A c,e=.returned (.tuple #[.slice A v.length c,.bool true])∧SeesP w (· < w.heap.size) A (Us v)∧(A=none→c=0)∧v.length≤c
theorem OnvIs.bad {r:Option (List UInt8)} {w:World} (h:r=none):OnvIs r w (.returned (.tuple #[.slice none 0 0,.bool false])) w:=⟨rfl,fun _=>rfl,fun v hv=>by rw [h] at hv;cases hv⟩
theorem OnvIs.good {v : List UInt8} {n : Nat} {A : Option Addr} {c : Nat} {w : World} (e : v.length = n) (h1 : SeesP w (· < w.heap.size) A (Us v)) (h2 : A = none → c = 0) (h3 : v.length ≤ c) : OnvIs (some v) w (.returned (.tuple #[.slice A n c, .bool true])) w := by
 subst e
 exact ⟨rfl,fun h=>(by cases h),fun u hu=>by injection hu with hu;subst hu;exact ⟨A,c,rfl,h1,h2,h3⟩⟩
set_option maxHeartbeats 1600000 in
theorem p_onlyv (f : F) (n : Nat) (hn : f.len = n) (A : Option Addr) (c : Nat) (tag : Int) (w : World) (hs : SeesN w (· < w.heap.size) A f) :
 Calls Tryz.prog 66 #[.slice A n c,.int .i64 tag] w (OnvIs (ovX f tag) w):=by
 by_cases h1:n=1
 case neg =>
  have d1:((n:Int) != 1)=true:=by simp;omega
  have HN:=Lib.hid (ovX_len (f:=f) (tag:=tag) (by omega))
  clear hs hn h1
  go_enter Tryz.func66,Tryz.ntmps66
  go_wp2
  go_ret2
  exact OnvIs.bad HN.out
 case pos =>
 subst h1
 obtain ⟨t, v, k, rfl⟩ : ∃ t v k, f = .cons t v k .nil := by
  match f,hn with
  | .cons a b d .nil,_=>exact ⟨a,b,d,rfl⟩
  | .cons a b d (.cons _ _ _ _),h=>simp [F.len] at h
 obtain ⟨b,off,rfl⟩:=hs.some_of
 obtain ⟨Av,cv,Ak,ck,hb,hr,h0,h1,_,hv,_⟩:=node_at0 hs
 have c0:w.cell? ⟨b,off,none⟩=some (.int .i64 t):=hr 0 _ rfl
 have c1:w.cell? ⟨b,off+1,none⟩=some (.slice Av v.length cv):=hr 1 _ rfl
 have hx:ovX (.cons t v k .nil) tag=if t=tag then some v else none:=rfl
 rw [hx]
 obtain ⟨lv,hlv⟩ : ∃z,v.length=z:=⟨_,rfl⟩
 rw [hlv] at c1
 have HV:=Lib.hid (show SeesP w (· < w.heap.size) Av (Us v)∧(Av=none→cv=0)∧v.length≤cv∧v.length=lv from ⟨hv,h0,h1,hlv⟩)
 clear hx hs hr hb h0 h1 hv hn hlv
 by_cases ht:t=tag
 · have d0 : (t != tag) = false := by simpa using ht
   rw [if_pos ht]
   clear ht
   go_enter Tryz.func66,Tryz.ntmps66
   go_wp2
   go_ret2
   exact OnvIs.good HV.out.2.2.2 HV.out.1 HV.out.2.1 HV.out.2.2.1
 · have d0 : (t != tag) = true := by simpa using ht
   rw [if_neg ht]
   clear ht
   go_enter Tryz.func66,Tryz.ntmps66
   go_wp2
   go_ret2
   exact OnvIs.bad rfl
def coV (f : F) : Option (List UInt8) := match f with
 | .cons t1 v1 _ (.cons t2 v2 _ (.cons t3 v3 _ .nil))=>if t1=24321∧v1=zdJ∧t2=24374∧v2=zdQ∧t3=92 then some v3 else none
 | _=>none
theorem coV_len {f : F} (h : f.len ≠ 3) : coV f = none := by
 match f,h with
 | .nil,_=>rfl
 | .cons _ _ _ .nil,_=>rfl
 | .cons _ _ _ (.cons _ _ _ .nil),_=>rfl
 | .cons _ _ _ (.cons _ _ _ (.cons _ _ _ .nil)),h=>exact absurd rfl h
 | .cons _ _ _ (.cons _ _ _ (.cons _ _ _ (.cons _ _ _ _))),_=>rfl
def OncIs (r:Option (List UInt8)) (w:World) (e:Ending) (w':World):Prop:=Below w.heap.size w w'∧(r=none→e=.returned (.tuple #[.slice none 0 0,.bool false]))∧∀v,r=some v→∃A c,e=.returned (.tuple #[.slice A v.length c,.bool true])∧SeesP w' (· < w'.heap.size) A (Us v)∧(A=none→c=0)∧v.length≤c
theorem OncIs.bad {r:Option (List UInt8)} {w u:World} (h:r=none) (hb:Below w.heap.size w u):OncIs r w (.returned (.tuple #[.slice none 0 0,.bool false])) u:=⟨hb,fun _=>rfl,fun v hv=>by rw [h] at hv;cases hv⟩
theorem same_dec (x y : List UInt8) : zgo x y = decide (x = y) := by
 by_cases h:x=y
 · rw [sameB_true h];simp [h]
 · unfold zgo;simp [h]
set_option maxHeartbeats 6400000 in
set_option maxRecDepth 20000 in
theorem p_openc (f : F) (n : Nat) (hn : f.len = n) (A : Option Addr) (c : Nat) (hc : n ≤ c) (w : World) (hs : SeesN w (· < w.heap.size) A f) :
 Calls Tryz.prog 37 #[.slice A n c] w (OncIs (coV f) w):=by
 have HC:=Lib.hid (p_cobj none 0 0 w)
 unfold CobIs at HC
 by_cases h3:n=3
 case neg =>
  have d1:((n:Int) != 3)=true:=by simp;omega
  have HN:=Lib.hid (coV_len (f:=f) (by omega))
  clear hs hn h3 hc
  go_enter Tryz.func37,Tryz.ntmps37
  go_wp2_with (first
   | (go_at_call 35;((with_reducible refine HC.out.mono ?_);rintro e w6 ⟨g,g1,g2,rfl,hb,hgg,hr,h1,h2⟩);have H6:=Lib.hid hb;clear hb hr h1 h2 hgg))
  go_ret2
  exact OncIs.bad HN.out H6.out
 case pos =>
 subst h3
 obtain ⟨t1, v1, k1, t2, v2, k2, t3, v3, k3, rfl⟩ : ∃ t1 v1 k1 t2 v2 k2 t3 v3 k3, f = .cons t1 v1 k1 (.cons t2 v2 k2 (.cons t3 v3 k3 .nil)) := by
  match f,hn with
  | .cons a b d (.cons a2 b2 d2 (.cons a3 b3 d3 .nil)),_=>exact ⟨a,b,d,a2,b2,d2,a3,b3,d3,rfl⟩
  | .cons a b d .nil,h=>simp [F.len] at h
  | .cons a b d (.cons a2 b2 d2 .nil),h=>simp [F.len] at h
  | .cons a b d (.cons a2 b2 d2 (.cons a3 b3 d3 (.cons _ _ _ _))),h=>simp [F.len] at h
 obtain ⟨b,off,rfl⟩:=hs.some_of
 obtain ⟨Av1,cv1,Ak1,ck1,hb,hr1,_,_,_,hv1,_⟩:=node_at0 hs
 obtain ⟨Av2,cv2,Ak2,ck2,_,hr2,_,_,_,hv2,_⟩:=node_at0 hs.tail
 have ht3:=hs.tail.tail
 have HO:=Lib.hid (show ∀u,Below w.heap.size w u→Calls Tryz.prog 66 #[.slice (some ⟨b,off+6,none⟩) 1 (c - 2),.int .i64 92] u (OnvIs (ovX (.cons t3 v3 k3 .nil) 92) u) from fun u hb=>p_onlyv (.cons t3 v3 k3 .nil) 1 rfl _ _ 92 u (by rw [show off+6=off+3+3 by omega];exact ht3.on hb))
 obtain ⟨m1,hm1⟩ : ∃z,(decide (t1=24321) && zgo v1 zdJ)=z:=⟨_,rfl⟩
 obtain ⟨m2,hm2⟩ : ∃z,(decide (t2=24374) && zgo v2 zdQ)=z:=⟨_,rfl⟩
 have hcv : coV (.cons t1 v1 k1 (.cons t2 v2 k2 (.cons t3 v3 k3 .nil))) = if m1 = true ∧ m2 = true then ovX (.cons t3 v3 k3 .nil) 92 else none := by
  show (if t1=24321∧v1=zdJ∧t2=24374∧v2=zdQ∧t3=92 then some v3 else none)=if m1=true∧m2=true then (if t3=92 then some v3 else none) else none
  rw [←hm1,←hm2,same_dec,same_dec]
  by_cases q1:t1=24321 <;> by_cases q2:v1=zdJ <;> by_cases q3:t2=24374 <;> by_cases q4:v2=zdQ <;> by_cases q5:t3=92 <;> simp [q1,q2,q3,q4,q5]
 rw [hcv]
 obtain ⟨R3,hR3⟩ : ∃z,ovX (.cons t3 v3 k3 .nil) 92=z:=⟨_,rfl⟩
 rw [hR3] at HO ⊢
 obtain ⟨RR,hRR⟩ : ∃z,(if m1=true∧m2=true then R3 else none)=z:=⟨_,rfl⟩
 rw [hRR]
 have HRR:=Lib.hid hRR
 have HH : Hid (∀ (w6 : World) (g1 g2 : Nat), Below w.heap.size w w6 → SeesP w6 (· < w6.heap.size) (some ⟨g1, 0, none⟩) (Us zdJ) → SeesP w6 (· < w6.heap.size) (some ⟨g2, 0, none⟩) (Us zdQ) → ∀ j, j < 2 → ∀ (mb : Bool), (if j = 0 then m1 else m2) = mb → ∀ (tw : Int) (gw nw : Nat), tw = (if j = 0 then 24321 else 24374) → gw = (if j = 0 then g1 else g2) → nw = (if j = 0 then 4 else 6) →
  ∃us:List Value,(∀u,Below w.heap.size w u→u.rangeAt b (off+j*3) us)∧(∀u,Below w.heap.size w u→Below w6.heap.size w6 u→Calls Tryz.prog 65 #[.agg us.toArray,.int .i64 tw,.slice (some ⟨gw,0,none⟩) nw nw] u fun e w'=>e=.returned (.bool mb)∧Below u.heap.size u w')∧(Tryz.prog.info? 64).map (·.size)=some us.length):=Lib.hid fun w6 g1 g2 hb6 hs1 hs2 j hj mb hmb tw gw nw e1 e2 e3=>by
  subst e1 e2 e3
  rcases (show j=0∨j=1 by omega) with rfl | rfl
  · refine ⟨_, fun u hbu => zbY hr1 hb hbu, fun u hbu hb6u => ?_, zbV⟩
    have h:=p_hasv t1 v1 v1.length rfl Av1 cv1 Ak1 k1.len ck1 24321 zdJ 4 rfl (some ⟨g1,0,none⟩) 4 u (SeesP.on2 hv1 hbu) (SeesP.on2 hs1 hb6u)
    rw [hm1,show m1=mb from hmb] at h
    exact h
  · refine ⟨_, fun u hbu => zbY hr2 hb hbu, fun u hbu hb6u => ?_, zbV⟩
    have h:=p_hasv t2 v2 v2.length rfl Av2 cv2 Ak2 k2.len ck2 24374 zdQ 6 rfl (some ⟨g2,0,none⟩) 6 u (SeesP.on2 hv2 hbu) (SeesP.on2 hs2 hb6u)
    rw [hm2,show m2=mb from hmb] at h
    exact h
 have HCC:=Lib.hid hc
 have hc2:2 < c:=by omega
 have hc3:¬c=2:=by omega
 clear hcv hR3 hRR hr1 hr2 hv1 hv2 ht3 hs hn hm1 hm2 hb hc
 go_enter Tryz.func37,Tryz.ntmps37
 go_wp2_with (first
  | (go_at_call 35;((with_reducible refine HC.out.mono ?_);rintro e w6 ⟨g,g1,g2,rfl,hb,hgg,hr,h1,h2⟩);have HX:=Lib.hid (show Below w.heap.size w w6∧w.heap.size≤g∧RowV w6 g [.int .i64 24321,.slice (some ⟨g1,0,none⟩) 4 4,.slice none 0 0,.int .i64 24374,.slice (some ⟨g2,0,none⟩) 6 6,.slice none 0 0,.int .i64 92,.slice none 0 0,.slice none 0 0]∧SeesP w6 (· < w6.heap.size) (some ⟨g1,0,none⟩) (Us zdJ)∧SeesP w6 (· < w6.heap.size) (some ⟨g2,0,none⟩) (Us zdQ) from ⟨hb,hgg,hr,h1,h2⟩);clear hb hr h1 h2 hgg))
 go_loopw [21] (fun i wr=>∃(j:Nat),j≤2∧i=.int .i64 (j:Int)∧Hid (Below w6.heap.size w6 wr∧(0 < j→m1=true)∧(1 < j→m2=true))) (fun i _=>2 - (intOf i).toNat)
 case atStart=>exact ⟨0,by omega,rfl,Lib.hid ⟨Below.refl _ _,fun h=>by omega,fun h=>by omega⟩⟩
 case round =>
  obtain ⟨j,hj,rfl,HR⟩:=hrel
  by_cases hlt:j < 2
  · have dj : decide ((j : Int) < 2) = true := by simp; omega
    obtain ⟨mb,hmb⟩ : ∃z,(if j=0 then m1 else m2)=z:=⟨_,rfl⟩
    obtain ⟨tw,htw⟩ : ∃z:Int,z=(if j=0 then 24321 else 24374):=⟨_,rfl⟩
    obtain ⟨gw,hgw⟩ : ∃z:Nat,z=(if j=0 then g1 else g2):=⟨_,rfl⟩
    obtain ⟨nw,hnw⟩ : ∃z:Nat,z=(if j=0 then 4 else 6):=⟨_,rfl⟩
    obtain ⟨us,hu1,hu2,hu3⟩:=HH.out w6 g1 g2 HX.out.1 HX.out.2.2.2.1 HX.out.2.2.2.2 j hlt mb hmb tw gw nw htw hgw hnw
    have HW := Lib.hid (show ∀ u, Below w6.heap.size w6 u → u.rangeAt g (j * 3) (nodV tw (some ⟨gw, 0, none⟩) nw nw none 0 0) from fun u hb i x hx => by
     rw [(HX.out.2.2.1.on hb).cell,←hx,htw,hgw,hnw]
     have hi:i < 3:=(List.getElem?_eq_some_iff.1 hx).1
     rcases (show j=0∨j=1 by omega) with rfl | rfl <;> rcases (show i=0∨i=1∨i=2 by omega) with rfl | rfl | rfl <;> rfl)
    have HMB:=Lib.hid hmb
    clear hmb htw hgw hnw
    have hj3:j < 3:=by omega
    go_wp2_with (first
     | ((with_reducible refine zaa (d:=25) ?_);go_must (refine wpList_load_mid rfl 64 (.tmp 24) rfl g (j*3) rfl (nodV tw (some ⟨gw,0,none⟩) nw nw none 0 0) _ (HW.out _ HR.out.1) Tryz.underlying64 rfl zbV ?_))
     | ((with_reducible refine zaG (d:=7) ?_);refine zam (op:=⟨some 7,_,_,_,_,_⟩) rfl 64 rfl zerN zcc ?_;intro g7 wa hf hr;have HG7:=Lib.hid (show Below w.heap.size w wa∧RowV wa g7 zerN∧w.heap.size≤g7∧w6.heap.size≤g7∧Below w6.heap.size w6 wa from ⟨zaf HX.out.1 (zaf HR.out.1 hf.bw),hr,Nat.le_trans HX.out.1.size (Nat.le_trans HR.out.1.size (Nat.le_of_eq hf.1.symm)),Nat.le_trans HR.out.1.size (Nat.le_of_eq hf.1.symm),zaf HR.out.1 hf.bw⟩);clear hf hr)
     | ((with_reducible refine zak (i:=7) ?_);refine zan rfl 64 (.tmp 7) (.tmp 25) rfl g7 zerN (nodV tw (some ⟨gw,0,none⟩) nw nw none 0 0) rfl rfl HG7.out.2.1 rfl (zbK _ _ _ _ _ _ _) zbV ?_;intro w7 hw hr;have H7:=Lib.hid (show Below w.heap.size w w7∧RowV w7 g7 (nodV tw (some ⟨gw,0,none⟩) nw nw none 0 0) from ⟨Wr.bl HG7.out.1 hw HG7.out.2.2.1,hr⟩);have H7b:=Lib.hid (show Below w6.heap.size w6 w7 from Wr.bl HG7.out.2.2.2.2 hw HG7.out.2.2.2.1);clear hw hr))
    have HJ:=Lib.hid (show (∀u,Below w.heap.size w u→u.rangeAt b (off+j*3) us)∧(∀u,Below w.heap.size w u∧Below w6.heap.size w6 u→Calls Tryz.prog 65 #[.agg us.toArray,.int .i64 tw,.slice (some ⟨gw,0,none⟩) nw nw] u fun e w'=>e=.returned (.bool mb)∧Below u.heap.size u w')∧(Tryz.prog.info? 64).map (·.size)=some us.length from ⟨hu1,fun u h=>hu2 u h.1 h.2,hu3⟩)
    clear hu1 hu2 hu3
    refine zbG (by kernel_rfl) _ w7 (fun q=>RowV q g7 (nodV tw (some ⟨gw,0,none⟩) nw nw none 0 0)∧Below w.heap.size w q∧Below w6.heap.size w6 q) 99 (zef [fun u _=>u=.slice (some ⟨b,off,none⟩) 3 c,fun u _=>u=.int .i64 (j:Int),fun u _=>u=.pointer (some ⟨b,off+j*3,none⟩),fun u _=>u=.agg us.toArray,fun u _=>u=.pointer (some ⟨g7,0,none⟩),fun u _=>u=.int .i64 tw,fun u _=>u=.pointer (some ⟨g7,1,none⟩),fun u _=>u=.slice (some ⟨gw,0,none⟩) nw nw,fun u _=>u=.bool mb,fun u _=>u=.bool (!mb)]) (by kernel_rfl) (zbR (by simp only [List.forall_mem_cons];exact ⟨zaq _,zaq _,zaq _,zaq _,zaq _,zaq _,zaq _,zaq _,zaq _,zaq _,fun X h=>by cases h⟩)) (fun q q2 h hb=>⟨h.1.on hb,zaf h.2.1 hb,zaf h.2.2 hb⟩) (Below.refl _ _) ⟨H7.out.2,H7.out.1,H7b.out⟩ ?_ ?_
    · refine zch (allI.cons ?_ (allI.cons ?_ (allI.cons ?_ (allI.cons ?_ (allI.cons ?_ (allI.cons ?_ (allI.cons ?_ (allI.cons ?_ (allI.cons ?_ (allI.cons ?_ allI.nil)))))))))) <;> intro v S cw a hI hw1 hX hSi hdep hS hC
      · exact o_mv (.tmp 0) rfl (hS.old 0 rfl) (Step.still rfl)
      · exact o_mv (.tmp 6) rfl (hS.old 6 rfl) (Step.still rfl)
      · exact o_ix 30 (.tmp 26) (.tmp 27) rfl ((hS.get 0 (zad hdep 0 rfl) rfl rfl).trans (hX 0 (zad hdep 0 rfl))) ((hS.get 1 (zad hdep 1 rfl) rfl rfl).trans (hX 1 (zad hdep 1 rfl))) (ix_nod b off 3 c j (by omega) _) (Step.still rfl)
      · exact o_ldm15 64 (.tmp 28) rfl b (off+j*3) ((hS.get 2 (zad hdep 2 rfl) rfl rfl).trans (hX 2 (zad hdep 2 rfl))) us _ (HJ.out.1 _ hI.2.1) Tryz.underlying64 rfl HJ.out.2.2 (Step.still rfl)
      · exact o_fa _ (.tmp 7) 0 rfl (hS.old 7 rfl) (fa_n0 g7 _) (Step.still rfl)
      · exact o_ld _ (.tmp 30) rfl ((hS.get 4 (zad hdep 4 rfl) rfl rfl).trans (hX 4 (zad hdep 4 rfl))) ((hI.1.cell 0).trans rfl) ag_i (Step.still rfl)
      · exact o_fa _ (.tmp 7) 1 rfl (hS.old 7 rfl) (fa_n1 g7 _) (Step.still rfl)
      · exact o_ld _ (.tmp 32) rfl ((hS.get 6 (zad hdep 6 rfl) rfl rfl).trans (hX 6 (zad hdep 6 rfl))) ((hI.1.cell 1).trans rfl) ag_s (Step.still rfl)
      · refine zaR (.func 65) 65 #[.tmp 29, .tmp 31, .tmp 33] _ rfl rfl (ev3 ((hS.get 3 (zad hdep 3 rfl) rfl rfl).trans (hX 3 (zad hdep 3 rfl))) ((hS.get 5 (zad hdep 5 rfl) rfl rfl).trans (hX 5 (zad hdep 5 rfl))) ((hS.get 7 (zad hdep 7 rfl) rfl rfl).trans (hX 7 (zad hdep 7 rfl)))) (by kernel_rfl) (HJ.out.2.1 cw hI.2) (fun e w9 h => ?_)
        obtain ⟨rfl,hb9⟩:=h
        exact ⟨_,rfl,Step.new rfl hb9⟩
      · exact o_not _ (.tmp 34) rfl ((hS.get 8 (zad hdep 8 rfl) rfl rfl).trans (hX 8 (zad hdep 8 rfl))) (Step.still rfl)
    · intro v cq hI hX
      simp only [zbz,Act.put]
      simp
      rw [show v 9=.bool (!mb) from hX 9 (by decide)]
      have HE:=Lib.hid hI
      clear hI hX
      cases mb
      · have HN := Lib.hid (show RR = none from HRR.out.symm.trans (if_neg fun h => by
         have:=HMB.out
         rw [h.1,h.2] at this
         split at this <;> cases this))
        go_wp2_with fail
        go_ret2
        exact OncIs.bad HN.out HE.out.2.1
      · go_wp2_with fail
        go_roundw
        case rel => exact ⟨j + 1, by omega, by first | rfl | go_num, Lib.hid ⟨HE.out.2.2, fun _ => by
         by_cases h:j=0
         · have:=HMB.out;rw [if_pos h] at this;exact this
         · exact HR.out.2.1 (by omega),fun h=>by
         have:=HMB.out;rw [if_neg (by omega)] at this;exact this⟩⟩
        case measure=>simp [intOf];omega
  · obtain rfl : j = 2 := by omega
    have HN:Hid (RR=R3):=Lib.hid (HRR.out.symm.trans (if_pos ⟨HR.out.2.1 (by decide),HR.out.2.2 (by decide)⟩))
    clear HRR
    have HB:=Lib.hid (zaf HX.out.1 HR.out.1)
    clear HR
    unfold OnvIs at HO
    rcases R3 with _ | v3
    · go_wp2_with (first
       | (go_at_call 66;((with_reducible refine (HO.out _ HB.out).mono ?_);rintro e w9 ⟨hw,h1,h2⟩);have e1:=h1 rfl;subst e1;(have hw2:=hw.symm;clear hw;subst hw2);clear h1 h2))
      go_ret2
      exact OncIs.bad HN.out HB.out
    · go_wp2_with (first
       | (go_at_call 66;((with_reducible refine (HO.out _ HB.out).mono ?_);rintro e w9 ⟨hw,h1,h2⟩);obtain ⟨A9,c9,rfl,h3⟩:=h2 _ rfl;(have hw2:=hw.symm;clear hw;subst hw2);have HD:=Lib.hid (show OncIs RR w (.returned (.tuple #[.slice A9 v3.length c9,.bool true])) _ from by rw [HN.out];exact ⟨HB.out,fun h=>(by cases h),fun u hu=>by injection hu with hu;subst hu;exact ⟨A9,c9,rfl,h3⟩⟩);clear h1 h2 h3))
      go_ret2
      exact HD.out
end Go.Proofs.YtnlhbknajdpnbaaGreatDoor
