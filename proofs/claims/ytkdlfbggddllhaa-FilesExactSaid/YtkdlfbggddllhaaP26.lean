/-
  What is proved here: for any files, places, states and numbers all functions of the program agree with the reference.
-/
import Derived.Test.YtkdlfbggddllhaaP25
set_option linter.unusedVariables false
set_option linter.unusedSimpArgs false
namespace Go.Proofs.Ytkdlfbggddllhaa
open Go.RowKit
set_option maxRecDepth 8000
theorem eqIn_pl (a b : Int) (w : World) : (Op.equalIn 10000 27 (.agg (plV a b).toArray) (.agg (plV a b).toArray)).run Try.prog w = .ok true w := by
 show (Op.equalIn 10000 27 (.agg #[.int .i64 a,.int .i64 b]) (.agg #[.int .i64 a,.int .i64 b])).run Try.prog w=.ok true w
 have hS:Try.prog.underlying 27=some (.struct (Try.prog.fieldsOf 27)):=by kernel_rfl
 rw [show (10000:Nat)=9999+1 from rfl,run_equalIn_agg w 9999 27 _ _ hS (by kernel_rfl)]
 simp only [Program.fieldsOf,Try.underlying27]
 have u3:=Try.underlying3
 go_simp
theorem eql_pl (a b : Int) (p q : Operand) (w : World) : (do eqGuard .eql 27 p q (.agg (plV a b).toArray) (.agg (plV a b).toArray); binOp .eql 27 (.agg (plV a b).toArray) (.agg (plV a b).toArray)).run Try.prog w = .ok (.bool true) w := by
 rw [Sem.run_bind,run_eqGuard_agg w .eql 27 p q _ _ (by kernel_rfl),Result.andThen_ok,run_eql_struct,eqIn_pl]
 rfl
theorem eqIn_cn (a b : Int) (w : World) : (Op.equalIn 10000 54 (.agg (cnV a b).toArray) (.agg (cnV a b).toArray)).run Try.prog w = .ok true w := by
 show (Op.equalIn 10000 54 (.agg #[.int .i64 a,.int .i64 b]) (.agg #[.int .i64 a,.int .i64 b])).run Try.prog w=.ok true w
 have hS:Try.prog.underlying 54=some (.struct (Try.prog.fieldsOf 54)):=by kernel_rfl
 rw [show (10000:Nat)=9999+1 from rfl,run_equalIn_agg w 9999 54 _ _ hS (by kernel_rfl)]
 simp only [Program.fieldsOf,Try.underlying54]
 have u3:=Try.underlying3
 go_simp
theorem eql_cn (a b : Int) (p q : Operand) (w : World) : (do eqGuard .eql 54 p q (.agg (cnV a b).toArray) (.agg (cnV a b).toArray); binOp .eql 54 (.agg (cnV a b).toArray) (.agg (cnV a b).toArray)).run Try.prog w = .ok (.bool true) w := by
 rw [Sem.run_bind,run_eqGuard_agg w .eql 54 p q _ _ (by kernel_rfl),Result.andThen_ok,run_eql_struct,eqIn_cn]
 rfl
theorem zbb {P : Program} {ops : Array Oper} {C : World → Prop} {Q : Act → Prop} {a : Act} {o : Oper} {rest : List Oper} (hw : Region.wanted o (yielded ops a.tmps) = true) (b : BinOp) (T T2 : TypeId) (x y : Operand) (ho : o.op = .binOp b T x y T2) {v vx vy : Value} (hx : a.eval x = vx) (hy : a.eval y = vy)
 (hr:∀w,(do eqGuard b T x y vx vy;binOp b T vx vy).run P w=.ok v w) (hK:wpQuiet P ops C Q rest (a.put o.dst v)):wpQuiet P ops C Q (o::rest) a:=by
 refine Go.BigFrame.wpQuiet_want hw fun K hKK=>?_
 refine ⟨_,fun w hc=>?_,hKK _ hK⟩
 unfold Oper.quietAt execOp
 simp only [ho,hx,hy]
 rw [Sem.run_bind,hr]
 exact ⟨rfl,rfl⟩
theorem at_qanyW {P : Program} {ops : Array Oper} {C : World → Prop} {Q : Act → Prop} {a : Act} {d : Nat} {rest : List Oper} {op : Op} {t : TypeId} {ps : String} {af : Array Edge} {gd : Option (Nat × Bool)}
 (h:wpQuiet P ops C Q (⟨some d,op,t,ps,af,gd⟩::rest) a):wpQuiet P ops C Q (⟨some d,op,t,ps,af,gd⟩::rest) a:=h
theorem Own.quietW {w cur:World} {L:List (Nat×List Value)} {i g:Nat} {vs:List Value} (h:Own w cur L) (e:L[i]? = some (g,vs)):∀w',(∃p:Regrown,w'=Go.Sort.grow (redrawn cur p.d) p.os)→RowV w' g vs:=RowV.up (h.row e)
set_option maxHeartbeats 25600000 in
set_option maxRecDepth 20000 in
theorem exact17 (G : Gw) (app file : Int) (s : Sta) (n : Int) (lo : -9223372036854775808 ≤ s.rs) (hi : s.rs ≤ 9223372036854775807) (w : World) (hs : SeesW w (· < w.heap.size) G) :
 Calls Try.prog 8 #[.agg G.cs.toArray,.agg (plV app file).toArray,.agg s.cs.toArray,.int .i64 n] w fun e w'=>e=.returned (.bool true)∧Below w.heap.size w w':=by
 have HI:=Lib.hid (fun u (hb:Below w.heap.size w u)=>p_id17 G app file n u (hs.on hb))
 have HJ:=Lib.hid (fun u (hb:Below w.heap.size w u)=>r_id17 G app file n u (hs.on hb))
 have HS1:=Lib.hid (fun u (hb:Below w.heap.size w u)=>p_short17 G app file n u (hs.on hb))
 have HS2:=Lib.hid (fun u (hb:Below w.heap.size w u)=>r_short17 G app file n u (hs.on hb))
 have HA1:=Lib.hid (fun u (hb:Below w.heap.size w u)=>p_access G app file u (hs.on hb))
 have HA2:=Lib.hid (fun u (hb:Below w.heap.size w u)=>r_access G app file u (hs.on hb))
 have HR1:=Lib.hid (fun u (hb:Below w.heap.size w u)=>p_read G app file s n 9 lo hi u (hs.on hb))
 have HR2:=Lib.hid (fun u (hb:Below w.heap.size w u)=>r_read G app file s n 9 lo hi u (hs.on hb))
 have HV1:=Lib.hid (fun u (hb:Below w.heap.size w u)=>p_valid17 G u (hs.on hb))
 have HV2:=Lib.hid (fun u (hb:Below w.heap.size w u)=>r_valid17 G u (hs.on hb))
 have hlen : (redV G app file s n 9).length ≤ 4096 := by
  unfold redV
  split
  · rw [List.length_take, List.length_drop]
    have:=sel_d (G:=G) (app:=app) (file:=file)
    omega
  · exact Nat.zero_le _
 unfold zaW at HI HJ HS1 HS2
 unfold AccIs at HA1 HA2
 unfold RedIs at HR1 HR2
 obtain ⟨us,hus⟩ : ∃us,G.cs=us:=⟨_,rfl⟩
 have h2:us.length=2:=by rw [←hus];rfl
 obtain ⟨ss,hss⟩ : ∃us,s.cs=us:=⟨_,rfl⟩
 have h5:ss.length=5:=by rw [←hss];rfl
 obtain ⟨E1,hE1⟩ : ∃v,fndE G app file (idB n)=v:=⟨_,rfl⟩
 obtain ⟨P1,hP1⟩ : ∃v,(fndP G app file (idB n)).1=v:=⟨_,rfl⟩
 obtain ⟨P2,hP2⟩ : ∃v,(fndP G app file (idB n)).2=v:=⟨_,rfl⟩
 obtain ⟨E2,hE2⟩ : ∃v,fndE G app file (srtB n)=v:=⟨_,rfl⟩
 obtain ⟨Q1,hQ1⟩ : ∃v,(fndP G app file (srtB n)).1=v:=⟨_,rfl⟩
 obtain ⟨Q2,hQ2⟩ : ∃v,(fndP G app file (srtB n)).2=v:=⟨_,rfl⟩
 obtain ⟨E3,hE3⟩ : ∃v,selE G app file=v:=⟨_,rfl⟩
 obtain ⟨lv,hlv⟩ : ∃v,(selF G app file).lv=v:=⟨_,rfl⟩
 obtain ⟨rt,hrt⟩ : ∃v,(selF G app file).rt=v:=⟨_,rfl⟩
 obtain ⟨E4,hE4⟩ : ∃v,redE G app file s n 9=v:=⟨_,rfl⟩
 obtain ⟨BB,hBB⟩ : ∃v,redB G app file s n 9=v:=⟨_,rfl⟩
 obtain ⟨V,hV⟩ : ∃v,redV G app file s n 9=v:=⟨_,rfl⟩
 obtain ⟨E5,hE5⟩ : ∃v,valE G=v:=⟨_,rfl⟩
 rw [hus,hE1,hP1,hP2] at HI HJ
 rw [hus,hE2,hQ1,hQ2] at HS1 HS2
 rw [hus,hE3,hlv,hrt] at HA1 HA2
 rw [hus,hss,hE4,hBB,hV] at HR1 HR2
 rw [hus,hE5] at HV1 HV2
 rw [hV] at hlen
 rw [hus,hss]
 obtain ⟨vl,hvl⟩ : ∃v,V.length=v:=⟨_,rfl⟩
 rw [hvl] at HR1 HR2 hlen
 have HSM := Lib.hid (fun (A1 A2 : Option Addr) (c1 c2 : Nat) u (h1 : SeesP u (· < u.heap.size) A1 (Us V)) (h2 : SeesP u (· < u.heap.size) A2 (Us V)) => (show Calls Try.prog 22 #[.slice A1 vl c1, .slice A2 vl c2] u fun e w' => e = .returned (.bool true) ∧ Below u.heap.size u w' from by
  have h:=r_same17 A1 A2 c1 c2 vl vl V V u h1 h2 hvl hvl (by omega)
  rwa [zby rfl] at h))
 have H2:=Lib.hid (show us.length=2∧ss.length=5 from ⟨h2,h5⟩)
 have HO:=Lib.hid (Own.start w)
 have d1:(E1==E1)=true:=by simp
 have d2:(E2==E2)=true:=by simp
 have d3:(E3==E3)=true:=by simp
 have d4:(E4==E4)=true:=by simp
 have d5:(E5==E5)=true:=by simp
 have d6:(BB==BB)=true:=by simp
 clear hs hus hss h2 h5 hE1 hP1 hP2 hE2 hQ1 hQ2 hE3 hlv hrt hE4 hBB hV hE5 hvl hlen lo hi
 go_enter Try.func8,Try.ntmps8
 go_wp2_with (first
  | ((with_reducible refine zag (d:=4) ?_);refine zab (op:=⟨some 4,_,_,_,_,_⟩) rfl 25 _ rfl (us) rfl ?_;intro g4 w1 hf hr;have L1:=Lib.hid (show Own w w1 [(g4,us)] from HO.out.new hf hr);clear hf hr)
  | ((with_reducible refine zag (d:=5) ?_);refine zab (op:=⟨some 5,_,_,_,_,_⟩) rfl 27 _ rfl (plV app file) rfl ?_;intro g5 w2 hf hr;have L2:=Lib.hid (show Own w w2 [(g4,us),(g5,plV app file)] from L1.out.new hf hr);clear hf hr)
  | ((with_reducible refine zag (d:=6) ?_);refine zab (op:=⟨some 6,_,_,_,_,_⟩) rfl 29 _ rfl (ss) rfl ?_;intro g6 w3 hf hr;have L3:=Lib.hid (show Own w w3 [(g4,us),(g5,plV app file),(g6,ss)] from L2.out.new hf hr);clear hf hr)
  | ((with_reducible refine zac (d:=28) ?_);refine zaa rfl 25 (.tmp 4) rfl g4 rfl (us) _ (L3.out.row (i:=0) rfl) Try.underlying25 rfl (by rw [H2.out.1];exact zal) ?_)
  | ((with_reducible refine zac (d:=29) ?_);refine zaa rfl 27 (.tmp 5) rfl g5 rfl (plV app file) _ (L3.out.row (i:=1) rfl) Try.underlying27 rfl (zah) ?_)
  | (go_at_call 29;((with_reducible refine (HI.out _ L3.out.bl).mono ?_);rintro e w4 ⟨rfl,hb⟩);have L4:=Lib.hid (show Own w w4 [(g4,us),(g5,plV app file),(g6,ss)] from L3.out.on hb);clear hb)
  | ((with_reducible refine zaj (d:=9) ?_);refine zae (op:=⟨some 9,_,_,_,_,_⟩) rfl 27 rfl (plV 0 0) zav ?_;intro g9 w5 hf hr;have L5:=Lib.hid (show Own w w5 [(g4,us),(g5,plV app file),(g6,ss),(g9,plV 0 0)] from L4.out.new hf hr);clear hf hr)
  | ((with_reducible refine zai (i:=9) ?_);go_must (refine zad rfl 27 (.tmp 9) _ rfl g9 (plV 0 0) (plV P1 P2) rfl rfl (L5.out.row (i:=3) rfl) rfl (zaz _ _) zah ?_);intro w6 hw hr;have L6:=Lib.hid (show Own w w6 [(g4,us),(g5,plV app file),(g6,ss),(g9,plV P1 P2)] from L5.out.set (i:=3) rfl hw hr);clear hw hr)
  | ((with_reducible refine zac (d:=35) ?_);refine zaa rfl 25 (.tmp 4) rfl g4 rfl (us) _ (L6.out.row (i:=0) rfl) Try.underlying25 rfl (by rw [H2.out.1];exact zal) ?_)
  | ((with_reducible refine zac (d:=36) ?_);refine zaa rfl 27 (.tmp 5) rfl g5 rfl (plV app file) _ (L6.out.row (i:=1) rfl) Try.underlying27 rfl (zah) ?_)
  | (go_at_call 30;((with_reducible refine (HJ.out _ L6.out.bl).mono ?_);rintro e w7 ⟨rfl,hb⟩);have L7:=Lib.hid (show Own w w7 [(g4,us),(g5,plV app file),(g6,ss),(g9,plV P1 P2)] from L6.out.on hb);clear hb)
  | ((with_reducible refine zaj (d:=11) ?_);refine zae (op:=⟨some 11,_,_,_,_,_⟩) rfl 27 rfl (plV 0 0) zav ?_;intro g11 w8 hf hr;have L8:=Lib.hid (show Own w w8 [(g4,us),(g5,plV app file),(g6,ss),(g9,plV P1 P2),(g11,plV 0 0)] from L7.out.new hf hr);clear hf hr)
  | ((with_reducible refine zai (i:=11) ?_);go_must (refine zad rfl 27 (.tmp 11) _ rfl g11 (plV 0 0) (plV P1 P2) rfl rfl (L8.out.row (i:=4) rfl) rfl (zaz _ _) zah ?_);intro w9 hw hr;have L9:=Lib.hid (show Own w w9 [(g4,us),(g5,plV app file),(g6,ss),(g9,plV P1 P2),(g11,plV P1 P2)] from L8.out.set (i:=4) rfl hw hr);clear hw hr)
  | ((with_reducible refine zac (d:=42) ?_);refine zaa rfl 25 (.tmp 4) rfl g4 rfl (us) _ (L9.out.row (i:=0) rfl) Try.underlying25 rfl (by rw [H2.out.1];exact zal) ?_)
  | ((with_reducible refine zac (d:=43) ?_);refine zaa rfl 27 (.tmp 5) rfl g5 rfl (plV app file) _ (L9.out.row (i:=1) rfl) Try.underlying27 rfl (zah) ?_)
  | (go_at_call 28;((with_reducible refine (HS1.out _ L9.out.bl).mono ?_);rintro e w10 ⟨rfl,hb⟩);have L10:=Lib.hid (show Own w w10 [(g4,us),(g5,plV app file),(g6,ss),(g9,plV P1 P2),(g11,plV P1 P2)] from L9.out.on hb);clear hb)
  | ((with_reducible refine zaj (d:=13) ?_);refine zae (op:=⟨some 13,_,_,_,_,_⟩) rfl 27 rfl (plV 0 0) zav ?_;intro g13 w11 hf hr;have L11:=Lib.hid (show Own w w11 [(g4,us),(g5,plV app file),(g6,ss),(g9,plV P1 P2),(g11,plV P1 P2),(g13,plV 0 0)] from L10.out.new hf hr);clear hf hr)
  | ((with_reducible refine zai (i:=13) ?_);go_must (refine zad rfl 27 (.tmp 13) _ rfl g13 (plV 0 0) (plV Q1 Q2) rfl rfl (L11.out.row (i:=5) rfl) rfl (zaz _ _) zah ?_);intro w12 hw hr;have L12:=Lib.hid (show Own w w12 [(g4,us),(g5,plV app file),(g6,ss),(g9,plV P1 P2),(g11,plV P1 P2),(g13,plV Q1 Q2)] from L11.out.set (i:=5) rfl hw hr);clear hw hr)
  | ((with_reducible refine zac (d:=49) ?_);refine zaa rfl 25 (.tmp 4) rfl g4 rfl (us) _ (L12.out.row (i:=0) rfl) Try.underlying25 rfl (by rw [H2.out.1];exact zal) ?_)
  | ((with_reducible refine zac (d:=50) ?_);refine zaa rfl 27 (.tmp 5) rfl g5 rfl (plV app file) _ (L12.out.row (i:=1) rfl) Try.underlying27 rfl (zah) ?_)
  | (go_at_call 31;((with_reducible refine (HS2.out _ L12.out.bl).mono ?_);rintro e w13 ⟨rfl,hb⟩);have L13:=Lib.hid (show Own w w13 [(g4,us),(g5,plV app file),(g6,ss),(g9,plV P1 P2),(g11,plV P1 P2),(g13,plV Q1 Q2)] from L12.out.on hb);clear hb)
  | ((with_reducible refine zaj (d:=15) ?_);refine zae (op:=⟨some 15,_,_,_,_,_⟩) rfl 27 rfl (plV 0 0) zav ?_;intro g15 w14 hf hr;have L14:=Lib.hid (show Own w w14 [(g4,us),(g5,plV app file),(g6,ss),(g9,plV P1 P2),(g11,plV P1 P2),(g13,plV Q1 Q2),(g15,plV 0 0)] from L13.out.new hf hr);clear hf hr)
  | ((with_reducible refine zai (i:=15) ?_);go_must (refine zad rfl 27 (.tmp 15) _ rfl g15 (plV 0 0) (plV Q1 Q2) rfl rfl (L14.out.row (i:=6) rfl) rfl (zaz _ _) zah ?_);intro w15 hw hr;have L15:=Lib.hid (show Own w w15 [(g4,us),(g5,plV app file),(g6,ss),(g9,plV P1 P2),(g11,plV P1 P2),(g13,plV Q1 Q2),(g15,plV Q1 Q2)] from L14.out.set (i:=6) rfl hw hr);clear hw hr)
  | ((with_reducible refine zac (d:=56) ?_);refine zaa rfl 25 (.tmp 4) rfl g4 rfl (us) _ (L15.out.row (i:=0) rfl) Try.underlying25 rfl (by rw [H2.out.1];exact zal) ?_)
  | ((with_reducible refine zac (d:=57) ?_);refine zaa rfl 27 (.tmp 5) rfl g5 rfl (plV app file) _ (L15.out.row (i:=1) rfl) Try.underlying27 rfl (zah) ?_)
  | (go_at_call 32;((with_reducible refine (HA1.out _ L15.out.bl).mono ?_);rintro e w16 ⟨rfl,hb⟩);have L16:=Lib.hid (show Own w w16 [(g4,us),(g5,plV app file),(g6,ss),(g9,plV P1 P2),(g11,plV P1 P2),(g13,plV Q1 Q2),(g15,plV Q1 Q2)] from L15.out.on hb);clear hb)
  | ((with_reducible refine zaj (d:=17) ?_);refine zae (op:=⟨some 17,_,_,_,_,_⟩) rfl 54 rfl (cnV 0 0) zax ?_;intro g17 w17 hf hr;have L17:=Lib.hid (show Own w w17 [(g4,us),(g5,plV app file),(g6,ss),(g9,plV P1 P2),(g11,plV P1 P2),(g13,plV Q1 Q2),(g15,plV Q1 Q2),(g17,cnV 0 0)] from L16.out.new hf hr);clear hf hr)
  | ((with_reducible refine zai (i:=17) ?_);go_must (refine zad rfl 54 (.tmp 17) _ rfl g17 (cnV 0 0) (cnV lv rt) rfl rfl (L17.out.row (i:=7) rfl) rfl (zaH _ _) zan ?_);intro w18 hw hr;have L18:=Lib.hid (show Own w w18 [(g4,us),(g5,plV app file),(g6,ss),(g9,plV P1 P2),(g11,plV P1 P2),(g13,plV Q1 Q2),(g15,plV Q1 Q2),(g17,cnV lv rt)] from L17.out.set (i:=7) rfl hw hr);clear hw hr)
  | ((with_reducible refine zac (d:=62) ?_);refine zaa rfl 25 (.tmp 4) rfl g4 rfl (us) _ (L18.out.row (i:=0) rfl) Try.underlying25 rfl (by rw [H2.out.1];exact zal) ?_)
  | ((with_reducible refine zac (d:=63) ?_);refine zaa rfl 27 (.tmp 5) rfl g5 rfl (plV app file) _ (L18.out.row (i:=1) rfl) Try.underlying27 rfl (zah) ?_)
  | (go_at_call 33;((with_reducible refine (HA2.out _ L18.out.bl).mono ?_);rintro e w19 ⟨rfl,hb⟩);have L19:=Lib.hid (show Own w w19 [(g4,us),(g5,plV app file),(g6,ss),(g9,plV P1 P2),(g11,plV P1 P2),(g13,plV Q1 Q2),(g15,plV Q1 Q2),(g17,cnV lv rt)] from L18.out.on hb);clear hb)
  | ((with_reducible refine zaj (d:=19) ?_);refine zae (op:=⟨some 19,_,_,_,_,_⟩) rfl 54 rfl (cnV 0 0) zax ?_;intro g19 w20 hf hr;have L20:=Lib.hid (show Own w w20 [(g4,us),(g5,plV app file),(g6,ss),(g9,plV P1 P2),(g11,plV P1 P2),(g13,plV Q1 Q2),(g15,plV Q1 Q2),(g17,cnV lv rt),(g19,cnV 0 0)] from L19.out.new hf hr);clear hf hr)
  | ((with_reducible refine zai (i:=19) ?_);go_must (refine zad rfl 54 (.tmp 19) _ rfl g19 (cnV 0 0) (cnV lv rt) rfl rfl (L20.out.row (i:=8) rfl) rfl (zaH _ _) zan ?_);intro w21 hw hr;have L21:=Lib.hid (show Own w w21 [(g4,us),(g5,plV app file),(g6,ss),(g9,plV P1 P2),(g11,plV P1 P2),(g13,plV Q1 Q2),(g15,plV Q1 Q2),(g17,cnV lv rt),(g19,cnV lv rt)] from L20.out.set (i:=8) rfl hw hr);clear hw hr)
  | ((with_reducible refine zac (d:=68) ?_);refine zaa rfl 25 (.tmp 4) rfl g4 rfl (us) _ (L21.out.row (i:=0) rfl) Try.underlying25 rfl (by rw [H2.out.1];exact zal) ?_)
  | ((with_reducible refine zac (d:=69) ?_);refine zaa rfl 27 (.tmp 5) rfl g5 rfl (plV app file) _ (L21.out.row (i:=1) rfl) Try.underlying27 rfl (zah) ?_)
  | ((with_reducible refine zac (d:=70) ?_);refine zaa rfl 29 (.tmp 6) rfl g6 rfl (ss) _ (L21.out.row (i:=2) rfl) Try.underlying29 rfl (by rw [H2.out.2];exact zay) ?_)
  | (go_at_call 20;((with_reducible refine (HR1.out _ L21.out.bl).mono ?_);rintro e w22 ⟨A21,c21,rfl,_,hsv,hb⟩);have L22:=Lib.hid (show Own w w22 [(g4,us),(g5,plV app file),(g6,ss),(g9,plV P1 P2),(g11,plV P1 P2),(g13,plV Q1 Q2),(g15,plV Q1 Q2),(g17,cnV lv rt),(g19,cnV lv rt)] from L21.out.on hb);have HY:=Lib.hid (show SeesP w22 (· < w22.heap.size) A21 (Us V) from hsv.imp fun b hb=>newB_lt hb);clear hsv;clear hb)
  | ((with_reducible refine zac (d:=77) ?_);refine zaa rfl 25 (.tmp 4) rfl g4 rfl (us) _ (L22.out.row (i:=0) rfl) Try.underlying25 rfl (by rw [H2.out.1];exact zal) ?_)
  | ((with_reducible refine zac (d:=78) ?_);refine zaa rfl 27 (.tmp 5) rfl g5 rfl (plV app file) _ (L22.out.row (i:=1) rfl) Try.underlying27 rfl (zah) ?_)
  | ((with_reducible refine zac (d:=79) ?_);refine zaa rfl 29 (.tmp 6) rfl g6 rfl (ss) _ (L22.out.row (i:=2) rfl) Try.underlying29 rfl (by rw [H2.out.2];exact zay) ?_)
  | (go_at_call 21;((with_reducible refine (HR2.out _ L22.out.bl).mono ?_);rintro e w23 ⟨A24,c24,rfl,_,hsv,hb⟩);have L23:=Lib.hid (show Own w w23 [(g4,us),(g5,plV app file),(g6,ss),(g9,plV P1 P2),(g11,plV P1 P2),(g13,plV Q1 Q2),(g15,plV Q1 Q2),(g17,cnV lv rt),(g19,cnV lv rt)] from L22.out.on hb);have HZ:=Lib.hid (show SeesP w23 (· < w23.heap.size) A21 (Us V)∧SeesP w23 (· < w23.heap.size) A24 (Us V) from ⟨SeesP.on2 HY.out hb,hsv.imp fun b hb=>newB_lt hb⟩);clear hsv;clear hb))
 have qa:=zaB (w:=w23) fun w' _=>awake17 w'
 have qv:=zaB (w:=w23) fun w' hb=>HV1.out w' (zaf L23.out.bl hb)
 have qr:=zaB (w:=w23) fun w' hb=>HV2.out w' (zaf L23.out.bl hb)
 have qs:=zaB (w:=w23) fun w' hb=>HSM.out A21 A24 c21 c24 w' (SeesP.on2 HZ.out.1 hb) (SeesP.on2 HZ.out.2 hb)
 refine wp_region_quiet_below (by kernel_rfl) (by kernel_rfl) ?_
 repeat (first
  | ((with_reducible refine zat (d:=87) ?_);refine zaq (by rfl) 25 (.tmp 4) rfl g4 rfl (us) _ (L23.out.quietW (i:=0) rfl) Try.underlying25 rfl (by rw [H2.out.1];exact zal) ?_;simp only [Act.put];simp)
  | ((with_reducible refine zat (d:=89) ?_);refine zaq (by rfl) 25 (.tmp 4) rfl g4 rfl (us) _ (L23.out.quietW (i:=0) rfl) Try.underlying25 rfl (by rw [H2.out.1];exact zal) ?_;simp only [Act.put];simp)
  | ((with_reducible refine zat (d:=99) ?_);refine zaq (by rfl) 27 (.tmp 9) rfl g9 rfl (plV P1 P2) _ (L23.out.quietW (i:=3) rfl) Try.underlying27 rfl (zah) ?_;simp only [Act.put];simp)
  | ((with_reducible refine zat (d:=100) ?_);refine zaq (by rfl) 27 (.tmp 11) rfl g11 rfl (plV P1 P2) _ (L23.out.quietW (i:=4) rfl) Try.underlying27 rfl (zah) ?_;simp only [Act.put];simp)
  | ((with_reducible refine at_qanyW (d:=101) ?_);refine zbb (by rfl) .eql 27 27 (.tmp 99) (.tmp 100) rfl rfl rfl (fun w=>eql_pl _ _ _ _ w) ?_;simp only [Act.put];simp)
  | ((with_reducible refine zat (d:=109) ?_);refine zaq (by rfl) 27 (.tmp 13) rfl g13 rfl (plV Q1 Q2) _ (L23.out.quietW (i:=5) rfl) Try.underlying27 rfl (zah) ?_;simp only [Act.put];simp)
  | ((with_reducible refine zat (d:=110) ?_);refine zaq (by rfl) 27 (.tmp 15) rfl g15 rfl (plV Q1 Q2) _ (L23.out.quietW (i:=6) rfl) Try.underlying27 rfl (zah) ?_;simp only [Act.put];simp)
  | ((with_reducible refine at_qanyW (d:=111) ?_);refine zbb (by rfl) .eql 27 27 (.tmp 109) (.tmp 110) rfl rfl rfl (fun w=>eql_pl _ _ _ _ w) ?_;simp only [Act.put];simp)
  | ((with_reducible refine zat (d:=119) ?_);refine zaq (by rfl) 54 (.tmp 17) rfl g17 rfl (cnV lv rt) _ (L23.out.quietW (i:=7) rfl) Try.underlying54 rfl (zan) ?_;simp only [Act.put];simp)
  | ((with_reducible refine zat (d:=120) ?_);refine zaq (by rfl) 54 (.tmp 19) rfl g19 rfl (cnV lv rt) _ (L23.out.quietW (i:=8) rfl) Try.underlying54 rfl (zan) ?_;simp only [Act.put];simp)
  | ((with_reducible refine at_qanyW (d:=121) ?_);refine zbb (by rfl) .eql 54 54 (.tmp 119) (.tmp 120) rfl rfl rfl (fun w=>eql_cn _ _ _ _ w) ?_;simp only [Act.put];simp)
  | go_big_quiet_skip | (go_big_quiet_want;go_big_quiet_op;go_big_quiet_on) | quiet_step (first | with_reducible exact qa _ _ | with_reducible exact qv _ _ | with_reducible exact qr _ _ | with_reducible exact qs _ _))
 refine wpQuiet_nil ?_
 intro p9
 have H9:=Lib.hid (zaf L23.out.bl (zau (w:=w23) ⟨p9,rfl⟩))
 generalize (Go.Sort.grow (redrawn w23 p9.d) p9.os)=wz at *
 clear qa qv qr qs
 go_wp2
 go_ret
 exact ⟨rfl,H9.out⟩
end Go.Proofs.Ytkdlfbggddllhaa
