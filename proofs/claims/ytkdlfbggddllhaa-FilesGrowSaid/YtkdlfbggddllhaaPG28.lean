/-
  What is proved here: Read of the program and of the reference.
-/
import Derived.Test.YtkdlfbggddllhaaPG26
import Derived.Test.YtkdlfbggddllhaaPG9
import Derived.Test.YtkdlfbggddllhaaPG27
set_option linter.unusedVariables false
set_option linter.unusedSimpArgs false
namespace Go.Proofs.Ytkdlfbggddllhaa
open Go.RowKit
set_option maxRecDepth 8000
theorem red_none {w w' : World} {G : Gw} {app file : Int} {s : Sta} {off n E : Int} (hE : redE G app file s off n = E) (hV : redV G app file s off n = []) (hB : redB G app file s off n = false) (hb : Below w.heap.size w w') :
 RedIs w G app file s off n (.returned (.tuple #[.slice none 0 0,.bool false,.int .i64 E])) w' :=
 ⟨none,0,by rw [hE,hV,hB];rfl,⟨fun _=>rfl,by rw [hV];exact Nat.le_refl _⟩,by rw [hV];exact .inl rfl,hb⟩
theorem red_some {w w' : World} {G : Gw} {app file : Int} {s : Sta} {off n : Int} {k m q : Nat} {d : List UInt8} {A : Option Addr} {c : Nat} {bb : Bool} (hd : (selF G app file).d = d) (hE : redE G app file s off n = 0) (hV : redV G app file s off n = ((selF G app file).d.drop k).take m) (hB : redB G app file s off n = bb)
 (hq:((d.drop k).take m).length=q) (hc:(A=none→c=0)∧q≤c) (hs:SeesP w' (newB w w') A (Us ((d.drop k).take m))) (hb:Below w.heap.size w w') :
 RedIs w G app file s off n (.returned (.tuple #[.slice A q c,.bool bb,.int .i64 0])) w':=by
 rw [hd] at hV
 exact ⟨A,c,by rw [hE,hV,hB,hq],⟨hc.1,by rw [hV,hq];exact hc.2⟩,by rw [hV];exact hs,hb⟩
theorem zbk {P : Program} {ops : Array Oper} {rest : List Oper} {o : Oper} {a : Act} {w : World} {Q : Exit → Act → World → Prop} (hgd : o.guard = none) (T : TypeId) (x : Operand) (lo hi mx : Option Operand) (ho : o.op = .slice T x lo hi mx) {v vx : Value} {l h m : Option Value} (hx : a.eval x = vx) (hl : lo.map a.eval = l) (hh : hi.map a.eval = h) (hm : mx.map a.eval = m) (hr : (Instr.sliceAt T vx l h m).run P w = .ok v w) (hK : wpList P ops Q rest (a.put o.dst v) w) : wpList P ops Q (o :: rest) a w :=
 wpList_plain hgd fun _ hK2=>o_sl T x lo hi mx ho hx hl hh hm hr (hK2 _ _ hK)
set_option maxHeartbeats 12800000 in
theorem p_read (G : Gw) (app file : Int) (s : Sta) (off n : Int) (lo : -9223372036854775808 ≤ s.rs) (hi : s.rs ≤ 9223372036854775807) (w : World) (hs : SeesW w (· < w.heap.size) G) :
 Calls Try.prog 20 #[.agg G.cs.toArray,.agg (plV app file).toArray,.agg s.cs.toArray,.int .i64 off,.int .i64 n] w (RedIs w G app file s off n):=by
 obtain ⟨i0,hi0,hz0,hz1,hz2⟩:=info_parts info_u8b
 obtain ⟨dl,hdl⟩ : ∃z,(selF G app file).d.length=z:=⟨_,rfl⟩
 have hcs:=red_cases G app file s off n dl hdl
 have HA:=Lib.hid (fun u (hb:Below w.heap.size w u)=>p_selected G app file u (hs.on hb))
 have HAL:=Lib.hid (fun u=>zaE (selF G app file).lv (selF G app file).rt s lo hi u)
 have HFI:=Lib.hid (fun u (hb:Below w.heap.size w u)=>sel_fin (app:=app) (file:=file) (hs.on hb))
 have hdb:dl≤4096:=by rw [←hdl];exact sel_d
 obtain ⟨us,hus⟩ : ∃us,G.cs=us:=⟨_,rfl⟩
 have h2:us.length=2:=by rw [←hus];rfl
 obtain ⟨ss,hss⟩ : ∃us,s.cs=us:=⟨_,rfl⟩
 have hs5:ss.length=5:=by rw [←hss];rfl
 obtain ⟨FE,hFE⟩ : ∃v,selE G app file=v:=⟨_,rfl⟩
 obtain ⟨vs,hvs⟩ : ∃vs,(selF G app file).cs=vs:=⟨_,rfl⟩
 obtain ⟨lv,hlv⟩ : ∃v,(selF G app file).lv=v:=⟨_,rfl⟩
 obtain ⟨rt,hrt⟩ : ∃v,(selF G app file).rt=v:=⟨_,rfl⟩
 obtain ⟨dA,hdA⟩ : ∃v,(selF G app file).A=v:=⟨_,rfl⟩
 obtain ⟨dc,hdc⟩ : ∃v,(selF G app file).c=v:=⟨_,rfl⟩
 have HV:=Lib.hid (show vs.length=5∧(∀u∈vs,u.oneCell'=true)∧(vs.drop 3).take 2=cnV lv rt∧vs[2]? = some (.slice dA dl dc) from ⟨by rw [←hvs];rfl,by rw [←hvs];exact Fw.cs_one _,by rw [←hvs,←hlv,←hrt];rfl,by rw [←hvs,←hdl,←hdA,←hdc];rfl⟩)
 obtain ⟨d,hd⟩ : ∃v,(selF G app file).d=v:=⟨_,rfl⟩
 have hcap : dl ≤ dc ∧ (dA = none → dc = 0) := by
  have h:=sel_fin (app:=app) (file:=file) hs
  unfold FwIn at h
  rw [hdl,hdA,hdc] at h
  exact h.2
 have HD := Lib.hid (show (∀ u, Below w.heap.size w u → SeesP u (· < u.heap.size) dA (Us d)) ∧ d.length = dl from ⟨fun u hb => by
  have h:=(HFI.out u hb).1
  rw [hdA,hd] at h
  exact h,by rw [←hd];exact hdl⟩)
 rw [hvs,hFE] at HA
 rw [hlv,hrt,hss] at HAL
 rw [hFE,hlv,hrt] at hcs
 obtain ⟨al,hal⟩ : ∃v,alwB lv rt s=v:=⟨_,rfl⟩
 rw [hal] at HAL hcs
 rw [hus] at HA ⊢
 rw [hss]
 have HB:=Lib.hid (Below.refl w.heap.size w)
 have H2:=Lib.hid (show us.length=2∧ss.length=5 from ⟨h2,hs5⟩)
 have HDD:=Lib.hid hd
 clear hs hus h2 hss hs5 hFE hvs hlv hrt hdA hdc hd HFI hdl hal
 rcases hcs with ⟨hE0,hV0,hB0,h⟩ | ⟨k,m,rfl,rfl,hk,hm1,hm4,rfl,rfl,hE,hV,hBB⟩
 · have HN := Lib.hid (fun (E : Int) (he : redE G app file s off n = E) (w' : World) (hb : Below w.heap.size w w') => red_none he hV0 hB0 hb)
   rcases h with ⟨h1,he⟩ | ⟨rfl,rfl,he⟩ | ⟨rfl,rfl,he,h⟩
   · have HE := Lib.hid he
     clear hE0 hV0 hB0 he hcap
     go_enter Try.func20,Try.ntmps20
     go_wp2_with (first
      | ((with_reducible refine zag (d:=5) ?_);refine zaa (op:=⟨some 5,_,_,_,_,_⟩) rfl 25 _ rfl us rfl ?_;intro g5 w1 hf hr;have H1:=Lib.hid (show Below w.heap.size w w1∧RowV w1 g5 us from ⟨hf.bl HB.out,hr⟩);clear hf hr)
      | ((with_reducible refine zag (d:=6) ?_);refine zaa (op:=⟨some 6,_,_,_,_,_⟩) rfl 27 _ rfl (plV app file) rfl ?_;intro g6 w2 hf hr;have H3:=Lib.hid (show Below w.heap.size w w2∧RowV w2 g5 us∧RowV w2 g6 (plV app file) from ⟨hf.bl H1.out.1,H1.out.2.fresh hf,hr⟩);clear hf hr)
      | ((with_reducible refine zag (d:=7) ?_);refine zaa (op:=⟨some 7,_,_,_,_,_⟩) rfl 29 _ rfl ss rfl ?_;intro g7 w3 hf hr;have H4:=Lib.hid (show Below w.heap.size w w3∧RowV w3 g5 us∧RowV w3 g6 (plV app file)∧RowV w3 g7 ss from ⟨hf.bl H3.out.1,H3.out.2.1.fresh hf,H3.out.2.2.fresh hf,hr⟩);clear hf hr)
      | ((with_reducible refine zac (d:=16) ?_);refine zab rfl 25 (.tmp 5) rfl g5 rfl us _ H4.out.2.1 Try.underlying25 rfl (by rw [H2.out.1];exact zas) ?_)
      | ((with_reducible refine zac (d:=17) ?_);refine zab rfl 27 (.tmp 6) rfl g6 rfl (plV app file) _ H4.out.2.2.1 Try.underlying27 rfl zam ?_)
      | (go_at_call 41;((with_reducible refine (HA.out _ H4.out.1).mono ?_);rintro e w4 ⟨rfl,h⟩);have H5:=Lib.hid (show Below w.heap.size w w4∧RowV w4 g7 ss from ⟨zad H4.out.1 h,H4.out.2.2.2.on h⟩);clear h)
      | ((with_reducible refine zaj (d:=13) ?_);refine zae (op:=⟨some 13,_,_,_,_,_⟩) rfl 60 rfl zerF.cs zaB ?_;intro g13 w5 hf hr;have H5B:=Lib.hid (show Below w.heap.size w w5∧RowV w5 g7 ss∧RowV w5 g13 zerF.cs∧w.heap.size≤g13∧g7≠g13 from ⟨hf.bl H5.out.1,H5.out.2.fresh hf,hr,hf.ge H5.out.1,H5.out.2.ne hf⟩);clear hf hr)
      | ((with_reducible refine zah (i:=13) ?_);go_must (refine zaf rfl 60 (.tmp 13) _ rfl g13 zerF.cs vs rfl rfl H5B.out.2.2.1 HV.out.1 HV.out.2.1 (by rw [HV.out.1];exact zaq) ?_);intro w6 hw hr;have H6:=Lib.hid (show Below w.heap.size w w6∧RowV w6 g7 ss∧RowV w6 g13 vs from ⟨Wr.bl H5B.out.1 hw H5B.out.2.2.2.1,H5B.out.2.1.wr hw H5B.out.2.2.2.2,hr⟩);clear hw hr)
      | ((with_reducible refine zac (d:=25) ?_);go_must (refine wpList_load_mid rfl 54 (.tmp 24) rfl g13 3 rfl (cnV lv rt) _ (by rw [←HV.out.2.2.1];exact H6.out.2.2.range 3 2 (by rw [HV.out.1];decide)) Try.underlying54 rfl zat ?_))
      | ((with_reducible refine zac (d:=26) ?_);refine zab rfl 29 (.tmp 7) rfl g7 rfl ss _ H6.out.2.1 Try.underlying29 rfl (by rw [H2.out.2];exact zao) ?_)
      | (go_at_call 23;((with_reducible refine (HAL.out _).mono ?_);rintro e w8 ⟨rfl,h⟩);have H8:=Lib.hid (show Below w.heap.size w w8∧RowV w8 g13 vs from ⟨zad H6.out.1 h,H6.out.2.2.on h⟩);have c2:=(H8.out.2.cell 2).trans HV.out.2.2.2;clear h))
     go_ret3
     exact HN.out _ HE.out _ H6.out.1
   · have HE := Lib.hid he
     clear hE0 hV0 hB0 he hcap
     go_enter Try.func20,Try.ntmps20
     go_wp2_with (first
      | ((with_reducible refine zag (d:=5) ?_);refine zaa (op:=⟨some 5,_,_,_,_,_⟩) rfl 25 _ rfl us rfl ?_;intro g5 w1 hf hr;have H1:=Lib.hid (show Below w.heap.size w w1∧RowV w1 g5 us from ⟨hf.bl HB.out,hr⟩);clear hf hr)
      | ((with_reducible refine zag (d:=6) ?_);refine zaa (op:=⟨some 6,_,_,_,_,_⟩) rfl 27 _ rfl (plV app file) rfl ?_;intro g6 w2 hf hr;have H3:=Lib.hid (show Below w.heap.size w w2∧RowV w2 g5 us∧RowV w2 g6 (plV app file) from ⟨hf.bl H1.out.1,H1.out.2.fresh hf,hr⟩);clear hf hr)
      | ((with_reducible refine zag (d:=7) ?_);refine zaa (op:=⟨some 7,_,_,_,_,_⟩) rfl 29 _ rfl ss rfl ?_;intro g7 w3 hf hr;have H4:=Lib.hid (show Below w.heap.size w w3∧RowV w3 g5 us∧RowV w3 g6 (plV app file)∧RowV w3 g7 ss from ⟨hf.bl H3.out.1,H3.out.2.1.fresh hf,H3.out.2.2.fresh hf,hr⟩);clear hf hr)
      | ((with_reducible refine zac (d:=16) ?_);refine zab rfl 25 (.tmp 5) rfl g5 rfl us _ H4.out.2.1 Try.underlying25 rfl (by rw [H2.out.1];exact zas) ?_)
      | ((with_reducible refine zac (d:=17) ?_);refine zab rfl 27 (.tmp 6) rfl g6 rfl (plV app file) _ H4.out.2.2.1 Try.underlying27 rfl zam ?_)
      | (go_at_call 41;((with_reducible refine (HA.out _ H4.out.1).mono ?_);rintro e w4 ⟨rfl,h⟩);have H5:=Lib.hid (show Below w.heap.size w w4∧RowV w4 g7 ss from ⟨zad H4.out.1 h,H4.out.2.2.2.on h⟩);clear h)
      | ((with_reducible refine zaj (d:=13) ?_);refine zae (op:=⟨some 13,_,_,_,_,_⟩) rfl 60 rfl zerF.cs zaB ?_;intro g13 w5 hf hr;have H5B:=Lib.hid (show Below w.heap.size w w5∧RowV w5 g7 ss∧RowV w5 g13 zerF.cs∧w.heap.size≤g13∧g7≠g13 from ⟨hf.bl H5.out.1,H5.out.2.fresh hf,hr,hf.ge H5.out.1,H5.out.2.ne hf⟩);clear hf hr)
      | ((with_reducible refine zah (i:=13) ?_);go_must (refine zaf rfl 60 (.tmp 13) _ rfl g13 zerF.cs vs rfl rfl H5B.out.2.2.1 HV.out.1 HV.out.2.1 (by rw [HV.out.1];exact zaq) ?_);intro w6 hw hr;have H6:=Lib.hid (show Below w.heap.size w w6∧RowV w6 g7 ss∧RowV w6 g13 vs from ⟨Wr.bl H5B.out.1 hw H5B.out.2.2.2.1,H5B.out.2.1.wr hw H5B.out.2.2.2.2,hr⟩);clear hw hr)
      | ((with_reducible refine zac (d:=25) ?_);go_must (refine wpList_load_mid rfl 54 (.tmp 24) rfl g13 3 rfl (cnV lv rt) _ (by rw [←HV.out.2.2.1];exact H6.out.2.2.range 3 2 (by rw [HV.out.1];decide)) Try.underlying54 rfl zat ?_))
      | ((with_reducible refine zac (d:=26) ?_);refine zab rfl 29 (.tmp 7) rfl g7 rfl ss _ H6.out.2.1 Try.underlying29 rfl (by rw [H2.out.2];exact zao) ?_)
      | (go_at_call 23;((with_reducible refine (HAL.out _).mono ?_);rintro e w8 ⟨rfl,h⟩);have H8:=Lib.hid (show Below w.heap.size w w8∧RowV w8 g13 vs from ⟨zad H6.out.1 h,H6.out.2.2.on h⟩);have c2:=(H8.out.2.cell 2).trans HV.out.2.2.2;clear h))
     go_ret3
     exact HN.out _ HE.out _ H8.out.1
   · have HE := Lib.hid he
     clear hE0 hV0 hB0 he hcap
     rcases h with h1 | ⟨h1,h2⟩ | ⟨h1,h2,h3⟩ | ⟨h1,h2,h3,h4⟩
     all_goals
      go_enter Try.func20,Try.ntmps20
      go_wp2_with (first
       | ((with_reducible refine zag (d:=5) ?_);refine zaa (op:=⟨some 5,_,_,_,_,_⟩) rfl 25 _ rfl us rfl ?_;intro g5 w1 hf hr;have H1:=Lib.hid (show Below w.heap.size w w1∧RowV w1 g5 us from ⟨hf.bl HB.out,hr⟩);clear hf hr)
       | ((with_reducible refine zag (d:=6) ?_);refine zaa (op:=⟨some 6,_,_,_,_,_⟩) rfl 27 _ rfl (plV app file) rfl ?_;intro g6 w2 hf hr;have H3:=Lib.hid (show Below w.heap.size w w2∧RowV w2 g5 us∧RowV w2 g6 (plV app file) from ⟨hf.bl H1.out.1,H1.out.2.fresh hf,hr⟩);clear hf hr)
       | ((with_reducible refine zag (d:=7) ?_);refine zaa (op:=⟨some 7,_,_,_,_,_⟩) rfl 29 _ rfl ss rfl ?_;intro g7 w3 hf hr;have H4:=Lib.hid (show Below w.heap.size w w3∧RowV w3 g5 us∧RowV w3 g6 (plV app file)∧RowV w3 g7 ss from ⟨hf.bl H3.out.1,H3.out.2.1.fresh hf,H3.out.2.2.fresh hf,hr⟩);clear hf hr)
       | ((with_reducible refine zac (d:=16) ?_);refine zab rfl 25 (.tmp 5) rfl g5 rfl us _ H4.out.2.1 Try.underlying25 rfl (by rw [H2.out.1];exact zas) ?_)
       | ((with_reducible refine zac (d:=17) ?_);refine zab rfl 27 (.tmp 6) rfl g6 rfl (plV app file) _ H4.out.2.2.1 Try.underlying27 rfl zam ?_)
       | (go_at_call 41;((with_reducible refine (HA.out _ H4.out.1).mono ?_);rintro e w4 ⟨rfl,h⟩);have H5:=Lib.hid (show Below w.heap.size w w4∧RowV w4 g7 ss from ⟨zad H4.out.1 h,H4.out.2.2.2.on h⟩);clear h)
       | ((with_reducible refine zaj (d:=13) ?_);refine zae (op:=⟨some 13,_,_,_,_,_⟩) rfl 60 rfl zerF.cs zaB ?_;intro g13 w5 hf hr;have H5B:=Lib.hid (show Below w.heap.size w w5∧RowV w5 g7 ss∧RowV w5 g13 zerF.cs∧w.heap.size≤g13∧g7≠g13 from ⟨hf.bl H5.out.1,H5.out.2.fresh hf,hr,hf.ge H5.out.1,H5.out.2.ne hf⟩);clear hf hr)
       | ((with_reducible refine zah (i:=13) ?_);go_must (refine zaf rfl 60 (.tmp 13) _ rfl g13 zerF.cs vs rfl rfl H5B.out.2.2.1 HV.out.1 HV.out.2.1 (by rw [HV.out.1];exact zaq) ?_);intro w6 hw hr;have H6:=Lib.hid (show Below w.heap.size w w6∧RowV w6 g7 ss∧RowV w6 g13 vs from ⟨Wr.bl H5B.out.1 hw H5B.out.2.2.2.1,H5B.out.2.1.wr hw H5B.out.2.2.2.2,hr⟩);clear hw hr)
       | ((with_reducible refine zac (d:=25) ?_);go_must (refine wpList_load_mid rfl 54 (.tmp 24) rfl g13 3 rfl (cnV lv rt) _ (by rw [←HV.out.2.2.1];exact H6.out.2.2.range 3 2 (by rw [HV.out.1];decide)) Try.underlying54 rfl zat ?_))
       | ((with_reducible refine zac (d:=26) ?_);refine zab rfl 29 (.tmp 7) rfl g7 rfl ss _ H6.out.2.1 Try.underlying29 rfl (by rw [H2.out.2];exact zao) ?_)
       | (go_at_call 23;((with_reducible refine (HAL.out _).mono ?_);rintro e w8 ⟨rfl,h⟩);have H8:=Lib.hid (show Below w.heap.size w w8∧RowV w8 g13 vs from ⟨zad H6.out.1 h,H6.out.2.2.on h⟩);have c2:=(H8.out.2.cell 2).trans HV.out.2.2.2;clear h))
      go_ret3
      exact HN.out _ HE.out _ H8.out.1
 · have h1 : decide ((m : Int) < 1) = false := by simp; omega
   have h2:decide ((4096:Int) < (m:Int))=false:=by simp;omega
   have h3:decide ((k:Int) < 0)=false:=by simp <;> omega
   have h4:decide ((dl:Int) < (k:Int))=false:=by simp;omega
   have h4n:decide (dl < k)=false:=by simp;omega
   have h4p:¬dl < k:=by omega
   obtain ⟨rA,rc,hsl,hrc,hrn,hrs⟩:=sl_lo17 dA dl dc k hk hcap.1 hcap.2
   obtain ⟨r,hr⟩ : ∃z,dl - k=z:=⟨_,rfl⟩
   have hrd:(d.drop k).length=r:=by rw [List.length_drop,HD.out.2,hr]
   rw [hr] at hsl hrc
   have HSL:=Lib.hid hsl
   clear hsl
   have HRS:=Lib.hid (show (∀u,Below w.heap.size w u→SeesP u (· < u.heap.size) rA (Us (d.drop k)))∧(d.drop k).length=r∧(rA=none→rc=0)∧r≤rc from ⟨fun u hb=>hrs u _ d HD.out.2 (HD.out.1 u hb),hrd,hrn,hrc⟩)
   have hr4:r≤4096:=by omega
   by_cases hmr:m≤r
   · have dmr : decide ((m : Int) ≤ (r : Int)) = true := by simp; omega
     have dmr2:decide ((r:Int) < (m:Int))=false:=by simp;omega
     have hmin:min (m:Int) (r:Int)=(m:Int):=by omega
     have hbb : redB G app file s (k : Int) (m : Int) = ((m : Int) == (r : Int)) := by
      rw [hBB]
      by_cases g:m=r
      · have e1 : decide (dl ≤ k + m) = true := decide_eq_true (by omega)
        have e2:((m:Int)==(r:Int))=true:=beq_iff_eq.2 (by omega)
        rw [e1,e2]
      · have e1 : decide (dl ≤ k + m) = false := decide_eq_false (by omega)
        have e2:((m:Int)==(r:Int))=false:=beq_eq_false_iff_ne.2 (by omega)
        rw [e1,e2]
     have HN:=Lib.hid (fun (A:Option Addr) (c:Nat) (hc:(A=none→c=0)∧m≤c) (w':World) (hs:SeesP w' (newB w w') A (Us ((d.drop k).take m))) (hb:Below w.heap.size w w')=>red_some HDD.out hE hV hbb (show ((d.drop k).take m).length=m from by rw [List.length_take,hrd];omega) hc hs hb)
     clear hE hV hBB hbb hrs hrd hrn hrc hcap hk hr
     go_enter Try.func20,Try.ntmps20
     go_wp2_with (first
      | ((with_reducible refine zag (d:=5) ?_);refine zaa (op:=⟨some 5,_,_,_,_,_⟩) rfl 25 _ rfl us rfl ?_;intro g5 w1 hf hr;have H1:=Lib.hid (show Below w.heap.size w w1∧RowV w1 g5 us from ⟨hf.bl HB.out,hr⟩);clear hf hr)
      | ((with_reducible refine zag (d:=6) ?_);refine zaa (op:=⟨some 6,_,_,_,_,_⟩) rfl 27 _ rfl (plV app file) rfl ?_;intro g6 w2 hf hr;have H3:=Lib.hid (show Below w.heap.size w w2∧RowV w2 g5 us∧RowV w2 g6 (plV app file) from ⟨hf.bl H1.out.1,H1.out.2.fresh hf,hr⟩);clear hf hr)
      | ((with_reducible refine zag (d:=7) ?_);refine zaa (op:=⟨some 7,_,_,_,_,_⟩) rfl 29 _ rfl ss rfl ?_;intro g7 w3 hf hr;have H4:=Lib.hid (show Below w.heap.size w w3∧RowV w3 g5 us∧RowV w3 g6 (plV app file)∧RowV w3 g7 ss from ⟨hf.bl H3.out.1,H3.out.2.1.fresh hf,H3.out.2.2.fresh hf,hr⟩);clear hf hr)
      | ((with_reducible refine zac (d:=16) ?_);refine zab rfl 25 (.tmp 5) rfl g5 rfl us _ H4.out.2.1 Try.underlying25 rfl (by rw [H2.out.1];exact zas) ?_)
      | ((with_reducible refine zac (d:=17) ?_);refine zab rfl 27 (.tmp 6) rfl g6 rfl (plV app file) _ H4.out.2.2.1 Try.underlying27 rfl zam ?_)
      | (go_at_call 41;((with_reducible refine (HA.out _ H4.out.1).mono ?_);rintro e w4 ⟨rfl,h⟩);have H5:=Lib.hid (show Below w.heap.size w w4∧RowV w4 g7 ss from ⟨zad H4.out.1 h,H4.out.2.2.2.on h⟩);clear h)
      | ((with_reducible refine zaj (d:=13) ?_);refine zae (op:=⟨some 13,_,_,_,_,_⟩) rfl 60 rfl zerF.cs zaB ?_;intro g13 w5 hf hr;have H5B:=Lib.hid (show Below w.heap.size w w5∧RowV w5 g7 ss∧RowV w5 g13 zerF.cs∧w.heap.size≤g13∧g7≠g13 from ⟨hf.bl H5.out.1,H5.out.2.fresh hf,hr,hf.ge H5.out.1,H5.out.2.ne hf⟩);clear hf hr)
      | ((with_reducible refine zah (i:=13) ?_);go_must (refine zaf rfl 60 (.tmp 13) _ rfl g13 zerF.cs vs rfl rfl H5B.out.2.2.1 HV.out.1 HV.out.2.1 (by rw [HV.out.1];exact zaq) ?_);intro w6 hw hr;have H6:=Lib.hid (show Below w.heap.size w w6∧RowV w6 g7 ss∧RowV w6 g13 vs from ⟨Wr.bl H5B.out.1 hw H5B.out.2.2.2.1,H5B.out.2.1.wr hw H5B.out.2.2.2.2,hr⟩);clear hw hr)
      | ((with_reducible refine zac (d:=25) ?_);go_must (refine wpList_load_mid rfl 54 (.tmp 24) rfl g13 3 rfl (cnV lv rt) _ (by rw [←HV.out.2.2.1];exact H6.out.2.2.range 3 2 (by rw [HV.out.1];decide)) Try.underlying54 rfl zat ?_))
      | ((with_reducible refine zac (d:=26) ?_);refine zab rfl 29 (.tmp 7) rfl g7 rfl ss _ H6.out.2.1 Try.underlying29 rfl (by rw [H2.out.2];exact zao) ?_)
      | (go_at_call 23;((with_reducible refine (HAL.out _).mono ?_);rintro e w8 ⟨rfl,h⟩);have H8:=Lib.hid (show Below w.heap.size w w8∧RowV w8 g13 vs from ⟨zad H6.out.1 h,H6.out.2.2.on h⟩);have c2:=(H8.out.2.cell 2).trans HV.out.2.2.2;clear h)
      | ((with_reducible refine zal (d:=49) ?_);go_must (refine zbk rfl 45 (.tmp 47) _ none none rfl rfl rfl rfl rfl (HSL.out _) ?_))
      | (at_make;go_must (refine wpList_make_full _ rfl _ _ 45 rfl w.heap.size 5 i0 (.int .u8 0) 1 Try.underlying45 hi0 hz0 hz1 _ _ _ _ m rfl rfl (by simp) (by simp) (by rw [hz2];omega) (by unfold maxLen;omega) H8.out.1.size ?_);intro w9 hown hgrow;have H9:=Lib.hid (show w9.ownsRow w.heap.size 5 1 (.slice (some ⟨w8.heap.size,0,none⟩) m m) m _∧Below w.heap.size w w9 from ⟨hown,zad H8.out.1 (grown_new hgrow)⟩);clear hown hgrow)
      | ((with_reducible refine at_call_ (d:=57) ?_);go_must (refine zaD rfl (.tmp 55) (.tmp 56) 45 45 rfl 5 Try.underlying45 (by rw [hi0];simp [hz1]) w.heap.size w8.heap.size m m _ rfl H9.out.1 rA r rc w9.heap.size (Us (d.drop k)) rfl (by rw [zan,HRS.out.2.1]) (SeesP.iff_sees.1 (HRS.out.1 _ H9.out.2)) (Us_one _) ?_);intro w10 ho hg;have H10:=Lib.hid (show _∧_ from ⟨ho,hg⟩);clear ho hg))
     go_ret3
     refine HN.out _ m ⟨fun h=>(by cases h),Nat.le_refl _⟩ _ ?_ (H9.out.2.grown H10.out.2 H9.out.2.size (fun k e=>by injection e with e;have:=H8.out.1.size;omega))
     have h:=H10.out.1
     have e2 : List.drop (Us (d.drop k)).length (madeCells (Value.cells (.int .u8 0)) (m * 1)).toList = [] := List.drop_eq_nil_of_le (by
      have:=H9.out.1.1
      rw [zan,HRS.out.2.1];omega)
     rw [e2,List.append_nil,←Us_take] at h
     have hlt:=(own_lt3 h w8.heap.size rfl).2
     exact (own_seesP h).imp fun b hb=>by subst hb;exact ⟨H8.out.1.size,hlt⟩
   · have dmr : decide ((m : Int) ≤ (r : Int)) = false := by simp; omega
     have dmr2:decide ((r:Int) < (m:Int))=true:=by simp;omega
     have hmin:min (m:Int) (r:Int)=(r:Int):=by omega
     have hbb : redB G app file s (k : Int) (m : Int) = true := by
      rw [hBB]
      have g1:dl≤k+m:=by omega
      simp [g1]
     have HN:=Lib.hid (fun (A:Option Addr) (c:Nat) (hc:(A=none→c=0)∧r≤c) (w':World) (hs:SeesP w' (newB w w') A (Us ((d.drop k).take m))) (hb:Below w.heap.size w w')=>red_some HDD.out hE hV hbb (show ((d.drop k).take m).length=r from by rw [List.length_take,hrd];omega) hc hs hb)
     have HTK:=Lib.hid (show (d.drop k).take m=(d.drop k).take r from by rw [List.take_of_length_le (by omega),List.take_of_length_le (by omega)])
     clear hE hV hBB hbb hrs hrd hrn hrc hcap hk hr
     go_enter Try.func20,Try.ntmps20
     go_wp2_with (first
      | ((with_reducible refine zag (d:=5) ?_);refine zaa (op:=⟨some 5,_,_,_,_,_⟩) rfl 25 _ rfl us rfl ?_;intro g5 w1 hf hr;have H1:=Lib.hid (show Below w.heap.size w w1∧RowV w1 g5 us from ⟨hf.bl HB.out,hr⟩);clear hf hr)
      | ((with_reducible refine zag (d:=6) ?_);refine zaa (op:=⟨some 6,_,_,_,_,_⟩) rfl 27 _ rfl (plV app file) rfl ?_;intro g6 w2 hf hr;have H3:=Lib.hid (show Below w.heap.size w w2∧RowV w2 g5 us∧RowV w2 g6 (plV app file) from ⟨hf.bl H1.out.1,H1.out.2.fresh hf,hr⟩);clear hf hr)
      | ((with_reducible refine zag (d:=7) ?_);refine zaa (op:=⟨some 7,_,_,_,_,_⟩) rfl 29 _ rfl ss rfl ?_;intro g7 w3 hf hr;have H4:=Lib.hid (show Below w.heap.size w w3∧RowV w3 g5 us∧RowV w3 g6 (plV app file)∧RowV w3 g7 ss from ⟨hf.bl H3.out.1,H3.out.2.1.fresh hf,H3.out.2.2.fresh hf,hr⟩);clear hf hr)
      | ((with_reducible refine zac (d:=16) ?_);refine zab rfl 25 (.tmp 5) rfl g5 rfl us _ H4.out.2.1 Try.underlying25 rfl (by rw [H2.out.1];exact zas) ?_)
      | ((with_reducible refine zac (d:=17) ?_);refine zab rfl 27 (.tmp 6) rfl g6 rfl (plV app file) _ H4.out.2.2.1 Try.underlying27 rfl zam ?_)
      | (go_at_call 41;((with_reducible refine (HA.out _ H4.out.1).mono ?_);rintro e w4 ⟨rfl,h⟩);have H5:=Lib.hid (show Below w.heap.size w w4∧RowV w4 g7 ss from ⟨zad H4.out.1 h,H4.out.2.2.2.on h⟩);clear h)
      | ((with_reducible refine zaj (d:=13) ?_);refine zae (op:=⟨some 13,_,_,_,_,_⟩) rfl 60 rfl zerF.cs zaB ?_;intro g13 w5 hf hr;have H5B:=Lib.hid (show Below w.heap.size w w5∧RowV w5 g7 ss∧RowV w5 g13 zerF.cs∧w.heap.size≤g13∧g7≠g13 from ⟨hf.bl H5.out.1,H5.out.2.fresh hf,hr,hf.ge H5.out.1,H5.out.2.ne hf⟩);clear hf hr)
      | ((with_reducible refine zah (i:=13) ?_);go_must (refine zaf rfl 60 (.tmp 13) _ rfl g13 zerF.cs vs rfl rfl H5B.out.2.2.1 HV.out.1 HV.out.2.1 (by rw [HV.out.1];exact zaq) ?_);intro w6 hw hr;have H6:=Lib.hid (show Below w.heap.size w w6∧RowV w6 g7 ss∧RowV w6 g13 vs from ⟨Wr.bl H5B.out.1 hw H5B.out.2.2.2.1,H5B.out.2.1.wr hw H5B.out.2.2.2.2,hr⟩);clear hw hr)
      | ((with_reducible refine zac (d:=25) ?_);go_must (refine wpList_load_mid rfl 54 (.tmp 24) rfl g13 3 rfl (cnV lv rt) _ (by rw [←HV.out.2.2.1];exact H6.out.2.2.range 3 2 (by rw [HV.out.1];decide)) Try.underlying54 rfl zat ?_))
      | ((with_reducible refine zac (d:=26) ?_);refine zab rfl 29 (.tmp 7) rfl g7 rfl ss _ H6.out.2.1 Try.underlying29 rfl (by rw [H2.out.2];exact zao) ?_)
      | (go_at_call 23;((with_reducible refine (HAL.out _).mono ?_);rintro e w8 ⟨rfl,h⟩);have H8:=Lib.hid (show Below w.heap.size w w8∧RowV w8 g13 vs from ⟨zad H6.out.1 h,H6.out.2.2.on h⟩);have c2:=(H8.out.2.cell 2).trans HV.out.2.2.2;clear h)
      | ((with_reducible refine zal (d:=49) ?_);go_must (refine zbk rfl 45 (.tmp 47) _ none none rfl rfl rfl rfl rfl (HSL.out _) ?_))
      | (at_make;go_must (refine wpList_make_full _ rfl _ _ 45 rfl w.heap.size 5 i0 (.int .u8 0) 1 Try.underlying45 hi0 hz0 hz1 _ _ _ _ r rfl rfl (by simp) (by simp) (by rw [hz2];omega) (by unfold maxLen;omega) H8.out.1.size ?_);intro w9 hown hgrow;have H9:=Lib.hid (show w9.ownsRow w.heap.size 5 1 (.slice (some ⟨w8.heap.size,0,none⟩) r r) r _∧Below w.heap.size w w9 from ⟨hown,zad H8.out.1 (grown_new hgrow)⟩);clear hown hgrow)
      | ((with_reducible refine at_call_ (d:=57) ?_);go_must (refine zaD rfl (.tmp 55) (.tmp 56) 45 45 rfl 5 Try.underlying45 (by rw [hi0];simp [hz1]) w.heap.size w8.heap.size r r _ rfl H9.out.1 rA r rc w9.heap.size (Us (d.drop k)) rfl (by rw [zan,HRS.out.2.1]) (SeesP.iff_sees.1 (HRS.out.1 _ H9.out.2)) (Us_one _) ?_);intro w10 ho hg;have H10:=Lib.hid (show _∧_ from ⟨ho,hg⟩);clear ho hg))
     go_ret3
     refine HN.out _ r ⟨fun h=>(by cases h),Nat.le_refl _⟩ _ ?_ (H9.out.2.grown H10.out.2 H9.out.2.size (fun k e=>by injection e with e;have:=H8.out.1.size;omega))
     have h:=H10.out.1
     have e2 : List.drop (Us (d.drop k)).length (madeCells (Value.cells (.int .u8 0)) (r * 1)).toList = [] := List.drop_eq_nil_of_le (by
      have:=H9.out.1.1
      rw [zan,HRS.out.2.1];omega)
     rw [e2,List.append_nil,←Us_take] at h
     have hlt:=(own_lt3 h w8.heap.size rfl).2
     rw [HTK.out]
     exact (own_seesP h).imp fun b hb=>by subst hb;exact ⟨H8.out.1.size,hlt⟩
end Go.Proofs.Ytkdlfbggddllhaa
