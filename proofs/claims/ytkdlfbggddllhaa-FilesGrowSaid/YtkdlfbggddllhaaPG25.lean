/-
  What is proved here: the file that a place selects, and its condition, by the program and by the reference.
-/
import Derived.Test.YtkdlfbggddllhaaPG24
set_option linter.unusedVariables false
set_option linter.unusedSimpArgs false
namespace Go.Proofs.Ytkdlfbggddllhaa
open Go.RowKit
set_option maxRecDepth 8000
theorem sel_bad {G:Gw} {app file:Int} (h:selE G app file≠0):selF G app file=zerF:=by unfold selF;rw [if_neg h]
theorem zbb (G : Gw) (app file : Int) (L : List Fw) (n : Nat) (hL : lstL G app = L) (hn : L.length = n) : (atE G app file = 14 ∧ atV G app file = .slice none 0 0 ∧ selE G app file = 14 ∧ selF G app file = zerF) ∨
 (atE G app file=0∧atV G app file=.slice (lstA G app) n (lstC G app)∧((file=-1∧selE G app file=16∧selF G app file=zerF)∨∃(k:Nat) (x:Fw),file=(k:Int)∧k < n∧L[k]? = some x∧selE G app file=0∧selF G app file=x)):=by
 subst hL hn
 rcases atE_or G app file with h | h
 · left
   have hne:atE G app file≠0:=by rw [h];decide
   have e:selE G app file=14:=by unfold selE;rw [if_pos hne]
   exact ⟨h,by unfold atV;rw [if_neg hne],e,sel_bad (by rw [e];decide)⟩
 · right
   obtain ⟨h1,h2,h3,h4,h5⟩:=zaS h
   refine ⟨h,by unfold atV;rw [if_pos h],?_⟩
   by_cases hf:file < 0
   · left
     have e:selE G app file=16:=by unfold selE;rw [if_neg (by rw [h];decide),if_pos hf]
     exact ⟨by omega,e,sel_bad (by rw [e];decide)⟩
   · right
     obtain ⟨k,rfl⟩ : ∃k:Nat,file=(k:Int):=Int.eq_ofNat_of_zero_le (by omega)
     have e:selE G app (k:Int)=0:=by unfold selE;rw [if_neg (by rw [h];decide),if_neg hf]
     have hk:k < (lstL G app).length:=by omega
     exact ⟨k,(lstL G app)[k],rfl,hk,List.getElem?_eq_getElem hk,e,by unfold selF;rw [if_pos e];simp [hk]⟩
theorem sel_fin {w : World} {p : Nat → Prop} {G : Gw} {app file : Int} (hs : SeesW w p G) : FwIn w p (selF G app file) := by
 rcases zbb G app file _ _ rfl rfl with ⟨_,_,_,e⟩ | ⟨h,_,⟨_,_,e⟩ | ⟨k,x,_,_,hx,_,e⟩⟩
 · rw [e];exact ⟨.inl rfl,Nat.le_refl _,fun _=>rfl⟩
 · rw [e];exact ⟨.inl rfl,Nat.le_refl _,fun _=>rfl⟩
 · rw [e]
   obtain ⟨_,h2,h3,_,_⟩:=zaS h
   exact (lst_sees hs h2 h3).2.1 x (List.mem_of_getElem? hx)
theorem sel_d {G : Gw} {app file : Int} : (selF G app file).d.length ≤ 4096 := by
 rcases zbb G app file _ _ rfl rfl with ⟨_,_,_,e⟩ | ⟨h,_,⟨_,_,e⟩ | ⟨k,x,_,_,hx,_,e⟩⟩
 · rw [e];decide
 · rw [e];decide
 · rw [e]
   obtain ⟨h1,h2,h3,_,_⟩:=zaS h
   obtain ⟨v1,v2,v3⟩:=valE_ok h1
   have hm:=List.mem_of_getElem? hx
   unfold lstL at hm
   by_cases hn:app < 0
   · rw [if_pos hn] at hm;exact (lisE_ok v2).2 x hm
   · rw [if_neg hn] at hm
     have hk:app.toNat < G.apps.length:=by omega
     have e:G.apps.getD app.toNat zerA=G.apps[app.toNat]:=by simp [hk]
     rw [e] at hm
     exact (lisE_ok (v3 _ (List.getElem_mem hk)).2).2 x hm
theorem bld_f0:Try.prog.built 60 []=some zerF.cs.toArray:=by kernel_rfl
set_option maxHeartbeats 6400000 in
theorem p_selected (G : Gw) (app file : Int) (w : World) (hs : SeesW w (· < w.heap.size) G) :
 Calls Try.prog 41 #[.agg G.cs.toArray,.agg (plV app file).toArray] w fun e w'=>e=.returned (.tuple #[.agg (selF G app file).cs.toArray,.int .i64 (selE G app file)])∧Below w.heap.size w w':=by
 obtain ⟨L,hL⟩ : ∃z,lstL G app=z:=⟨_,rfl⟩
 obtain ⟨n,hn⟩ : ∃z,L.length=z:=⟨_,rfl⟩
 have hcs:=zbb G app file L n hL hn
 have HA:=Lib.hid (fun u (hb:Below w.heap.size w u)=>p_at17 G app file u (hs.on hb))
 have HL := Lib.hid (fun (h : atE G app file = 0) u (hb : Below w.heap.size w u) => (show SeesU u (· < u.heap.size) (lstA G app) (lstC G app) L from by
  obtain ⟨_,h2,h3,_,_⟩:=zaS h
  rw [←hL]
  exact lst_sees (hs.on hb) h2 h3))
 obtain ⟨us,hus⟩ : ∃us,G.cs=us:=⟨_,rfl⟩
 have h2:us.length=2:=by rw [←hus];rfl
 obtain ⟨V,hV⟩ : ∃v,atV G app file=v:=⟨_,rfl⟩
 obtain ⟨E,hE⟩ : ∃v,atE G app file=v:=⟨_,rfl⟩
 obtain ⟨FE,hFE⟩ : ∃v,selE G app file=v:=⟨_,rfl⟩
 obtain ⟨FF,hFF⟩ : ∃v,selF G app file=v:=⟨_,rfl⟩
 obtain ⟨lA,hlA⟩ : ∃v,lstA G app=v:=⟨_,rfl⟩
 obtain ⟨lC,hlC⟩ : ∃v,lstC G app=v:=⟨_,rfl⟩
 rw [hV,hE] at HA
 rw [hE,hlA,hlC] at HL
 rw [hV,hE,hFE,hFF,hlA,hlC] at hcs
 rw [hus] at HA ⊢
 rw [hFE,hFF]
 have HB:=Lib.hid (Below.refl w.heap.size w)
 have H2:=Lib.hid h2
 clear hs hus h2 hV hE hFE hFF hlA hlC hn hL
 rcases hcs with ⟨rfl,rfl,rfl,rfl⟩ | ⟨rfl,rfl,⟨rfl,rfl,rfl⟩ | ⟨k,x,rfl,hk,hx,rfl,rfl⟩⟩
 · go_enter Try.func41, Try.ntmps41
   go_wp2_with (first
    | ((with_reducible refine zag (d:=2) ?_);refine zaa (op:=⟨some 2,_,_,_,_,_⟩) rfl 25 _ rfl us rfl ?_;intro g3 w1 hf hr;have H1:=Lib.hid (show Below w.heap.size w w1∧RowV w1 g3 us from ⟨hf.bl HB.out,hr⟩);clear hf hr)
    | ((with_reducible refine zag (d:=3) ?_);refine zaa (op:=⟨some 3,_,_,_,_,_⟩) rfl 27 _ rfl (plV app file) rfl ?_;intro g4 w2 hf hr;have H3:=Lib.hid (show Below w.heap.size w w2∧RowV w2 g3 us∧RowV w2 g4 (plV app file) from ⟨hf.bl H1.out.1,H1.out.2.fresh hf,hr⟩);clear hf hr)
    | ((with_reducible refine zaj (d:=4) ?_);refine zae (op:=⟨some 4,_,_,_,_,_⟩) rfl 60 rfl zerF.cs zaB ?_;intro g6 w3 hf hr;have H4:=Lib.hid (show Below w.heap.size w w3∧RowV w3 g3 us∧RowV w3 g4 (plV app file)∧RowV w3 g6 zerF.cs∧w.heap.size≤g6 from ⟨hf.bl H3.out.1,H3.out.2.1.fresh hf,H3.out.2.2.fresh hf,hr,hf.ge H3.out.1⟩);clear hf hr)
    | ((with_reducible refine zac (d:=9) ?_);refine zab rfl 25 (.tmp 2) rfl g3 rfl us _ H4.out.2.1 Try.underlying25 rfl (by rw [H2.out];exact zas) ?_)
    | ((with_reducible refine zac (d:=10) ?_);refine zab rfl 27 (.tmp 3) rfl g4 rfl (plV app file) _ H4.out.2.2.1 Try.underlying27 rfl zam ?_)
    | (go_at_call 50;((with_reducible refine (HA.out _ H4.out.1).mono ?_);rintro e w5 ⟨rfl,h⟩);have H5:=Lib.hid (show Below w.heap.size w w5∧RowV w5 g4 (plV app file)∧RowV w5 g6 zerF.cs from ⟨zad H4.out.1 h,H4.out.2.2.1.on h,H4.out.2.2.2.1.on h⟩);clear h)
    | ((with_reducible refine zal (d:=16) ?_);go_must (refine zai rfl 60 _ rfl pe0 bld_f0 ?_))
    | ((with_reducible refine zah (i:=4) ?_);go_must (refine zaf rfl 60 (.tmp 4) _ rfl g6 zerF.cs zerF.cs rfl rfl H5.out.2.2 rfl (Fw.cs_one _) zaq ?_);intro w9 hw hr;have H9:=Lib.hid (show Below w.heap.size w w9∧RowV w9 g6 zerF.cs from ⟨Wr.bl H5.out.1 hw H4.out.2.2.2.2,hr⟩);clear hw hr))
   exact bodyPost_ret (zau rfl _ _ g6 zerF.cs _ rfl H9.out.2 Try.underlying60 rfl zaq) rfl ⟨rfl,H9.out.1⟩
 · go_enter Try.func41, Try.ntmps41
   go_wp2_with (first
    | ((with_reducible refine zag (d:=2) ?_);refine zaa (op:=⟨some 2,_,_,_,_,_⟩) rfl 25 _ rfl us rfl ?_;intro g3 w1 hf hr;have H1:=Lib.hid (show Below w.heap.size w w1∧RowV w1 g3 us from ⟨hf.bl HB.out,hr⟩);clear hf hr)
    | ((with_reducible refine zag (d:=3) ?_);refine zaa (op:=⟨some 3,_,_,_,_,_⟩) rfl 27 _ rfl (plV app (-1)) rfl ?_;intro g4 w2 hf hr;have H3:=Lib.hid (show Below w.heap.size w w2∧RowV w2 g3 us∧RowV w2 g4 (plV app (-1)) from ⟨hf.bl H1.out.1,H1.out.2.fresh hf,hr⟩);clear hf hr)
    | ((with_reducible refine zaj (d:=4) ?_);refine zae (op:=⟨some 4,_,_,_,_,_⟩) rfl 60 rfl zerF.cs zaB ?_;intro g6 w3 hf hr;have H4:=Lib.hid (show Below w.heap.size w w3∧RowV w3 g3 us∧RowV w3 g4 (plV app (-1))∧RowV w3 g6 zerF.cs∧w.heap.size≤g6 from ⟨hf.bl H3.out.1,H3.out.2.1.fresh hf,H3.out.2.2.fresh hf,hr,hf.ge H3.out.1⟩);clear hf hr)
    | ((with_reducible refine zac (d:=9) ?_);refine zab rfl 25 (.tmp 2) rfl g3 rfl us _ H4.out.2.1 Try.underlying25 rfl (by rw [H2.out];exact zas) ?_)
    | ((with_reducible refine zac (d:=10) ?_);refine zab rfl 27 (.tmp 3) rfl g4 rfl (plV app (-1)) _ H4.out.2.2.1 Try.underlying27 rfl zam ?_)
    | (go_at_call 50;((with_reducible refine (HA.out _ H4.out.1).mono ?_);rintro e w5 ⟨rfl,h⟩);have H5:=Lib.hid (show Below w.heap.size w w5∧RowV w5 g4 (plV app (-1))∧RowV w5 g6 zerF.cs from ⟨zad H4.out.1 h,H4.out.2.2.1.on h,H4.out.2.2.2.1.on h⟩);have a1:w5.cell? ⟨g4,1,none⟩=some (.int .i64 (-1)):=H5.out.2.1.cell 1;clear h)
    | ((with_reducible refine zal (d:=21) ?_);go_must (refine zai rfl 60 _ rfl pe0 bld_f0 ?_))
    | ((with_reducible refine zah (i:=4) ?_);go_must (refine zaf rfl 60 (.tmp 4) _ rfl g6 zerF.cs zerF.cs rfl rfl H5.out.2.2 rfl (Fw.cs_one _) zaq ?_);intro w9 hw hr;have H9:=Lib.hid (show Below w.heap.size w w9∧RowV w9 g6 zerF.cs from ⟨Wr.bl H5.out.1 hw H4.out.2.2.2.2,hr⟩);clear hw hr))
   exact bodyPost_ret (zau rfl _ _ g6 zerF.cs _ rfl H9.out.2 Try.underlying60 rfl zaq) rfl ⟨rfl,H9.out.1⟩
 · obtain ⟨b, off, hAA, hb, hr⟩ := fw_at (HL.out rfl w HB.out) hx
   subst hAA
   obtain ⟨vs,hvs⟩ : ∃vs,FF.cs=vs:=⟨_,rfl⟩
   have hv5:vs.length=5:=by rw [←hvs];rfl
   have hv1:∀u∈vs,u.oneCell'=true:=by rw [←hvs];exact Fw.cs_one FF
   rw [hvs] at hr ⊢
   have HX:=Lib.hid (show (∀u,Below w.heap.size w u→u.rangeAt b (off+k*5) vs)∧vs.length=5∧∀u∈vs,u.oneCell'=true from ⟨fun u hb2=>zbl hr hb hb2,hv5,hv1⟩)
   have dk:((k:Int)==-1)=false:=by simp <;> omega
   have ixk:=fun w=>ix_fw b off n lC k hk w
   clear hx hr hb hvs hv5 hv1
   go_enter Try.func41,Try.ntmps41
   go_wp2_with (first
    | ((with_reducible refine zag (d:=2) ?_);refine zaa (op:=⟨some 2,_,_,_,_,_⟩) rfl 25 _ rfl us rfl ?_;intro g3 w1 hf hr;have H1:=Lib.hid (show Below w.heap.size w w1∧RowV w1 g3 us from ⟨hf.bl HB.out,hr⟩);clear hf hr)
    | ((with_reducible refine zag (d:=3) ?_);refine zaa (op:=⟨some 3,_,_,_,_,_⟩) rfl 27 _ rfl (plV app (k:Int)) rfl ?_;intro g4 w2 hf hr;have H3:=Lib.hid (show Below w.heap.size w w2∧RowV w2 g3 us∧RowV w2 g4 (plV app (k:Int)) from ⟨hf.bl H1.out.1,H1.out.2.fresh hf,hr⟩);clear hf hr)
    | ((with_reducible refine zaj (d:=4) ?_);refine zae (op:=⟨some 4,_,_,_,_,_⟩) rfl 60 rfl zerF.cs zaB ?_;intro g6 w3 hf hr;have H4:=Lib.hid (show Below w.heap.size w w3∧RowV w3 g3 us∧RowV w3 g4 (plV app (k:Int))∧RowV w3 g6 zerF.cs∧w.heap.size≤g6 from ⟨hf.bl H3.out.1,H3.out.2.1.fresh hf,H3.out.2.2.fresh hf,hr,hf.ge H3.out.1⟩);clear hf hr)
    | ((with_reducible refine zac (d:=9) ?_);refine zab rfl 25 (.tmp 2) rfl g3 rfl us _ H4.out.2.1 Try.underlying25 rfl (by rw [H2.out];exact zas) ?_)
    | ((with_reducible refine zac (d:=10) ?_);refine zab rfl 27 (.tmp 3) rfl g4 rfl (plV app (k:Int)) _ H4.out.2.2.1 Try.underlying27 rfl zam ?_)
    | (go_at_call 50;((with_reducible refine (HA.out _ H4.out.1).mono ?_);rintro e w5 ⟨rfl,h⟩);have H5:=Lib.hid (show Below w.heap.size w w5∧RowV w5 g4 (plV app (k:Int))∧RowV w5 g6 zerF.cs from ⟨zad H4.out.1 h,H4.out.2.2.1.on h,H4.out.2.2.2.1.on h⟩);have a1:w5.cell? ⟨g4,1,none⟩=some (.int .i64 (k:Int)):=H5.out.2.1.cell 1;clear h)
    | ((with_reducible refine zac (d:=26) ?_);refine wpList_load_mid rfl 60 (.tmp 25) rfl b (off+k*5) rfl vs _ (HX.out.1 _ H5.out.1) Try.underlying60 rfl (by rw [HX.out.2.1];exact zaq) ?_)
    | ((with_reducible refine zah (i:=4) ?_);go_must (refine zaf rfl 60 (.tmp 4) _ rfl g6 zerF.cs vs rfl rfl H5.out.2.2 HX.out.2.1 HX.out.2.2 (by rw [HX.out.2.1];exact zaq) ?_);intro w9 hw hr;have H9:=Lib.hid (show Below w.heap.size w w9∧RowV w9 g6 vs from ⟨Wr.bl H5.out.1 hw H4.out.2.2.2.2,hr⟩);clear hw hr))
   exact bodyPost_ret (zau rfl _ _ g6 vs _ rfl H9.out.2 Try.underlying60 rfl (by rw [HX.out.2.1];exact zaq)) rfl ⟨rfl,H9.out.1⟩
end Go.Proofs.Ytkdlfbggddllhaa
