/-
  What is proved here: the first error of files, of applications, of all of them, by the reference.
-/
import Derived.Test.YtkdlfbggddllhaaPG21
import Derived.Test.YtkdlfbggddllhaaRows
import Derived.Test.YtkdlfbggddllhaaPG0
set_option linter.unusedVariables false
set_option linter.unusedSimpArgs false
namespace Go.Proofs.Ytkdlfbggddllhaa
open Go.RowKit
set_option maxRecDepth 8000
theorem info_cz:(Try.prog.info? 54).map (·.zero)=some (some (.agg (cnV 0 0).toArray)):=by kernel_rfl
theorem cn_one (a b : Int) : ∀ u ∈ cnV a b, u.oneCell' = true := by
 intro u hu
 simp only [cnV,List.mem_cons,List.not_mem_nil,or_false] at hu
 rcases hu with rfl | rfl <;> rfl
end Go.Proofs.Ytkdlfbggddllhaa
namespace Go.Proofs.Ytkdlfbggddllhaa
open Go.RowKit
set_option maxRecDepth 8000
def plV (app file:Int):List Value:=[.int .i64 app,.int .i64 file]
theorem pl_one (a b : Int) : ∀ u ∈ plV a b, u.oneCell' = true := by
 intro u hu
 simp only [plV,List.mem_cons,List.not_mem_nil,or_false] at hu
 rcases hu with rfl | rfl <;> rfl
theorem zam:(Try.prog.info? 27).map (·.size)=some 2:=by kernel_rfl
theorem zbf:(Try.prog.info? 27).map (·.zero)=some (some (.agg (plV 0 0).toArray)):=by kernel_rfl
theorem zas:(Try.prog.info? 25).map (·.size)=some 2:=by kernel_rfl
def atV (G:Gw) (app file:Int):Value:=if atE G app file=0 then .slice (lstA G app) (lstL G app).length (lstC G app) else .slice none 0 0
theorem zbd {G : Gw} {app file : Int} (h : valE G ≠ 0 ∨ app < -1 ∨ (G.apps.length : Int) ≤ app ∨ file < -1 ∨ ((lstL G app).length : Int) ≤ file) : atE G app file = 14 ∧ atV G app file = .slice none 0 0 := by
 have e:atE G app file=14:=by unfold atE;rw [if_pos h]
 exact ⟨e,by unfold atV;rw [if_neg (by rw [e];decide)]⟩
theorem at_ok {G : Gw} {app file : Int} (h1 : valE G = 0) (h2 : ¬ app < -1) (h3 : ¬ (G.apps.length : Int) ≤ app) (h4 : ¬ file < -1) (h5 : ¬ ((lstL G app).length : Int) ≤ file) : atE G app file = 0 ∧ atV G app file = .slice (lstA G app) (lstL G app).length (lstC G app) := by
 have e:atE G app file=0:=by unfold atE;rw [if_neg (by rintro (h | h | h | h | h) <;> contradiction)]
 exact ⟨e,by unfold atV;rw [if_pos e]⟩
theorem zaS {G : Gw} {app file : Int} (h : atE G app file = 0) : valE G = 0 ∧ -1 ≤ app ∧ app < G.apps.length ∧ -1 ≤ file ∧ file < (lstL G app).length := by
 unfold atE at h
 split at h
 · cases h
 · rename_i h2
   refine ⟨?_,?_,?_,?_,?_⟩
   · exact Classical.byContradiction fun hc=>h2 (.inl hc)
   all_goals omega
theorem at_cases (G : Gw) (app file : Int) (m n : Nat) (hm : G.apps.length = m) (hn : G.root.length = n) :
 ((valE G != 0)=true∧atE G app file=14∧atV G app file=.slice none 0 0)∨(valE G=0∧decide (app < -1)=true∧atE G app file=14∧atV G app file=.slice none 0 0)∨(valE G=0∧decide (app < -1)=false∧decide ((m:Int)≤app)=true∧atE G app file=14∧atV G app file=.slice none 0 0) ∨
 (valE G=0∧app=-1∧decide ((m:Int)≤-1)=false∧((decide (file < -1)=true∧atE G app file=14∧atV G app file=.slice none 0 0)∨(decide (file < -1)=false∧decide ((n:Int)≤file)=true∧atE G app file=14∧atV G app file=.slice none 0 0)∨(decide (file < -1)=false∧decide ((n:Int)≤file)=false∧atE G app file=0∧atV G app file=.slice G.RA n G.rc))) ∨
 (∃(k:Nat) (x:Aw),valE G=0∧app=(k:Int)∧k < m∧G.apps[k]? = some x∧decide ((k:Int) < -1)=false∧decide ((m:Int)≤(k:Int))=false∧((decide (file < -1)=true∧atE G app file=14∧atV G app file=.slice none 0 0)∨(decide (file < -1)=false∧decide ((x.fs.length:Int)≤file)=true∧atE G app file=14∧atV G app file=.slice none 0 0)∨(decide (file < -1)=false∧decide ((x.fs.length:Int)≤file)=false∧atE G app file=0∧atV G app file=.slice x.FA x.fs.length x.fc))):=by
 by_cases h1:valE G≠0
 · left;exact ⟨by simpa using h1,zbd (.inl h1)⟩
 have h1:valE G=0:=Classical.byContradiction h1
 right
 by_cases h2:app < -1
 · left;exact ⟨h1,by simpa using h2,zbd (.inr (.inl h2))⟩
 right
 by_cases h3:(G.apps.length:Int)≤app
 · left;exact ⟨h1,by simpa using h2,by rw [←hm];simpa using h3,zbd (.inr (.inr (.inl h3)))⟩
 right
 by_cases h4:app=-1
 · left
   subst h4
   have el:lstL G (-1)=G.root:=rfl
   refine ⟨h1,rfl,by simp;omega,?_⟩
   by_cases h5:file < -1
   · left;exact ⟨by simpa using h5,zbd (.inr (.inr (.inr (.inl h5))))⟩
   right
   by_cases h6:((lstL G (-1)).length:Int)≤file
   · left;exact ⟨by simpa using h5,by rw [el,hn] at h6;simpa using h6,zbd (.inr (.inr (.inr (.inr h6))))⟩
   · right
     refine ⟨by simpa using h5,by rw [el,hn] at h6;simpa using h6,?_⟩
     have h:=at_ok h1 h2 h3 h5 h6
     rw [el,hn] at h
     exact h
 · right
   obtain ⟨k,rfl⟩ : ∃k:Nat,app=(k:Int):=Int.eq_ofNat_of_zero_le (by omega)
   have hk:k < G.apps.length:=by omega
   have hx:G.apps[k]? = some G.apps[k]:=List.getElem?_eq_getElem hk
   have eL:lstL G (k:Int)=G.apps[k].fs:=by unfold lstL;rw [if_neg (by omega)];simp [hx]
   have eA:lstA G (k:Int)=G.apps[k].FA:=by unfold lstA;rw [if_neg (by omega)];simp [hx]
   have eC:lstC G (k:Int)=G.apps[k].fc:=by unfold lstC;rw [if_neg (by omega)];simp [hx]
   refine ⟨k,G.apps[k],h1,rfl,by omega,hx,by simp <;> omega,by simp <;> omega,?_⟩
   by_cases h5:file < -1
   · left;exact ⟨by simpa using h5,zbd (.inr (.inr (.inr (.inl h5))))⟩
   right
   by_cases h6:((lstL G (k:Int)).length:Int)≤file
   · left;exact ⟨by simpa using h5,by rw [eL] at h6;simpa using h6,zbd (.inr (.inr (.inr (.inr h6))))⟩
   · right
     refine ⟨by simpa using h5,by rw [eL] at h6;simpa using h6,?_⟩
     have h:=at_ok h1 h2 h3 h5 h6
     rw [eL,eA,eC] at h
     exact h
theorem lst_sees {w : World} {p : Nat → Prop} {G : Gw} {app : Int} (hs : SeesW w p G) (h1 : -1 ≤ app) (h2 : app < G.apps.length) : SeesU w p (lstA G app) (lstC G app) (lstL G app) := by
 unfold lstA lstC lstL
 by_cases h:app < 0
 · rw [if_pos h,if_pos h,if_pos h];exact hs.1
 · rw [if_neg h, if_neg h, if_neg h]
   have hk:app.toNat < G.apps.length:=by omega
   have:G.apps.getD app.toNat zerA=G.apps[app.toNat]:=by simp [hk]
   rw [this]
   exact (hs.2.2.1 _ (List.getElem_mem hk)).2
set_option maxHeartbeats 6400000 in
theorem p_at17 (G : Gw) (app file : Int) (w : World) (hs : SeesW w (· < w.heap.size) G) :
 Calls Try.prog 50 #[.agg G.cs.toArray,.agg (plV app file).toArray] w fun e w'=>e=.returned (.tuple #[atV G app file,.int .i64 (atE G app file)])∧Below w.heap.size w w':=by
 obtain ⟨n,hn⟩ : ∃z,G.root.length=z:=⟨_,rfl⟩
 obtain ⟨m,hm⟩ : ∃z,G.apps.length=z:=⟨_,rfl⟩
 have hc:=at_cases G app file m n hm hn
 have HV:=Lib.hid (fun u (hb:Below w.heap.size w u)=>p_valid17 G u (hs.on hb))
 have HS:=Lib.hid hs
 obtain ⟨us,hus⟩ : ∃us,G.cs=us:=⟨_,rfl⟩
 have HU:=Lib.hid (show us.length=2∧us[0]? = some (.slice G.RA n G.rc)∧us[1]? = some (.slice G.AA m G.ac) from by rw [←hus,←hn,←hm];exact ⟨rfl,rfl,rfl⟩)
 obtain ⟨R,hR⟩ : ∃v,atV G app file=v:=⟨_,rfl⟩
 obtain ⟨E,hE⟩ : ∃v,atE G app file=v:=⟨_,rfl⟩
 obtain ⟨v,hv⟩ : ∃v,valE G=v:=⟨_,rfl⟩
 rw [hR,hE]
 rw [hR,hE,hv] at hc
 rw [hv] at HV
 rw [hus] at HV ⊢
 have HB:=Lib.hid (Below.refl w.heap.size w)
 obtain ⟨RA,rc,root,AA,ac,apps⟩:=G
 simp only at HU HS hc
 clear hs hus hm hn hR hE hv
 rcases hc with ⟨h1,rfl,rfl⟩ | ⟨rfl,h2,rfl,rfl⟩ | ⟨rfl,h2,h3,rfl,rfl⟩ | ⟨rfl,rfl,h3,h4⟩ | ⟨k,x,rfl,rfl,hk,hx,h2,h3,h4⟩
 iterate 3
  · go_enter Try.func50, Try.ntmps50
    go_wp2_with (first
     | ((with_reducible refine zag (d:=2) ?_);refine zaa (op:=⟨some 2,_,_,_,_,_⟩) rfl 25 _ rfl us rfl ?_;intro g1 w1 hf hr;have H1:=Lib.hid (show Below w.heap.size w w1∧RowV w1 g1 us from ⟨hf.bl HB.out,hr⟩);clear hf hr)
     | ((with_reducible refine zag (d:=3) ?_);refine zaa (op:=⟨some 3,_,_,_,_,_⟩) rfl 27 _ rfl (plV app file) rfl ?_;intro g2 w2 hf hr;have H2:=Lib.hid (show Below w.heap.size w w2∧RowV w2 g1 us∧RowV w2 g2 (plV app file) from ⟨hf.bl H1.out.1,H1.out.2.fresh hf,hr⟩);clear hf hr)
     | ((with_reducible refine zac (d:=7) ?_);refine zab rfl 25 (.tmp 2) rfl g1 rfl us _ H2.out.2.1 Try.underlying25 rfl (by rw [HU.out.1];exact zas) ?_)
     | (go_at_call 34;((with_reducible refine (HV.out _ H2.out.1).mono ?_);rintro e w3 ⟨rfl,h⟩);have H3:=Lib.hid (show Below w.heap.size w w3∧RowV w3 g1 us∧RowV w3 g2 (plV app file) from ⟨zad H2.out.1 h,H2.out.2.1.on h,H2.out.2.2.on h⟩);have c0:=(H3.out.2.1.cell 0).trans HU.out.2.1;have c1:=(H3.out.2.1.cell 1).trans HU.out.2.2;have a0:w3.cell? ⟨g2,0,none⟩=some (.int .i64 app):=H3.out.2.2.cell 0;have a1:w3.cell? ⟨g2,1,none⟩=some (.int .i64 file):=H3.out.2.2.cell 1;clear h))
    go_ret2
    exact ⟨rfl,H3.out.1⟩
 · rcases h4 with ⟨h4, rfl, rfl⟩ | ⟨h4, h5, rfl, rfl⟩ | ⟨h4, h5, rfl, rfl⟩
   all_goals
    go_enter Try.func50,Try.ntmps50
    go_wp2_with (first
     | ((with_reducible refine zag (d:=2) ?_);refine zaa (op:=⟨some 2,_,_,_,_,_⟩) rfl 25 _ rfl us rfl ?_;intro g1 w1 hf hr;have H1:=Lib.hid (show Below w.heap.size w w1∧RowV w1 g1 us from ⟨hf.bl HB.out,hr⟩);clear hf hr)
     | ((with_reducible refine zag (d:=3) ?_);refine zaa (op:=⟨some 3,_,_,_,_,_⟩) rfl 27 _ rfl (plV (-1) file) rfl ?_;intro g2 w2 hf hr;have H2:=Lib.hid (show Below w.heap.size w w2∧RowV w2 g1 us∧RowV w2 g2 (plV (-1) file) from ⟨hf.bl H1.out.1,H1.out.2.fresh hf,hr⟩);clear hf hr)
     | ((with_reducible refine zac (d:=7) ?_);refine zab rfl 25 (.tmp 2) rfl g1 rfl us _ H2.out.2.1 Try.underlying25 rfl (by rw [HU.out.1];exact zas) ?_)
     | (go_at_call 34;((with_reducible refine (HV.out _ H2.out.1).mono ?_);rintro e w3 ⟨rfl,h⟩);have H3:=Lib.hid (show Below w.heap.size w w3∧RowV w3 g1 us∧RowV w3 g2 (plV (-1) file) from ⟨zad H2.out.1 h,H2.out.2.1.on h,H2.out.2.2.on h⟩);have c0:=(H3.out.2.1.cell 0).trans HU.out.2.1;have c1:=(H3.out.2.1.cell 1).trans HU.out.2.2;have a0:w3.cell? ⟨g2,0,none⟩=some (.int .i64 (-1)):=H3.out.2.2.cell 0;have a1:w3.cell? ⟨g2,1,none⟩=some (.int .i64 file):=H3.out.2.2.cell 1;clear h))
    go_ret2
    exact ⟨rfl,H3.out.1⟩
 · obtain ⟨b, off, hAA, hb, hr⟩ := aw_at HS.out.2 hx
   have hAA:AA=some ⟨b,off,none⟩:=hAA
   subst hAA
   obtain ⟨fl,hfl⟩ : ∃z,x.fs.length=z:=⟨_,rfl⟩
   obtain ⟨FA,hFA⟩ : ∃z,x.FA=z:=⟨_,rfl⟩
   obtain ⟨fc,hfc⟩ : ∃z,x.fc=z:=⟨_,rfl⟩
   have HX1:=Lib.hid (fun u (hb2:Below w.heap.size w u)=>(show u.cell? ⟨b,off+k*2+1,none⟩=some (.slice FA fl fc) from by rw [←hFA,←hfc,←hfl];exact zbl hr hb hb2 1 _ rfl))
   have ixk:=fun w=>ix_aw b off m ac k hk w
   rw [hfl,hFA,hfc] at h4
   have p0:((k:Int) != -1)=true:=by simp <;> omega
   have p1:decide ((0:Int)≤(k:Int))=true:=by simp
   clear hx hr hfl hFA hfc hb
   rcases h4 with ⟨h4,rfl,rfl⟩ | ⟨h4,h5,rfl,rfl⟩ | ⟨h4,h5,rfl,rfl⟩
   all_goals
    go_enter Try.func50,Try.ntmps50
    go_wp2_with (first
     | ((with_reducible refine zag (d:=2) ?_);refine zaa (op:=⟨some 2,_,_,_,_,_⟩) rfl 25 _ rfl us rfl ?_;intro g1 w1 hf hr;have H1:=Lib.hid (show Below w.heap.size w w1∧RowV w1 g1 us from ⟨hf.bl HB.out,hr⟩);clear hf hr)
     | ((with_reducible refine zag (d:=3) ?_);refine zaa (op:=⟨some 3,_,_,_,_,_⟩) rfl 27 _ rfl (plV (k:Int) file) rfl ?_;intro g2 w2 hf hr;have H2:=Lib.hid (show Below w.heap.size w w2∧RowV w2 g1 us∧RowV w2 g2 (plV (k:Int) file) from ⟨hf.bl H1.out.1,H1.out.2.fresh hf,hr⟩);clear hf hr)
     | ((with_reducible refine zac (d:=7) ?_);refine zab rfl 25 (.tmp 2) rfl g1 rfl us _ H2.out.2.1 Try.underlying25 rfl (by rw [HU.out.1];exact zas) ?_)
     | (go_at_call 34;((with_reducible refine (HV.out _ H2.out.1).mono ?_);rintro e w3 ⟨rfl,h⟩);have H3:=Lib.hid (show Below w.heap.size w w3∧RowV w3 g1 us∧RowV w3 g2 (plV (k:Int) file) from ⟨zad H2.out.1 h,H2.out.2.1.on h,H2.out.2.2.on h⟩);have c0:=(H3.out.2.1.cell 0).trans HU.out.2.1;have c1:=(H3.out.2.1.cell 1).trans HU.out.2.2;have a0:w3.cell? ⟨g2,0,none⟩=some (.int .i64 (k:Int)):=H3.out.2.2.cell 0;have a1:w3.cell? ⟨g2,1,none⟩=some (.int .i64 file):=H3.out.2.2.cell 1;have x1:=HX1.out w3 H3.out.1;clear h))
    go_ret2
    exact ⟨rfl,H3.out.1⟩
end Go.Proofs.Ytkdlfbggddllhaa
