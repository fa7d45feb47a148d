/-
  What is proved here: the first error of all files, by the reference.
-/
import Derived.Test.YtkdlfbggddllhaaP16
import Derived.Test.YtkdlfbggddllhaaP8
set_option linter.unusedVariables false
set_option linter.unusedSimpArgs false
namespace Go.Proofs.Ytkdlfbggddllhaa
open Go.RowKit
set_option maxRecDepth 8000
theorem onea_size {L:List Aw} {a:Aw} (h:a.nm.length < 1∨16 < a.nm.length):oneA L a=2:=by unfold oneA;rw [if_pos (by omega)]
theorem onea_dup {L:List Aw} {a:Aw} (h:1≤a.nm.length) (h2:a.nm.length≤16) (h3:L.any (fun b=>zaC b.nm a.nm)=true):oneA L a=15:=by unfold oneA;rw [if_neg (by omega),if_pos h3]
theorem onea_fs {L:List Aw} {a:Aw} (h:1≤a.nm.length) (h2:a.nm.length≤16) (h3:L.any (fun b=>zaC b.nm a.nm)=false):oneA L a=lisE a.fs:=by unfold oneA;rw [if_neg (by omega),if_neg (by rw [h3];decide)]
theorem r_same17 (A1 A2 : Option Addr) (c1 c2 n1 n2 : Nat) (x y : List UInt8) (w : World) (h1 : SeesP w (· < w.heap.size) A1 (Us x)) (h2 : SeesP w (· < w.heap.size) A2 (Us y)) (l1 : x.length = n1) (l2 : y.length = n2) (m1 : n1 ≤ 1000000) :
 Calls Try.prog 22 #[.slice A1 n1 c1,.slice A2 n2 c2] w fun e w'=>e=.returned (.bool (zaC x y))∧Below w.heap.size w w' :=
 (ref_same A1 A2 c1 c2 n1 n2 x y w w.heap.size (SeesP.iff_sees.1 h1) (SeesP.iff_sees.1 h2) l1.symm l2.symm (by unfold maxLen;omega)).mono fun e w' ⟨he,q,hw⟩=>⟨he,by rw [hw];exact below_drewN _ _ _⟩
set_option maxHeartbeats 12800000 in
theorem r_valid17 (G : Gw) (w : World) (hs : SeesW w (· < w.heap.size) G) :
 Calls Try.prog 35 #[.agg G.cs.toArray] w fun e w'=>e=.returned (.int .i64 (valE G))∧Below w.heap.size w w':=by
 obtain ⟨n,hn⟩ : ∃z,G.root.length=z:=⟨_,rfl⟩
 obtain ⟨m,hm⟩ : ∃z,G.apps.length=z:=⟨_,rfl⟩
 have hc:=val_steps G m hm
 have HF:=Lib.hid (fun u (hb:Below w.heap.size w u)=>r_list17 G.root n hn G.RA G.rc u (hs.on hb).1)
 obtain ⟨us,hus⟩ : ∃us,G.cs=us:=⟨_,rfl⟩
 have HU:=Lib.hid (show us.length=2∧us[0]? = some (.slice G.RA n G.rc)∧us[1]? = some (.slice G.AA m G.ac) from by rw [←hus,←hn,←hm];exact ⟨rfl,rfl,rfl⟩)
 obtain ⟨R,hR⟩ : ∃v,valE G=v:=⟨_,rfl⟩
 obtain ⟨lv,hlv⟩ : ∃v,lisE G.root=v:=⟨_,rfl⟩
 rw [hus]
 rw [hlv] at HF hc
 rw [hR] at hc ⊢
 have HS:=Lib.hid (show SeesK w (· < w.heap.size) G.AA G.ac G.apps from hs.2)
 have HM:=Lib.hid hm
 obtain ⟨RA,rc,root,AA,ac,apps⟩:=G
 simp only at HF HU HS HM hc
 have HB:=Lib.hid (Below.refl w.heap.size w)
 clear hs hus hn hm hR hlv
 rcases hc with ⟨h1,rfl⟩ | ⟨h1,h2,rfl⟩ | ⟨h1,rfl,hR⟩
 · have d4 : decide ((4 : Int) < (m : Int)) = true := by simp; omega
   clear h1
   go_enter Try.func35,Try.ntmps35
   go_wp2_with (first
    | ((with_reducible refine zag (d:=1) ?_);refine zab (op:=⟨some 1,_,_,_,_,_⟩) rfl 25 _ rfl us rfl ?_;intro g1 w1 hf hr;have H1:=Lib.hid (show Below w.heap.size w w1∧RowV w1 g1 us from ⟨hf.bl HB.out,hr⟩);have c1:=(hr.cell 1).trans HU.out.2.2;clear hf hr))
   go_ret
   exact ⟨rfl,H1.out.1⟩
 · have d4 : decide ((4 : Int) < (m : Int)) = false := by simp; omega
   have dl:(R != 0)=true:=by simpa using h2
   clear h1 h2
   go_enter Try.func35,Try.ntmps35
   go_wp2_with (first
    | ((with_reducible refine zag (d:=1) ?_);refine zab (op:=⟨some 1,_,_,_,_,_⟩) rfl 25 _ rfl us rfl ?_;intro g1 w1 hf hr;have H1:=Lib.hid (show Below w.heap.size w w1∧RowV w1 g1 us from ⟨hf.bl HB.out,hr⟩);have c1:=(hr.cell 1).trans HU.out.2.2;have c0:=(hr.cell 0).trans HU.out.2.1;clear hf hr)
    | (go_at_call 49;((with_reducible refine (HF.out _ H1.out.1).mono ?_);rintro e w2 ⟨rfl,h2⟩);have H2:=Lib.hid (zaf H1.out.1 h2);clear c0 c1 h2))
   go_ret
   exact ⟨rfl,H2.out⟩
 have d4:decide ((4:Int) < (m:Int))=false:=by simp;omega
 have hm4:m≤4:=by omega
 have HR:=Lib.hid hR
 clear h1 hR
 go_enter Try.func35,Try.ntmps35
 go_wp2_with (first
  | ((with_reducible refine zag (d:=1) ?_);refine zab (op:=⟨some 1,_,_,_,_,_⟩) rfl 25 _ rfl us rfl ?_;intro g1 w1 hf hr;have H1:=Lib.hid (show Below w.heap.size w w1∧RowV w1 g1 us from ⟨hf.bl HB.out,hr⟩);have c1:=(hr.cell 1).trans HU.out.2.2;have c0:=(hr.cell 0).trans HU.out.2.1;clear hf hr)
  | (go_at_call 49;((with_reducible refine (HF.out _ H1.out.1).mono ?_);rintro e w2 ⟨rfl,h2⟩);have H2:=Lib.hid (show Below w.heap.size w w2∧RowV w2 g1 us from ⟨zaf H1.out.1 h2,H1.out.2.on h2⟩);clear c0 c1 h2))
 go_loopw [4] (fun i wr=>∃(j:Nat),j≤m∧i=.int .i64 (j:Int)∧Hid (Below w.heap.size w wr∧RowV wr g1 us∧chkA (apps.take j) (apps.drop j)=R∧∀(q:Nat) (z:Aw),q < j→apps[q]? = some z→z.nm.length≤16)) (fun i _=>m - (intOf i).toNat)
 case atStart=>exact ⟨0,by omega,rfl,Lib.hid ⟨H2.out.1,H2.out.2,HR.out.symm,fun q z hq=>by omega⟩⟩
 case round =>
  obtain ⟨j,hj,rfl,HQ⟩:=hrel
  have c1:=(HQ.out.2.1.cell 1).trans HU.out.2.2
  by_cases hlt:j < m
  · have dj : decide ((j : Int) < (m : Int)) = true := by simp; omega
    obtain ⟨x,hx⟩ : ∃x,apps[j]? = some x:=⟨_,List.getElem?_eq_getElem (by rw [HM.out];exact hlt)⟩
    obtain ⟨b,off,rfl,hb,hr⟩:=aw_at (HS.out.on HQ.out.1) hx
    have hst:=(chkA_at hx).symm.trans HQ.out.2.2.1
    have hin:=HS.out.2.1 x (List.mem_of_getElem? hx)
    obtain ⟨nl,hnl⟩ : ∃z,x.nm.length=z:=⟨_,rfl⟩
    obtain ⟨fl,hfl⟩ : ∃z,x.fs.length=z:=⟨_,rfl⟩
    have x0:wr.cell? ⟨b,off+j*2,none⟩=some (.slice x.NA nl x.nc):=by rw [←hnl];exact hr 0 _ rfl
    have hcl:=fun u (hb:Below w.heap.size w u)=>r_list17 x.fs fl hfl x.FA x.fc u (hin.on hb).2
    have HX:=Lib.hid (show apps[j]? = some x∧x.nm.length=nl∧(if oneA (apps.take j) x≠0 then oneA (apps.take j) x else chkA (apps.take (j+1)) (apps.drop (j+1)))=R from ⟨hx,hnl,hst⟩)
    have HXC := Lib.hid (fun u (hb : Below w.heap.size w u) => (zaD ((aw_at HS.out hx).elim fun b' h => h.elim fun o' h => by
     obtain ⟨e,_,h⟩:=h
     injection e with e
     injection e with e1 e2
     rw [←e1,←e2] at h
     exact h:w.rangeAt b (off+j*2) x.cs) (by
     obtain ⟨b',o',e,h,_⟩:=aw_at HS.out hx
     injection e with e
     injection e with e1 e2
     rw [e1];exact h) hb:u.rangeAt b (off+j*2) x.cs))
    obtain ⟨le,hle⟩ : ∃z,lisE x.fs=z:=⟨_,rfl⟩
    rw [hle] at hcl
    have HLE:=Lib.hid hle
    have HIN:=Lib.hid hin
    have HCL:=Lib.hid hcl
    obtain ⟨NA,hNA⟩ : ∃z,x.NA=z:=⟨_,rfl⟩
    obtain ⟨nc,hnc⟩ : ∃z,x.nc=z:=⟨_,rfl⟩
    obtain ⟨FA,hFA⟩ : ∃z,x.FA=z:=⟨_,rfl⟩
    obtain ⟨fc,hfc⟩ : ∃z,x.fc=z:=⟨_,rfl⟩
    rw [hNA,hnc] at x0
    rw [hFA,hfc] at HCL
    have HX1:=Lib.hid (fun u (hb:Below w.heap.size w u)=>(show u.cell? ⟨b,off+j*2+1,none⟩=some (.slice FA fl fc) from by rw [←hFA,←hfc,←hfl];exact HXC.out u hb 1 _ rfl))
    have HSN := Lib.hid (fun (y : Aw) (hy : y ∈ apps) (yl : Nat) (hyl : y.nm.length = yl) (hyl2 : yl ≤ 1000000) u (hb : Below w.heap.size w u) => (show Calls Try.prog 22 #[.slice y.NA yl y.nc, .slice NA nl nc] u fun e w' => e = .returned (.bool (zaC y.nm x.nm)) ∧ Below u.heap.size u w' from by
     rw [←hNA,←hnc]
     exact r_same17 y.NA x.NA y.nc x.nc yl nl y.nm x.nm u ((HS.out.2.1 y hy).on hb).1.1 (HIN.out.on hb).1.1 hyl hnl hyl2))
    have ixk:=fun w=>ix_aw b off m ac j hlt w
    clear hx hb hr hst hin hcl hle hNA hnc hFA hfc hnl hfl HXC
    by_cases hs1:nl < 1
    · have ds : decide ((nl : Int) < 1) = true := by simp; omega
      have HN := Lib.hid (show R = 2 from by
       have h:=HX.out.2.2
       rw [onea_size (.inl (by rw [HX.out.2.1];exact hs1)),if_pos (by decide)] at h
       exact h.symm)
      have HE:=Lib.hid HQ.out.1
      clear hs1
      go_wp2
      go_ret
      exact ⟨by rw [HN.out];rfl,HE.out⟩
    have ds:decide ((nl:Int) < 1)=false:=by simp;omega
    by_cases hs2:16 < nl
    · have ds2 : decide ((16 : Int) < (nl : Int)) = true := by simp; omega
      have HN := Lib.hid (show R = 2 from by
       have h:=HX.out.2.2
       rw [onea_size (.inr (by rw [HX.out.2.1];exact hs2)),if_pos (by decide)] at h
       exact h.symm)
      have HE:=Lib.hid HQ.out.1
      clear hs1 hs2
      go_wp2
      go_ret
      exact ⟨by rw [HN.out];rfl,HE.out⟩
    have ds2:decide ((16:Int) < (nl:Int))=false:=by simp;omega
    have HNL:=Lib.hid (show 1≤nl∧nl≤16 from by omega)
    have HE0:=Lib.hid (show Below w.heap.size w wr∧RowV wr g1 us from ⟨HQ.out.1,HQ.out.2.1⟩)
    have HSM := Lib.hid (show ∀ (q : Nat) (z : Aw), q < j + 1 → apps[q]? = some z → z.nm.length ≤ 16 from fun q z hq hz => by
     by_cases e:q=j
     · subst e;rw [HX.out.1] at hz;injection hz with hz;rw [←hz,HX.out.2.1];exact HNL.out.2
     · exact HQ.out.2.2.2 q z (by omega) hz)
    clear hs1 hs2 HQ
    go_wp2
    clear c1 x0 ixk
    obtain ⟨wr0,hwr0⟩ : ∃z,z=wr:=⟨_,rfl⟩
    subst hwr0
    go_loopw [6] (fun i wq=>∃(k:Nat),k≤j∧i=.int .i64 (k:Int)∧Hid (Below w.heap.size w wq∧RowV wq g1 us∧∀(q:Nat) (z:Aw),q < k→apps[q]? = some z→zaC z.nm x.nm=false)) (fun i _=>j - (intOf i).toNat)
    case atStart=>exact ⟨0,by omega,rfl,Lib.hid ⟨HE0.out.1,HE0.out.2,fun q z hq=>by omega⟩⟩
    case round =>
     obtain ⟨k,hk,rfl,HI⟩:=hrel
     have c1:=(HI.out.2.1.cell 1).trans HU.out.2.2
     by_cases hlk:k < j
     · have dk : decide ((k : Int) < (j : Int)) = true := by simp; omega
       obtain ⟨y,hy⟩ : ∃y,apps[k]? = some y:=⟨_,List.getElem?_eq_getElem (by rw [HM.out];omega)⟩
       obtain ⟨b2,off2,hbb,hb2,hr2⟩:=aw_at (HS.out.on HI.out.1) hy
       injection hbb with hbb
       injection hbb with hbb hoo
       subst hbb hoo
       obtain ⟨yl,hyl⟩ : ∃z,y.nm.length=z:=⟨_,rfl⟩
       have y0:wr.cell? ⟨b,off+k*2,none⟩=some (.slice y.NA yl y.nc):=by rw [←hyl];exact hr2 0 _ rfl
       have HY:=Lib.hid hy
       have ixk:=fun w=>ix_aw b off m ac k (by omega) w
       have hyb:yl≤1000000:=by have h:=HSM.out k y (by omega) hy;omega
       · have hcal := HSN.out y (List.mem_of_getElem? hy) yl hyl hyb wr HI.out.1
         obtain ⟨q,hq⟩ : ∃z,zaC y.nm x.nm=z:=⟨_,rfl⟩
         rw [hq] at hcal
         have HTQ:=Lib.hid hq
         have HCA:=Lib.hid hcal
         obtain ⟨yA,hyA⟩ : ∃z,y.NA=z:=⟨_,rfl⟩
         obtain ⟨yc,hyc⟩ : ∃z,y.nc=z:=⟨_,rfl⟩
         rw [hyA,hyc] at y0 HCA
         clear hy hr2 hb2 hyl hq hcal hyA hyc
         rcases q with _ | _
         · have HN := Lib.hid (show ∀ (q : Nat) (z : Aw), q < k + 1 → apps[q]? = some z → zaC z.nm x.nm = false from fun q z hq hz => by
            by_cases e:q=k
            · subst e;rw [HY.out] at hz;injection hz with hz;rw [←hz];exact HTQ.out
            · exact HI.out.2.2 q z (by omega) hz)
           go_wp2_with (first
            | (go_at_call 22;((with_reducible refine HCA.out.mono ?_);rintro e w9 ⟨rfl,h9⟩);have H9:=Lib.hid (show Below w.heap.size w w9∧RowV w9 g1 us from ⟨zaf HI.out.1 h9,HI.out.2.1.on h9⟩);clear c1 y0 h9))
           go_roundw
           case rel=>exact ⟨k+1,by omega,by first | rfl | go_num,Lib.hid ⟨H9.out.1,H9.out.2,HN.out⟩⟩
           case measure=>simp [intOf];omega
         · have HN := Lib.hid (show R = 15 from by
            have h:=HX.out.2.2
            rw [onea_dup (by rw [HX.out.2.1];exact HNL.out.1) (by rw [HX.out.2.1];exact HNL.out.2) (any_hit hlk HY.out HTQ.out),if_pos (by decide)] at h
            exact h.symm)
           go_wp2_with (first
            | (go_at_call 22;((with_reducible refine HCA.out.mono ?_);rintro e w9 ⟨rfl,h9⟩);have H9:=Lib.hid (show Below w.heap.size w w9∧RowV w9 g1 us from ⟨zaf HI.out.1 h9,HI.out.2.1.on h9⟩);clear c1 y0 h9))
           go_ret
           exact ⟨by rw [HN.out];rfl,H9.out.1⟩
     · obtain rfl : k = j := by omega
       have dk:decide ((k:Int) < (k:Int))=false:=by simp
       have x1:=HX1.out wr HI.out.1
       have ixk:=fun w=>ix_aw b off m ac k hlt w
       have HL:=Lib.hid (HCL.out wr HI.out.1)
       have HN := Lib.hid (show (if le ≠ 0 then le else chkA (apps.take (k + 1)) (apps.drop (k + 1))) = R from by
        have h:=HX.out.2.2
        rw [onea_fs (by rw [HX.out.2.1];exact HNL.out.1) (by rw [HX.out.2.1];exact HNL.out.2) (any_upto HI.out.2.2),HLE.out] at h
        exact h)
       by_cases h0:le=0
       · subst h0
         have HN2:=Lib.hid (show chkA (apps.take (k+1)) (apps.drop (k+1))=R from by have h:=HN.out;rwa [if_neg (by decide)] at h)
         clear HN
         go_wp2_with (first
          | (go_at_call 49;((with_reducible refine HL.out.mono ?_);rintro e w9 ⟨rfl,h9⟩);have H9:=Lib.hid (show Below w.heap.size w w9∧RowV w9 g1 us from ⟨zaf HI.out.1 h9,HI.out.2.1.on h9⟩);clear c1 x1 h9))
         go_roundw
         case rel=>exact ⟨k+1,by omega,by first | rfl | go_num,Lib.hid ⟨H9.out.1,H9.out.2,HN2.out,HSM.out⟩⟩
         case measure=>simp [intOf];omega
       · have dv : (le != 0) = true := by simpa using h0
         have HN2:=Lib.hid (show le=R from by have h:=HN.out;rwa [if_pos h0] at h)
         clear HN
         go_wp2_with (first
          | (go_at_call 49;((with_reducible refine HL.out.mono ?_);rintro e w9 ⟨rfl,h9⟩);have H9:=Lib.hid (show Below w.heap.size w w9∧RowV w9 g1 us from ⟨zaf HI.out.1 h9,HI.out.2.1.on h9⟩);clear c1 x1 h9))
         go_ret
         exact ⟨by rw [←HN2.out];rfl,H9.out.1⟩
  · obtain rfl : j = m := by omega
    have dj:decide ((j:Int) < (j:Int))=false:=by simp
    have HN := Lib.hid (show R = 0 from by
     have h:=HQ.out.2.2.1
     rw [List.drop_of_length_le (by rw [HM.out];exact Nat.le_refl _)] at h
     exact h.symm)
    have HE:=Lib.hid HQ.out.1
    clear HQ
    go_wp2
    go_ret
    exact ⟨by rw [HN.out];rfl,HE.out⟩
end Go.Proofs.Ytkdlfbggddllhaa
