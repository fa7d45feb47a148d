/-
  What is proved here: the first error of files, of applications, of all of them, by the program.
-/
import Derived.Test.YtkdlfbggddllhaaPG19
import Derived.Test.YtkdlfbggddllhaaRows
import Derived.Test.YtkdlfbggddllhaaPG0
import Derived.Test.YtkdlfbggddllhaaPG20
set_option linter.unusedVariables false
set_option linter.unusedSimpArgs false
namespace Go.Proofs.Ytkdlfbggddllhaa
open Go.RowKit
set_option maxRecDepth 8000
theorem sl_fw (A : Option Addr) (n c j : Nat) (hj : j ≤ c) (hA : A = none → c = 0) (w : World) : (Instr.sliceAt 22 (.slice A n c) none (some (.int .i64 (j : Int))) none).run Try.prog w = .ok (.slice A j c) w := by
 have h1:(j:Int)≤(c:Int):=by omega
 have h0:(0:Int)≤(j:Int):=by omega
 rcases A with _ | ad
 · have : c = 0 := hA rfl
   subst this
   obtain rfl:j=0:=by omega
   simp [go_sem]
 · by_cases h : c = 0
   · subst h
     obtain rfl:j=0:=by omega
     simp [go_sem,Addr.add]
   · simp [go_sem,Addr.add,h0,h1,h]
theorem sl_aw (A : Option Addr) (n c j : Nat) (hj : j ≤ c) (hA : A = none → c = 0) (w : World) : (Instr.sliceAt 23 (.slice A n c) none (some (.int .i64 (j : Int))) none).run Try.prog w = .ok (.slice A j c) w := by
 have h1:(j:Int)≤(c:Int):=by omega
 have h0:(0:Int)≤(j:Int):=by omega
 rcases A with _ | ad
 · have : c = 0 := hA rfl
   subst this
   obtain rfl:j=0:=by omega
   simp [go_sem]
 · by_cases h : c = 0
   · subst h
     obtain rfl:j=0:=by omega
     simp [go_sem,Addr.add]
   · simp [go_sem,Addr.add,h0,h1,h]
theorem lis_big {L:List Fw} {n:Nat} (hn:L.length=n) (h:24 < n):lisE L=2:=by unfold lisE;rw [if_pos (by omega)]
theorem lis_small {L:List Fw} {n:Nat} (hn:L.length=n) (h:¬24 < n):lisE L=chF (L.take 0) (L.drop 0):=by unfold lisE;rw [if_neg (by omega)];rfl
set_option maxHeartbeats 3200000 in
theorem zaU (L : List Fw) (n : Nat) (hn : L.length = n) (A : Option Addr) (c : Nat) (w : World) (hs : SeesU w (· < w.heap.size) A c L) :
 Calls Try.prog 47 #[.slice A n c] w fun e w'=>e=.returned (.int .i64 (lisE L))∧Below w.heap.size w w':=by
 by_cases h24:24 < n
 · have d24 : decide ((24 : Int) < (n : Int)) = true := by simp; omega
   rw [lis_big hn h24]
   clear hs hn h24
   go_enter Try.func47,Try.ntmps47
   go_wp2
   go_ret
   exact ⟨rfl,Below.refl _ _⟩
 have d24:decide ((24:Int) < (n:Int))=false:=by simp;omega
 have hn24:n≤24:=by omega
 rw [lis_small hn h24]
 obtain ⟨R,hR⟩ : ∃z,chF (L.take 0) (L.drop 0)=z:=⟨_,rfl⟩
 rw [hR]
 have HS:=Lib.hid (show _∧_∧_ from ⟨hs,hn,hR⟩)
 have hnc:=hs.2.2.1
 have HSL:=Lib.hid (fun j (h:j≤n) w=>sl_fw A n c j (by omega) hs.2.2.2 w)
 clear hs hn hR h24 hnc
 go_enter Try.func47,Try.ntmps47
 go_wp2
 go_loopw [11] (fun i wr=>∃(j:Nat),j≤n∧i=.int .i64 (j:Int)∧Hid (Below w.heap.size w wr∧chF (L.take j) (L.drop j)=R)) (fun i _=>n - (intOf i).toNat)
 case atStart=>exact ⟨0,by omega,rfl,Lib.hid ⟨Below.refl _ _,HS.out.2.2⟩⟩
 case round =>
  obtain ⟨j,hj,rfl,HQ⟩:=hrel
  by_cases hlt:j < n
  · have dj : decide ((j : Int) < (n : Int)) = true := by simp; omega
    obtain ⟨x,hx⟩ : ∃x,L[j]? = some x:=⟨_,List.getElem?_eq_getElem (by rw [HS.out.2.1];exact hlt)⟩
    obtain ⟨b,off,rfl,hb,hr⟩:=fw_at (HS.out.1.on HQ.out.1) hx
    have hjl:(L.take j).length=j:=by rw [List.length_take,HS.out.2.1];omega
    have hcl:=fun u (hb:Below w.heap.size w u)=>p_checkfile (L.take j) j hjl (by omega) x (some ⟨b,off,none⟩) c u ((HS.out.1.on hb).take j)
    have hst:=(chF_at hx).symm.trans HQ.out.2
    obtain ⟨us,hus⟩ : ∃us,x.cs=us:=⟨_,rfl⟩
    have h5:us.length=5:=by rw [←hus];rfl
    have h1:∀u∈us,u.oneCell'=true:=by rw [←hus];exact Fw.cs_one x
    obtain ⟨v,hv⟩ : ∃z,oneF (L.take j) x=z:=⟨_,rfl⟩
    rw [hus] at hr hcl
    rw [hv] at hcl hst
    have HU:=Lib.hid (show _∧_∧_ from ⟨hr,h5,h1⟩)
    have HCL:=Lib.hid hcl
    have HST:=Lib.hid hst
    have ixk:=fun w=>ix_fw b off n c j hlt w
    have HSJ:=Lib.hid (HSL.out j (by omega))
    clear hx hb hr hus hcl hst h5 h1 hv hjl
    go_wp2_with (first
     | ((with_reducible refine zac (d:=15) ?_);refine wpList_load_mid rfl 60 (.tmp 14) rfl b (off+j*5) rfl us _ HU.out.1 Try.underlying60 rfl (by rw [HU.out.2.1];exact zaq) ?_)
     | ((with_reducible refine zaj (d:=4) ?_);refine zae (op:=⟨some 4,_,_,_,_,_⟩) rfl 60 rfl zerF.cs zaB ?_;intro g4 w4 hf hr;have H4:=Lib.hid (show _∧_∧_ from ⟨hf.bl HQ.out.1,hr,hf.ge HQ.out.1⟩);clear hf hr)
     | ((with_reducible refine zah (i:=4) ?_);refine zaf rfl 60 (.tmp 4) (.tmp 15) rfl g4 zerF.cs us rfl rfl H4.out.2.1 HU.out.2.1 HU.out.2.2 (by rw [HU.out.2.1];exact zaq) ?_;intro w5 hw hr;have H5:=Lib.hid (show _∧_ from ⟨Wr.bl H4.out.1 hw H4.out.2.2,hr⟩);clear hw hr))
    have q1:=quiet_up (w:=w5) fun w' hb=>HCL.out w' (zad H5.out.1 hb)
    have sl1:=fun w=>HSJ.out w
    refine wp_region_quiet_below (by kernel_rfl) (by kernel_rfl) ?_
    repeat (first
     | ((with_reducible refine at_qload_ (d:=16) ?_);refine zaW (by rfl) 60 (.tmp 4) rfl g4 rfl us _ (RowV.up H5.out.2) Try.underlying60 rfl (by rw [HU.out.2.1];exact zaq) ?_;simp only [Act.put];simp)
     | go_big_quiet_skip | (go_big_quiet_want;go_big_quiet_op;go_big_quiet_on) | quiet_step (with_reducible exact q1 _ _))
    refine wpQuiet_nil ?_
    intro p6
    have H6:=Lib.hid (zad H5.out.1 (zav ⟨p6,rfl⟩))
    generalize (Go.Sort.grow (redrawn w5 p6.d) p6.os)=w6 at *
    clear q1 sl1 ixk
    by_cases h0:v=0
    · subst h0
      have HN:=Lib.hid (show chF (L.take (j+1)) (L.drop (j+1))=R from by have h:=HST.out;rwa [if_neg (by decide)] at h)
      clear HST
      go_wp2
      go_roundw
      case rel=>exact ⟨j+1,by omega,by first | rfl | go_num,Lib.hid ⟨H6.out,HN.out⟩⟩
      case measure=>simp [intOf];omega
    · have dv : (v != 0) = true := by simpa using h0
      have HN:=Lib.hid (show v=R from by have h:=HST.out;rwa [if_pos h0] at h)
      clear HST
      go_wp2
      go_ret
      exact ⟨by rw [←HN.out];rfl,H6.out⟩
  · obtain rfl : j = n := by omega
    have dj:decide ((j:Int) < (j:Int))=false:=by simp
    have HN := Lib.hid (show R = 0 from by
     have h:=HQ.out.2
     rw [List.drop_of_length_le (by rw [HS.out.2.1];exact Nat.le_refl _)] at h
     exact h.symm)
    have HE:=Lib.hid HQ.out.1
    clear HQ
    go_wp2
    go_ret
    exact ⟨by rw [HN.out];rfl,HE.out⟩
theorem ix_aw (b off n c j : Nat) (hlt : j < n) (w : World) : (Instr.indexAt 23 (.slice (some ⟨b, off, none⟩) n c) (.int .i64 (j : Int))).run Try.prog w = .ok (.pointer (some ⟨b, off + j * 2, none⟩)) w := by
 have h0:(j:Int) < (n:Int):=by omega
 have h1:(0:Int)≤(j:Int):=by omega
 have e:Try.prog.cellsOf 71=2:=by kernel_rfl
 simp [go_sem,Addr.add,h0,h1,e]
 first | done | (intro h;exact h.symm)
theorem info_az:(Try.prog.info? 71).map (·.zero)=some (some (.agg zerA.cs.toArray)):=by kernel_rfl
theorem zbe:(Try.prog.info? 71).map (·.size)=some 2:=by kernel_rfl
set_option maxHeartbeats 1600000 in
theorem p_sameapp (a z : Aw) (g : Nat) (w : World) (hr : RowV w g a.cs) (ha : SeesP w (· < w.heap.size) a.NA (Us a.nm)) (hz : SeesP w (· < w.heap.size) z.NA (Us z.nm)) : Calls Try.prog 53 #[.agg z.cs.toArray, .pointer (some ⟨g, 0, none⟩)] w fun e w' => e = .returned (.bool (sameB z.nm a.nm)) ∧ Below w.heap.size w w' := by
 obtain ⟨n1,e1⟩ : ∃q,a.nm.length=q:=⟨_,rfl⟩
 obtain ⟨n2,e2⟩ : ∃q,z.nm.length=q:=⟨_,rfl⟩
 have c0:w.cell? ⟨g,0,none⟩=some (.slice a.NA n1 a.nc):=by rw [←e1];exact hr.cell 0
 have hlt:=hr.lt
 have hz0:z.cs.toArray=#[.slice z.NA n2 z.nc,.slice z.FA z.fs.length z.fc]:=by rw [←e2];rfl
 have HE:=Lib.hid (fun u (hb:Below w.heap.size w u)=>bytes_equal z.NA a.NA z.nc a.nc n2 n1 z.nm a.nm u u.heap.size (SeesP.iff_sees.1 (SeesP.on2 hz hb)) (SeesP.iff_sees.1 (SeesP.on2 ha hb)) e2.symm e1.symm)
 rw [hz0]
 obtain ⟨q,hq⟩ : ∃b,sameB z.nm a.nm=b:=⟨_,rfl⟩
 obtain ⟨fn,hfn⟩ : ∃b,z.fs.length=b:=⟨_,rfl⟩
 rw [hq] at HE ⊢
 rw [hfn]
 clear hz0 hr ha hz e1 e2 hq hfn
 go_enter Try.func53,Try.ntmps53
 go_wp2_with (first
  | (go_at_call 39;((with_reducible refine (HE.out _ (zay _ _)).mono ?_);rintro e w' ⟨rfl,rfl⟩)))
 go_ret
 exact ⟨rfl,zay _ _⟩
set_option maxHeartbeats 3200000 in
theorem p_ixA (f : Aw → Bool) (g : Nat) (L : List Aw) (n : Nat) (hn : L.length = n) (hm : n ≤ 1000000) (A : Option Addr) (c : Nat) (w : World) (hs : SeesK w (· < w.heap.size) A c L)
 (hc:∀(z:Aw) (u:World),z∈L→Below w.heap.size w u→Calls Try.prog 53 #[.agg z.cs.toArray,.pointer (some ⟨g,0,none⟩)] u fun e u'=>e=.returned (.bool (f z))∧Below u.heap.size u u') :
 Calls Try.prog 40 #[.slice A n c,.func (.func 53) #[] #[.pointer (some ⟨g,0,none⟩)]] w fun e w'=>e=.returned (.int .i64 (fstP f 0 L))∧Below w.heap.size w w':=by
 have HS:=Lib.hid (show _∧_ from ⟨hs,hn⟩)
 have HC:=Lib.hid hc
 obtain ⟨R,hR⟩ : ∃z,fstP f 0 L=z:=⟨_,rfl⟩
 rw [hR]
 have HR:=Lib.hid hR
 have HB:=Lib.hid (Below.refl w.heap.size w)
 clear hs hn hR hc
 go_enter Try.func40,Try.ntmps40
 go_wp2
 go_loopw [8] (fun i wr=>∃(j:Nat),j≤n∧i=.int .i64 (j:Int)∧Hid (Below w.heap.size w wr∧fstP f j (L.drop j)=R)) (fun i _=>n - (intOf i).toNat)
 case atStart=>exact ⟨0,by omega,rfl,Lib.hid ⟨HB.out,HR.out⟩⟩
 case round =>
  obtain ⟨j,hj,rfl,HQ⟩:=hrel
  by_cases hlt:j < n
  · have dj : decide ((j : Int) < (n : Int)) = true := by simp; omega
    obtain ⟨x,hx⟩ : ∃x,L[j]? = some x:=⟨_,List.getElem?_eq_getElem (by rw [HS.out.2];exact hlt)⟩
    obtain ⟨b,off,rfl,hb,hr⟩:=aw_at (HS.out.1.on HQ.out.1) hx
    have hcl:=HC.out x wr (List.mem_of_getElem? hx) HQ.out.1
    have hst:=(fstP_at (f:=f) hx).symm.trans HQ.out.2
    obtain ⟨us,hus⟩ : ∃us,x.cs=us:=⟨_,rfl⟩
    have h5:us.length=2:=by rw [←hus];rfl
    obtain ⟨q,hq⟩ : ∃z,f x=z:=⟨_,rfl⟩
    rw [hus] at hr hcl
    rw [hq] at hcl hst
    have HU:=Lib.hid (show _∧_ from ⟨hr,h5⟩)
    have HCL:=Lib.hid hcl
    have HST:=Lib.hid (show (q=true→(j:Int)=R)∧(q=false→fstP f (j+1) (L.drop (j+1))=R) from ⟨fun e=>by rw [e] at hst;exact hst,fun e=>by rw [e] at hst;exact hst⟩)
    have ixk:=fun w=>ix_aw b off n c j hlt w
    clear hx hb hr hus hcl hst h5 hq
    rcases q with _ | _
    · go_wp2_with (first
       | ((with_reducible refine zac (d:=15) ?_);refine wpList_load_mid rfl 71 (.tmp 14) rfl b (off+j*2) rfl us _ HU.out.1 Try.underlying71 rfl (by rw [HU.out.2];exact zbe) ?_)
       | (go_at_call 53;((with_reducible refine HCL.out.mono ?_);rintro e w9 ⟨rfl,h9⟩);have H9:=Lib.hid (zad HQ.out.1 h9);clear h9))
      go_roundw
      case rel=>exact ⟨j+1,by omega,by first | rfl | go_num,Lib.hid ⟨H9.out,HST.out.2 (by first | rfl | trivial)⟩⟩
      case measure=>simp [intOf];omega
    · go_wp2_with (first
       | ((with_reducible refine zac (d:=15) ?_);refine wpList_load_mid rfl 71 (.tmp 14) rfl b (off+j*2) rfl us _ HU.out.1 Try.underlying71 rfl (by rw [HU.out.2];exact zbe) ?_)
       | (go_at_call 53;((with_reducible refine HCL.out.mono ?_);rintro e w9 ⟨rfl,h9⟩);have H9:=Lib.hid (zad HQ.out.1 h9);clear h9))
      go_ret
      exact ⟨by rw [←HST.out.1 (by first | rfl | trivial)];rfl,H9.out⟩
  · obtain rfl : j = n := by omega
    have dj:decide ((j:Int) < (j:Int))=false:=by simp
    have HN := Lib.hid (show R = -1 from by
     have h:=HQ.out.2
     rw [List.drop_of_length_le (by rw [HS.out.2];exact Nat.le_refl _)] at h
     exact h.symm)
    go_wp2
    go_ret
    exact ⟨by rw [HN.out];rfl,HQ.out.1⟩
theorem p_cfA (f : Aw → Bool) (g : Nat) (L : List Aw) (n : Nat) (hn : L.length = n) (hm : n ≤ 1000000) (A : Option Addr) (c : Nat) (w : World) (hs : SeesK w (· < w.heap.size) A c L)
 (hc:∀(z:Aw) (u:World),z∈L→Below w.heap.size w u→Calls Try.prog 53 #[.agg z.cs.toArray,.pointer (some ⟨g,0,none⟩)] u fun e u'=>e=.returned (.bool (f z))∧Below u.heap.size u u') :
 Calls Try.prog 54 #[.slice A n c,.func (.func 53) #[] #[.pointer (some ⟨g,0,none⟩)]] w fun e w'=>e=.returned (.bool (L.any f))∧Below w.heap.size w w':=by
 have H:=Lib.hid (p_ixA f g L n hn hm A c w hs hc)
 have hv:decide (0≤fstP f 0 L)=L.any f:=fstP_any L 0
 obtain ⟨z,hz⟩ : ∃z,fstP f 0 L=z:=⟨_,rfl⟩
 obtain ⟨q,hq⟩ : ∃z,L.any f=z:=⟨_,rfl⟩
 rw [hz] at H hv
 rw [hq] at hv ⊢
 clear hs hn hm hc hz hq
 go_enter Try.func54,Try.ntmps54
 go_wp2_with (go_at_call 40;((with_reducible refine H.out.mono ?_);rintro e w9 ⟨rfl,h9⟩);have H9:=Lib.hid h9;clear h9)
 go_ret
 exact ⟨rfl,H9.out⟩
theorem onea_cases (L : List Aw) (a : Aw) (n : Nat) (hn : a.nm.length = n) :
 (((n:Int)==0)=true∧oneA L a=2)∨(((n:Int)==0)=false∧decide ((16:Int) < (n:Int))=true∧oneA L a=2)∨(((n:Int)==0)=false∧decide ((16:Int) < (n:Int))=false∧L.any (fun b=>sameB b.nm a.nm)=true∧oneA L a=15)∨(((n:Int)==0)=false∧decide ((16:Int) < (n:Int))=false∧L.any (fun b=>sameB b.nm a.nm)=false∧oneA L a=lisE a.fs):=by
 subst hn
 unfold oneA
 by_cases h1:a.nm.length=0
 · left;exact ⟨by simp [h1],by rw [if_pos (.inl h1)]⟩
 have e1 : ((a.nm.length : Int) == 0) = false := by
  have:¬((a.nm.length:Int)=0):=by omega
  simpa using this
 by_cases h2:16 < a.nm.length
 · right;left;exact ⟨e1,by simp;omega,by rw [if_pos (.inr h2)]⟩
 have e2:decide ((16:Int) < (a.nm.length:Int))=false:=by simp;omega
 rw [if_neg (by omega)]
 rcases h3:L.any (fun b=>sameB b.nm a.nm) with _ | _
 · right;right;right;exact ⟨e1,e2,rfl,by simp⟩
 · right;right;left;exact ⟨e1,e2,rfl,by simp⟩
set_option maxHeartbeats 6400000 in
theorem p_checkapp (L : List Aw) (m : Nat) (hm : L.length = m) (hm2 : m ≤ 1000000) (a : Aw) (A : Option Addr) (c : Nat) (w : World) (hs : SeesK w (· < w.heap.size) A c L) (ha : AwIn w (· < w.heap.size) a) :
 Calls Try.prog 48 #[.agg a.cs.toArray,.slice A m c] w fun e w'=>e=.returned (.int .i64 (oneA L a))∧Below w.heap.size w w':=by
 obtain ⟨n,hn⟩ : ∃z,a.nm.length=z:=⟨_,rfl⟩
 obtain ⟨fn,hfn⟩ : ∃z,a.fs.length=z:=⟨_,rfl⟩
 have hc:=onea_cases L a n hn
 have HT:=Lib.hid (fun g u (hb:Below w.heap.size w u) (hr:RowV u g a.cs)=>p_cfA (fun b=>sameB b.nm a.nm) g L m hm hm2 A c u (hs.on hb) fun z u' hz hb2=>p_sameapp a z g u' (hr.on hb2) ((ha.on hb).on hb2).1.1 (((hs.on hb).on hb2).2.1 z hz).1.1)
 have HF:=Lib.hid (fun u (hb:Below w.heap.size w u)=>zaU a.fs fn hfn a.FA a.fc u (ha.on hb).2)
 obtain ⟨us,hus⟩ : ∃us,a.cs=us:=⟨_,rfl⟩
 have HU:=Lib.hid (show us.length=2∧us[0]? = some (.slice a.NA n a.nc)∧us[1]? = some (.slice a.FA fn a.fc) from by rw [←hus,←hn,←hfn];exact ⟨rfl,rfl,rfl⟩)
 obtain ⟨v,hv⟩ : ∃v,oneA L a=v:=⟨_,rfl⟩
 obtain ⟨lv,hlv⟩ : ∃v,lisE a.fs=v:=⟨_,rfl⟩
 obtain ⟨qa,hqa⟩ : ∃b,L.any (fun b=>sameB b.nm a.nm)=b:=⟨_,rfl⟩
 rw [hus] at HT ⊢
 rw [hqa] at HT hc
 rw [hlv] at HF hc
 rw [hv] at hc ⊢
 obtain ⟨NA,nc,nm,FA,fc,fs⟩:=a
 simp only at HF HU
 have HB:=Lib.hid (Below.refl w.heap.size w)
 clear hs ha hm hus hv hlv hqa hn hfn
 rcases hc with ⟨h1,rfl⟩ | ⟨h1,h2,rfl⟩ | ⟨h1,h2,rfl,rfl⟩ | ⟨h1,h2,rfl,rfl⟩
 all_goals
  go_enter Try.func48,Try.ntmps48
  go_wp2_with (first
   | ((with_reducible refine zag (d:=2) ?_);refine zaa (op:=⟨some 2,_,_,_,_,_⟩) rfl 71 _ rfl us rfl ?_;intro g1 w1 hf hr;have H1:=Lib.hid (show Below w.heap.size w w1∧RowV w1 g1 us from ⟨hf.bl HB.out,hr⟩);have c0:=(hr.cell 0).trans HU.out.2.1;clear hf hr)
   | (go_at_call 54;((with_reducible refine (HT.out g1 _ H1.out.1 H1.out.2).mono ?_);rintro e w3 ⟨rfl,h3⟩);have H3:=Lib.hid (show Below w.heap.size w w3∧RowV w3 g1 us from ⟨zad H1.out.1 h3,H1.out.2.on h3⟩);clear c0;have c1:=(H3.out.2.cell 1).trans HU.out.2.2;clear h3)
   | (go_at_call 47;((with_reducible refine (HF.out _ H3.out.1).mono ?_);rintro e w4 ⟨rfl,h4⟩);have H4:=Lib.hid (zad H3.out.1 h4);clear h4))
  go_ret
  first
   | exact ⟨rfl,H4.out⟩
   | exact ⟨rfl,H3.out.1⟩
   | exact ⟨rfl,H1.out.1⟩
theorem val_steps (G : Gw) (m : Nat) (hm : G.apps.length = m) : (4 < m ∧ valE G = 2) ∨ (¬ 4 < m ∧ lisE G.root ≠ 0 ∧ valE G = lisE G.root) ∨ (¬ 4 < m ∧ lisE G.root = 0 ∧ valE G = chkA (G.apps.take 0) (G.apps.drop 0)) := by
 subst hm
 unfold valE
 by_cases h1:4 < G.apps.length
 · left;exact ⟨h1,by rw [if_pos h1]⟩
 · right
   rw [if_neg h1]
   by_cases h2:lisE G.root=0
   · right;exact ⟨h1,h2,by rw [if_neg (by simpa using h2)];rfl⟩
   · left;exact ⟨h1,h2,by rw [if_pos h2]⟩
set_option maxHeartbeats 6400000 in
theorem p_valid17 (G : Gw) (w : World) (hs : SeesW w (· < w.heap.size) G) :
 Calls Try.prog 34 #[.agg G.cs.toArray] w fun e w'=>e=.returned (.int .i64 (valE G))∧Below w.heap.size w w':=by
 obtain ⟨n,hn⟩ : ∃z,G.root.length=z:=⟨_,rfl⟩
 obtain ⟨m,hm⟩ : ∃z,G.apps.length=z:=⟨_,rfl⟩
 have hc:=val_steps G m hm
 have HF:=Lib.hid (fun u (hb:Below w.heap.size w u)=>zaU G.root n hn G.RA G.rc u (hs.on hb).1)
 obtain ⟨us,hus⟩ : ∃us,G.cs=us:=⟨_,rfl⟩
 have HU:=Lib.hid (show us.length=2∧us[0]? = some (.slice G.RA n G.rc)∧us[1]? = some (.slice G.AA m G.ac) from by rw [←hus,←hn,←hm];exact ⟨rfl,rfl,rfl⟩)
 obtain ⟨R,hR⟩ : ∃v,valE G=v:=⟨_,rfl⟩
 obtain ⟨lv,hlv⟩ : ∃v,lisE G.root=v:=⟨_,rfl⟩
 rw [hus]
 rw [hlv] at HF hc
 rw [hR] at hc ⊢
 have HS:=Lib.hid (show SeesK w (· < w.heap.size) G.AA G.ac G.apps from hs.2)
 have HM:=Lib.hid hm
 have hmc:=hs.2.2.2.1
 have HSL:=Lib.hid (fun j (h:j≤m) w=>sl_aw G.AA m G.ac j (by omega) hs.2.2.2.2 w)
 obtain ⟨RA,rc,root,AA,ac,apps⟩:=G
 simp only at HF HU HS HSL HM hc
 have HB:=Lib.hid (Below.refl w.heap.size w)
 clear hs hus hn hm hmc hR hlv
 rcases hc with ⟨h1,rfl⟩ | ⟨h1,h2,rfl⟩ | ⟨h1,rfl,hR⟩
 · have d4 : decide ((4 : Int) < (m : Int)) = true := by simp; omega
   clear h1
   go_enter Try.func34,Try.ntmps34
   go_wp2_with (first
    | ((with_reducible refine zag (d:=1) ?_);refine zaa (op:=⟨some 1,_,_,_,_,_⟩) rfl 25 _ rfl us rfl ?_;intro g1 w1 hf hr;have H1:=Lib.hid (show Below w.heap.size w w1∧RowV w1 g1 us from ⟨hf.bl HB.out,hr⟩);have c1:=(hr.cell 1).trans HU.out.2.2;clear hf hr))
   go_ret
   exact ⟨rfl,H1.out.1⟩
 · have d4 : decide ((4 : Int) < (m : Int)) = false := by simp; omega
   have dl:(R != 0)=true:=by simpa using h2
   clear h1 h2
   go_enter Try.func34,Try.ntmps34
   go_wp2_with (first
    | ((with_reducible refine zag (d:=1) ?_);refine zaa (op:=⟨some 1,_,_,_,_,_⟩) rfl 25 _ rfl us rfl ?_;intro g1 w1 hf hr;have H1:=Lib.hid (show Below w.heap.size w w1∧RowV w1 g1 us from ⟨hf.bl HB.out,hr⟩);have c1:=(hr.cell 1).trans HU.out.2.2;have c0:=(hr.cell 0).trans HU.out.2.1;clear hf hr)
    | (go_at_call 47;((with_reducible refine (HF.out _ H1.out.1).mono ?_);rintro e w2 ⟨rfl,h2⟩);have H2:=Lib.hid (zad H1.out.1 h2);clear c0 c1 h2))
   go_ret
   exact ⟨rfl,H2.out⟩
 have d4:decide ((4:Int) < (m:Int))=false:=by simp;omega
 have hm4:m≤4:=by omega
 have HR:=Lib.hid hR
 clear h1 hR
 go_enter Try.func34,Try.ntmps34
 go_wp2_with (first
  | ((with_reducible refine zag (d:=1) ?_);refine zaa (op:=⟨some 1,_,_,_,_,_⟩) rfl 25 _ rfl us rfl ?_;intro g1 w1 hf hr;have H1:=Lib.hid (show Below w.heap.size w w1∧RowV w1 g1 us from ⟨hf.bl HB.out,hr⟩);have c1:=(hr.cell 1).trans HU.out.2.2;have c0:=(hr.cell 0).trans HU.out.2.1;clear hf hr)
  | (go_at_call 47;((with_reducible refine (HF.out _ H1.out.1).mono ?_);rintro e w2 ⟨rfl,h2⟩);have H2:=Lib.hid (show Below w.heap.size w w2∧RowV w2 g1 us from ⟨zad H1.out.1 h2,H1.out.2.on h2⟩);clear c0 c1;have c1:=(H2.out.2.cell 1).trans HU.out.2.2;clear h2))
 go_loopw [20] (fun i wr=>∃(j:Nat),j≤m∧i=.int .i64 (j:Int)∧Hid (Below w.heap.size w wr∧RowV wr g1 us∧chkA (apps.take j) (apps.drop j)=R)) (fun i _=>m - (intOf i).toNat)
 case atStart=>exact ⟨0,by omega,rfl,Lib.hid ⟨H2.out.1,H2.out.2,HR.out.symm⟩⟩
 case round =>
  clear c1
  obtain ⟨j,hj,rfl,HQ⟩:=hrel
  by_cases hlt:j < m
  · have dj : decide ((j : Int) < (m : Int)) = true := by simp; omega
    obtain ⟨x,hx⟩ : ∃x,apps[j]? = some x:=⟨_,List.getElem?_eq_getElem (by rw [HM.out];exact hlt)⟩
    obtain ⟨b,off,rfl,hb,hr⟩:=aw_at (HS.out.on HQ.out.1) hx
    have hjl:(apps.take j).length=j:=by rw [List.length_take,HM.out];omega
    have hcl:=fun u (hb:Below w.heap.size w u)=>p_checkapp (apps.take j) j hjl (by omega) x (some ⟨b,off,none⟩) ac u ((HS.out.on hb).take j) ((HS.out.on hb).2.1 x (List.mem_of_getElem? hx))
    have hst:=(chkA_at hx).symm.trans HQ.out.2.2
    obtain ⟨vs,hvs⟩ : ∃us,x.cs=us:=⟨_,rfl⟩
    have h5:vs.length=2:=by rw [←hvs];rfl
    have h1:∀u∈vs,u.oneCell'=true:=by rw [←hvs];exact Aw.cs_one x
    obtain ⟨v,hv⟩ : ∃z,oneA (apps.take j) x=z:=⟨_,rfl⟩
    rw [hvs] at hr hcl
    rw [hv] at hcl hst
    have HV:=Lib.hid (show _∧_∧_ from ⟨hr,h5,h1⟩)
    have HCL:=Lib.hid hcl
    have HST:=Lib.hid hst
    have ixk:=fun w=>ix_aw b off m ac j hlt w
    have HSJ:=Lib.hid (HSL.out j (by omega))
    clear hx hb hr hvs hcl hst h5 h1 hv hjl
    go_wp2_with (first
     | ((with_reducible refine zac (d:=24) ?_);refine wpList_load_mid rfl 71 (.tmp 23) rfl b (off+j*2) rfl vs _ HV.out.1 Try.underlying71 rfl (by rw [HV.out.2.1];exact zbe) ?_)
     | ((with_reducible refine zaj (d:=5) ?_);refine zae (op:=⟨some 5,_,_,_,_,_⟩) rfl 71 rfl zerA.cs info_az ?_;intro g4 w4 hf hr;have H4:=Lib.hid (show Below w.heap.size w w4∧RowV w4 g4 zerA.cs∧w.heap.size≤g4∧RowV w4 g1 us∧g1≠g4 from ⟨hf.bl HQ.out.1,hr,hf.ge HQ.out.1,HQ.out.2.1.fresh hf,HQ.out.2.1.ne hf⟩);clear hf hr)
     | ((with_reducible refine zah (i:=5) ?_);refine zaf rfl 71 (.tmp 5) (.tmp 24) rfl g4 zerA.cs vs rfl rfl H4.out.2.1 HV.out.2.1 HV.out.2.2 (by rw [HV.out.2.1];exact zbe) ?_;intro w5 hw hr;have H5:=Lib.hid (show Below w.heap.size w w5∧RowV w5 g4 vs∧RowV w5 g1 us from ⟨Wr.bl H4.out.1 hw H4.out.2.2.1,hr,H4.out.2.2.2.1.wr hw H4.out.2.2.2.2⟩);clear hw hr))
    have q1:=quiet_up (w:=w5) fun w' hb=>HCL.out w' (zad H5.out.1 hb)
    have sl1:=fun w=>HSJ.out w
    have cq:=H5.out.2.2.quiet HU.out.2.2
    refine wp_region_quiet_below (by kernel_rfl) (by kernel_rfl) ?_
    repeat (first
     | ((with_reducible refine at_qload_ (d:=25) ?_);refine zaW (by rfl) 71 (.tmp 5) rfl g4 rfl vs _ (RowV.up H5.out.2.1) Try.underlying71 rfl (by rw [HV.out.2.1];exact zbe) ?_;simp only [Act.put];simp)
     | go_big_quiet_skip | (go_big_quiet_want;go_big_quiet_op;go_big_quiet_on) | quiet_step (with_reducible exact q1 _ _))
    refine wpQuiet_nil ?_
    intro p6
    have h6:=zav (w:=w5) ⟨p6,rfl⟩
    have H6:=Lib.hid (show Below w.heap.size w _∧RowV _ g1 us from ⟨zad H5.out.1 h6,H5.out.2.2.on h6⟩)
    clear h6 cq
    generalize (Go.Sort.grow (redrawn w5 p6.d) p6.os)=w6 at *
    clear q1 sl1 ixk
    by_cases h0:v=0
    · subst h0
      have HN:=Lib.hid (show chkA (apps.take (j+1)) (apps.drop (j+1))=R from by have h:=HST.out;rwa [if_neg (by decide)] at h)
      clear HST
      go_wp2
      go_roundw
      case rel=>exact ⟨j+1,by omega,by first | rfl | go_num,Lib.hid ⟨H6.out.1,H6.out.2,HN.out⟩⟩
      case measure=>simp [intOf];omega
    · have dv : (v != 0) = true := by simpa using h0
      have HN:=Lib.hid (show v=R from by have h:=HST.out;rwa [if_pos h0] at h)
      clear HST
      go_wp2
      go_ret
      exact ⟨by rw [←HN.out];rfl,H6.out.1⟩
  · obtain rfl : j = m := by omega
    have dj:decide ((j:Int) < (j:Int))=false:=by simp
    have HN := Lib.hid (show R = 0 from by
     have h:=HQ.out.2.2
     rw [List.drop_of_length_le (by rw [HM.out];exact Nat.le_refl _)] at h
     exact h.symm)
    have HE:=Lib.hid HQ.out.1
    clear HQ
    go_wp2
    go_ret
    exact ⟨by rw [HN.out];rfl,HE.out⟩
end Go.Proofs.Ytkdlfbggddllhaa
