/-
  What is proved here: the laws FilesExact and FilesAllows as functions.
-/
import Derived.Test.YtkdlfbggddllhaaP28
set_option linter.unusedVariables false
set_option linter.unusedSimpArgs false
namespace Go.Proofs.Ytkdlfbggddllhaa
open Go.RowKit
set_option maxRecDepth 8000
theorem zbA {n : Int} (h : (Lit.int .i64 n).wf = true) : -9223372036854775808 ≤ n ∧ n ≤ 9223372036854775807 := by
 simpa [Lit.wf,IntKind.min,IntKind.max,IntKind.signed,IntKind.bits] using h
set_option maxHeartbeats 3200000 in
theorem zbl (G : Gw) (a b : Int) (s : Sta) (n : Int) (w : World) (hs : SeesW w (· < w.heap.size) G) (hw : (Lit.int .i64 s.rs).wf = true) :
 Calls Try.prog 3 #[.agg G.cs.toArray,.agg (lkV a b s n).toArray] w fun e w'=>e=.returned (.bool true)∧Below w.heap.size w w':=by
 have HE:=Lib.hid (fun u (hb:Below w.heap.size w u)=>exact17 G a b s n (zbA hw).1 (zbA hw).2 u (hs.on hb))
 obtain ⟨us,hus⟩ : ∃us,G.cs=us:=⟨_,rfl⟩
 obtain ⟨ls,hls⟩ : ∃us,lkV a b s n=us:=⟨_,rfl⟩
 obtain ⟨ss,hss⟩ : ∃us,s.cs=us:=⟨_,rfl⟩
 have HU:=Lib.hid (show us.length=2∧ls.length=8∧(ls.drop 0).take 2=plV a b∧(ls.drop 2).take 5=ss∧ls[7]? = some (.int .i64 n)∧ss.length=5 from by rw [←hus,←hls,←hss];exact ⟨rfl,rfl,rfl,rfl,rfl,rfl⟩)
 rw [hus,hss] at HE
 rw [hus,hls]
 have HB:=Lib.hid (Below.refl w.heap.size w)
 clear hs hw hus hls hss
 go_enter Try.func3,Try.ntmps3
 go_wp2_with (first
  | ((with_reducible refine zag (d:=2) ?_);refine zab (op:=⟨some 2,_,_,_,_,_⟩) rfl 25 _ rfl us rfl ?_;intro g2 w1 hf hr;have H1:=Lib.hid (show Below w.heap.size w w1∧RowV w1 g2 us from ⟨hf.bl HB.out,hr⟩);clear hf hr)
  | ((with_reducible refine zag (d:=3) ?_);refine zab (op:=⟨some 3,_,_,_,_,_⟩) rfl 31 _ rfl ls rfl ?_;intro g3 w2 hf hr;have H2:=Lib.hid (show Below w.heap.size w w2∧RowV w2 g2 us∧RowV w2 g3 ls from ⟨hf.bl H1.out.1,H1.out.2.fresh hf,hr⟩);have c7:=(hr.cell 7).trans HU.out.2.2.2.2.1;clear hf hr)
  | ((with_reducible refine zac (d:=5) ?_);refine zaa rfl 25 (.tmp 2) rfl g2 rfl us _ H2.out.2.1 Try.underlying25 rfl (by rw [HU.out.1];exact zal) ?_)
  | ((with_reducible refine zac (d:=7) ?_);go_must (refine wpList_load_mid rfl 27 (.tmp 6) rfl g3 0 rfl (plV a b) _ (by rw [←HU.out.2.2.1];exact H2.out.2.2.range 0 2 (by rw [HU.out.2.1];decide)) Try.underlying27 rfl zah ?_))
  | ((with_reducible refine zac (d:=9) ?_);go_must (refine wpList_load_mid rfl 29 (.tmp 8) rfl g3 2 rfl ss _ (by rw [←HU.out.2.2.2.1];exact H2.out.2.2.range 2 5 (by rw [HU.out.2.1];decide)) Try.underlying29 rfl (by rw [HU.out.2.2.2.2.2];exact zay) ?_))
  | (go_at_call 8;((with_reducible refine (HE.out _ H2.out.1).mono ?_);rintro e w3 ⟨rfl,h⟩);have H3:=Lib.hid (zaf H2.out.1 h);clear h))
 go_ret
 exact ⟨rfl,H3.out⟩
set_option maxHeartbeats 3200000 in
theorem zbg (a b : Int) (s : Sta) (w : World) (hw : (Lit.int .i64 s.rs).wf = true) :
 Calls Try.prog 5 #[.agg (cnV a b).toArray,.agg s.cs.toArray] w fun e w'=>e=.returned (.bool true)∧Below w.heap.size w w':=by
 have HP:=Lib.hid (fun u=>p_allowed a b s (zbA hw).1 (zbA hw).2 u)
 have HR:=Lib.hid (fun u=>r_allowed a b s (zbA hw).1 (zbA hw).2 u)
 obtain ⟨ss,hss⟩ : ∃us,s.cs=us:=⟨_,rfl⟩
 obtain ⟨q,hq⟩ : ∃z,alwB a b s=z:=⟨_,rfl⟩
 have HS:=Lib.hid (show ss.length=5 from by rw [←hss];rfl)
 rw [hq,hss] at HP HR
 rw [hss]
 have dq:(q==q)=true:=by simp
 have HO:=Lib.hid (Own.start w)
 clear hw hss hq
 go_enter Try.func5,Try.ntmps5
 go_wp2_with (first
  | ((with_reducible refine zag (d:=2) ?_);refine zab (op:=⟨some 2,_,_,_,_,_⟩) rfl 54 _ rfl (cnV a b) rfl ?_;intro g2 w1 hf hr;have L1:=Lib.hid (show Own w w1 [(g2,cnV a b)] from HO.out.new hf hr);clear hf hr)
  | ((with_reducible refine zag (d:=3) ?_);refine zab (op:=⟨some 3,_,_,_,_,_⟩) rfl 29 _ rfl ss rfl ?_;intro g3 w2 hf hr;have L2:=Lib.hid (show Own w w2 [(g2,cnV a b),(g3,ss)] from L1.out.new hf hr);clear hf hr))
 have qa:=zaB (w:=w2) fun w' _=>awake17 w'
 have qp:=zaB (w:=w2) fun w' _=>HP.out w'
 have qr:=zaB (w:=w2) fun w' _=>HR.out w'
 refine wp_region_quiet_below (by kernel_rfl) (by kernel_rfl) ?_
 repeat (first
  | ((with_reducible refine zat (d:=7) ?_);refine zaq (by rfl) 54 (.tmp 2) rfl g2 rfl (cnV a b) _ (L2.out.quietW (i:=0) rfl) Try.underlying54 rfl zan ?_;simp only [Act.put];simp)
  | ((with_reducible refine zat (d:=8) ?_);refine zaq (by rfl) 29 (.tmp 3) rfl g3 rfl ss _ (L2.out.quietW (i:=1) rfl) Try.underlying29 rfl (by rw [HS.out];exact zay) ?_;simp only [Act.put];simp)
  | ((with_reducible refine zat (d:=10) ?_);refine zaq (by rfl) 54 (.tmp 2) rfl g2 rfl (cnV a b) _ (L2.out.quietW (i:=0) rfl) Try.underlying54 rfl zan ?_;simp only [Act.put];simp)
  | ((with_reducible refine zat (d:=11) ?_);refine zaq (by rfl) 29 (.tmp 3) rfl g3 rfl ss _ (L2.out.quietW (i:=1) rfl) Try.underlying29 rfl (by rw [HS.out];exact zay) ?_;simp only [Act.put];simp)
  | go_big_quiet_skip | (go_big_quiet_want;go_big_quiet_op;go_big_quiet_on) | quiet_step (first | with_reducible exact qa _ _ | with_reducible exact qp _ _ | with_reducible exact qr _ _))
 refine wpQuiet_nil ?_
 intro p9
 have H9:=Lib.hid (zaf L2.out.bl (zau (w:=w2) ⟨p9,rfl⟩))
 generalize (Go.Sort.grow (redrawn w2 p9.d) p9.os)=wz at *
 clear qa qp qr
 go_wp2
 go_ret
 exact ⟨rfl,H9.out⟩
end Go.Proofs.Ytkdlfbggddllhaa
