/-
  What is proved here: the lines of a zone, as the reference builds them.
-/
import Derived.Test.YtnlhbknajdpnbaaGreatDoorF28
set_option linter.unusedVariables false
set_option linter.unusedSimpArgs false
namespace Go.Proofs.YtnlhbknajdpnbaaGreatDoor
open Go.RowKit Go.Maps
theorem info_s2:(Tryz.prog.info? 112).map (·.zero)=some (some (.agg [Value.string ⟨#[]⟩,Value.string ⟨#[]⟩].toArray)):=by kernel_rfl
theorem size_s2:(Tryz.prog.info? 112).map (·.size)=some 2:=by kernel_rfl
theorem build_2 (a b:ByteArray) (w:World):(Instr.build 112 #[(0,.string a),(1,.string b)]).run Tryz.prog w=.ok (.agg #[.string a,.string b]) w:=by kernel_rfl
theorem run_chk (vs : Array Value) (w : World) : (callFunc 70 vs).run Tryz.prog w = .ok (.enter 70 vs) w :=
 run_enter (c:=_) Tryz.func70 (by decide) rfl vs w
def v6 (g1:Nat) (BI EX D0 D1:ByteArray) (g:Nat) (i:Nat):Value:=if i=7 then .pointer (some ⟨g,0,none⟩) else [Value.pointer (some ⟨g1,7,none⟩),.string BI,.string D0,.pointer (some ⟨g1,9,none⟩),.string EX,.string D1,.agg #[.string D0,.string D1],undef,undef].getD i undef
def W6 (w : World) (g1 : Nat) (us : List Value) (D0 D1 : ByteArray) (g : Nat) (S : Nat → Bool) (cur : World) : Prop :=
 Own w cur [(g1,us)]∧(S 7=true→S 8=false→Own w cur [(g1,us),(g,[.string ⟨#[]⟩,.string ⟨#[]⟩])])∧(S 8=true→Own w cur [(g1,us),(g,[.string D0,.string D1])])
section
variable {w cur cur':World} {g1 g i:Nat} {us:List Value} {D0 D1:ByteArray} {S:Nat→Bool}
theorem W6.start (h:Own w cur [(g1,us)]):W6 w g1 us D0 D1 g (fun _=>false) cur:=⟨h,fun h=>(by cases h),fun h=>(by cases h)⟩
theorem W6.skip (h : W6 w g1 us D0 D1 g S cur) (hb : Below cur.heap.size cur cur') (h7 : i ≠ 7) (h8 : i ≠ 8) : W6 w g1 us D0 D1 g (fun j => S j || j == i) cur' := by
 have e7:(S 7 || (7==i))=S 7:=by simp [Ne.symm h7]
 have e8:(S 8 || (8==i))=S 8:=by simp [Ne.symm h8]
 exact ⟨h.1.on hb,fun a b=>(h.2.1 (e7.symm.trans a) (e8.symm.trans b)).on hb,fun a=>(h.2.2 (e8.symm.trans a)).on hb⟩
theorem W6.made (h8 : S 8 = false) (h : Own w cur ([(g1, us)] ++ [(g, [.string ⟨#[]⟩, .string ⟨#[]⟩])])) : W6 w g1 us D0 D1 g (fun j => S j || j == 7) cur := by
 have e8:(S 8 || (8==7))=false:=by rw [h8];rfl
 exact ⟨h.pre,fun _ _=>h,fun a=>absurd (e8.symm.trans a) (by decide)⟩
theorem W6.put (h7 : S 7 = true) (h : Own w cur [(g1, us), (g, [.string D0, .string D1])]) : W6 w g1 us D0 D1 g (fun j => S j || j == 8) cur := by
 have e8:(S 8 || (8==8))=true:=by simp
 exact ⟨Own.pre (L:=[(g1,us)]) h,fun _ b=>absurd (e8.symm.trans b) (by decide),fun _=>h⟩
end
structure Bp (z : Zn) (KD ST N NA NR BI EX D0 D1 N6 NAT SU GI NM : ByteArray) (nm : Int) : Prop where
 kd:∀w,Calls Tryz.prog 68 #[.string (S z.kd),.int .i64 2] w fun e w'=>e=.returned (.string KD)∧w=w'
 st:∀w,Calls Tryz.prog 68 #[.string (S z.st),.int .i64 3] w fun e w'=>e=.returned (.string ST)∧w=w'
 nu:∀w,Calls Tryz.prog 69 #[.string (S z.nu)] w fun e w'=>e=.returned (.tuple #[.string NA,.string NR])∧Below w.heap.size w w'
 bi:∀w,Calls Tryz.prog 70 #[.string BI] w fun e w'=>e=.returned (.string D0)∧Below w.heap.size w w'
 ex:∀w,Calls Tryz.prog 70 #[.string EX] w fun e w'=>e=.returned (.string D1)∧Below w.heap.size w w'
 na:∀w,Calls Tryz.prog 68 #[.string (S z.na),.int .i64 3] w fun e w'=>e=.returned (.string NAT)∧w=w'
 nm:∀w,Calls Tryz.prog 71 #[.string (S z.su),.string (S z.gi),.int .i64 nm] w fun e w'=>e=.returned (.tuple #[.string NM,.int .i64 0])∧Below w.heap.size w w'
structure Bq (z : Zn) (H NA NR D0 D1 NAT NM : ByteArray) : Prop where
 h:S (headL z)=H
 na:S (numA z.nu)=NA
 nr:S (numR z.nu)=NR
 d0:S (z.bi++dgL z.bi)=D0
 d1:S (z.ex++dgL z.ex)=D1
 nat:S (zaX z.na 3)=NAT
 nm:S (zbk z.su z.gi (namN z.fm))=NM
theorem ix_nm1 (w:World):(Instr.index 81 (.agg #[.int .i64 0,.int .i64 30,.int .i64 31,.int .i64 39]) (.int .i64 1)).run Tryz.prog w=.ok (.int .i64 30) w:=by kernel_rfl
theorem ix_nm2 (w:World):(Instr.index 81 (.agg #[.int .i64 0,.int .i64 30,.int .i64 31,.int .i64 39]) (.int .i64 2)).run Tryz.prog w=.ok (.int .i64 31) w:=by kernel_rfl
theorem ix_nm3 (w:World):(Instr.index 81 (.agg #[.int .i64 0,.int .i64 30,.int .i64 31,.int .i64 39]) (.int .i64 3)).run Tryz.prog w=.ok (.int .i64 39) w:=by kernel_rfl
theorem zfK {z : Zn} (hz : zaY z = 0) : (zbN z).length = widN z.fm := by
 have h1:=(zeq hz).1
 rw [←zeN hz (tx z) (fun k _=>rfl),zeA,seg_sum h1 (by unfold cntN;repeat (first | omega | split))]
structure Be (z : Zn) (KD ST H : ByteArray) : Prop where
 hd:KD++ST=H
set_option maxHeartbeats 3200000 in
set_option maxRecDepth 20000 in
theorem zgl (z : Zn) (us : List Value) (KD ST H N NA NR BI EX D0 D1 N6 NAT SU GI NM : ByteArray) (f nm : Int) (hz : Bears z) (hft : Fits z) (hus : zV z = us) (hp : Bp z KD ST N NA NR BI EX D0 D1 N6 NAT SU GI NM nm) (he : Be z KD ST H) (hq : Bq z H NA NR D0 D1 NAT NM) (hnn : nm = ((namN z.fm : Nat) : Int)) (hz1 : H.size ≤ 5) (hz2 : NA.size ≤ 10) (hz3 : NR.size ≤ 66) (hz4 : D0.size ≤ 65) (hz5 : D1.size ≤ 65) (hz6 : NAT.size ≤ 3) (hz7 : NM.size ≤ 39) (kz : KD.size ≤ 2) (sz : ST.size ≤ 3)
 (hbi:S z.bi=BI) (hex:S z.ex=EX) (hv:zaY z=0) (w:World):Calls Tryz.prog 38 #[.agg us.toArray] w fun e w'=>∃A,e=.returned (.tuple #[.slice A (zbb z).length (zbb z).length,.int .i64 (zaY z)])∧Strs w' A (zbb z)∧Below w.heap.size w w':=by
 have HVD:Hid (∀w,Calls Tryz.prog 67 #[.agg us.toArray] w fun e w'=>e=.returned (.int .i64 0)∧Below w.heap.size w w'):=Lib.hid (fun w=>by rw [←hv];exact r_zvalid z hz us hus w)
 have HP:=Lib.hid hp
 have HE:=Lib.hid he
 have HQ:=Lib.hid hq
 have HNN:=Lib.hid hnn
 have HFT:=Lib.hid hft
 have HF:=Lib.hid hft.fm
 have HU0:Hid (us[0]? = some (.int .i64 z.fm)):=Lib.hid (by rw [←hus];rfl)
 have HU1:Hid (us[1]? = some (.string (S z.kd))):=Lib.hid (by rw [←hus];rfl)
 have HU2:Hid (us[2]? = some (.string (S z.st))):=Lib.hid (by rw [←hus];rfl)
 have HU3:Hid (us[3]? = some (.string (S z.su))):=Lib.hid (by rw [←hus];rfl)
 have HU4:Hid (us[4]? = some (.string (S z.gi))):=Lib.hid (by rw [←hus];rfl)
 have HU5:Hid (us[5]? = some (.string (S z.nu))):=Lib.hid (by rw [←hus];rfl)
 have HU6:Hid (us[6]? = some (.string (S z.na))):=Lib.hid (by rw [←hus];rfl)
 have HU8:Hid (us[8]? = some (.string (S z.sx))):=Lib.hid (by rw [←hus];rfl)
 have HU10:Hid (us[10]? = some (.string (S z.op))):=Lib.hid (by rw [←hus];rfl)
 have HU11:Hid (us[11]? = some (.string (S z.se))):=Lib.hid (by rw [←hus];rfl)
 have HU7:Hid (us[7]? = some (.string BI)):=Lib.hid (by rw [←hus,←hbi];rfl)
 have HU9:Hid (us[9]? = some (.string EX)):=Lib.hid (by rw [←hus,←hex];rfl)
 have HSZ:Hid ((Tryz.prog.info? 46).map (·.size)=some us.length):=Lib.hid (by rw [←hus];exact zeW)
 have HO:=Lib.hid (Own.start w)
 have HV:=Lib.hid hv
 clear hz hft hus hp he hbi hex hv hq hnn
 go_enter Tryz.func38,Tryz.ntmps38
 go_wp2_with (first
  | ((with_reducible refine zbl (d:=1) ?_);refine zax (op:=⟨some 1,_,_,_,_,_⟩) rfl 46 _ rfl us rfl ?_;intro g1 v1b hf hr;replace HO:=Lib.hid (HO.out.new hf hr);clear hf hr)
  | ((with_reducible refine zaa (d:=24) ?_);refine zaJ rfl 46 _ rfl g1 rfl us _ (HO.out.row (i:=0) rfl) Tryz.underlying46 rfl HSZ.out ?_)
  | (go_at_call 67;((with_reducible refine (HVD.out _).mono ?_);rintro e w9 ⟨rfl,hb⟩);replace HO:=Lib.hid (HO.out.on hb);clear hb))
 have q1:=HO.out.qst fun w'=>HP.out.kd w'
 have q2:=HO.out.qst fun w'=>HP.out.st w'
 have l1:=(HO.out.row (i:=0) rfl).quiet (k:=1) HU1.out
 have l2:=(HO.out.row (i:=0) rfl).quiet (k:=2) HU2.out
 refine wp_region_quiet_below (by kernel_rfl) (by kernel_rfl) ?_
 repeat (first | go_big_quiet_skip | (go_big_quiet_want;go_big_quiet_op;go_big_quiet_on) | quiet_step (first | with_reducible exact q1 _ _ | with_reducible exact q2 _ _))
 refine wpQuiet_nil ?_
 intro w4 hw4
 replace HO:=Lib.hid (HO.out.on (zag hw4))
 clear hw4 q1 q2 l1 l2
 rw [HE.out.hd]
 go_wp2_with (first
  | ((with_reducible refine zaa (d:=38) ?_);refine zab rfl 9 _ rfl g1 5 rfl _ (((HO.out.row (i:=0) rfl).cell 5).trans HU5.out) Tryz.isAgg9 ?_)
  | (go_at_call 69;((with_reducible refine (HP.out.nu _).mono ?_);rintro e w9 ⟨rfl,hb⟩);replace HO:=Lib.hid (HO.out.on hb);clear hb))
 refine region_setX (by kernel_rfl) _ (v6 g1 BI EX D0 D1) (W6 w g1 us D0 D1) (by kernel_rfl) 0 (W6.start (HO.out.on (zbS _ _ 1))) ?_ ?_
 · refine zch (allI.cons ?_ (allI.cons ?_ (allI.cons ?_ (allI.cons ?_ (allI.cons ?_ (allI.cons ?_ (allI.cons ?_ (allI.cons ?_ (allI.cons ?_ allI.nil))))))))) <;> intro g S cur a hW hSi hdep hS hC
   · exact o_fa _ (.tmp 1) 7 rfl (hS.before hC hSi 1 rfl) (fa_z7 g1 _) ⟨g,fun _ _=>rfl,rfl,hW.skip (Below.refl _ _) (by decide) (by decide)⟩
   · exact o_ld _ (.tmp 42) rfl (hS.get 0 (zad hdep 0 rfl) rfl rfl) (((hW.1.row (i:=0) rfl).cell 7).trans HU7.out) Tryz.isAgg9 ⟨g,fun _ _=>rfl,rfl,hW.skip (Below.refl _ _) (by decide) (by decide)⟩
   · exact o_call1 _ (.tmp 43) _ rfl (hS.get 1 (zad hdep 1 rfl) rfl rfl) (run_chk _ _) (HP.out.bi _) fun w' hb=>⟨g,fun _ _=>rfl,rfl,hW.skip hb (by decide) (by decide)⟩
   · exact o_fa _ (.tmp 1) 9 rfl (hS.before hC hSi 1 rfl) (fa_z9 g1 _) ⟨g,fun _ _=>rfl,rfl,hW.skip (Below.refl _ _) (by decide) (by decide)⟩
   · exact o_ld _ (.tmp 45) rfl (hS.get 3 (zad hdep 3 rfl) rfl rfl) (((hW.1.row (i:=0) rfl).cell 9).trans HU9.out) Tryz.isAgg9 ⟨g,fun _ _=>rfl,rfl,hW.skip (Below.refl _ _) (by decide) (by decide)⟩
   · exact o_call1 _ (.tmp 46) _ rfl (hS.get 4 (zad hdep 4 rfl) rfl rfl) (run_chk _ _) (HP.out.ex _) fun w' hb=>⟨g,fun _ _=>rfl,rfl,hW.skip hb (by decide) (by decide)⟩
   · exact o_build _ _ rfl (by simp only [List.map_toArray,List.map_cons,List.map_nil,(hS.get 2 (zad hdep 2 rfl) rfl rfl),(hS.get 5 (zad hdep 5 rfl) rfl rfl)];rfl) (build_2 _ _ _) ⟨g,fun _ _=>rfl,rfl,hW.skip (Below.refl _ _) (by decide) (by decide)⟩
   · have h8 : S 8 = false := by
      rcases hq:S 8 with _ | _
      · rfl
      · have := zad (hC 8 _ rfl hq) 7 rfl
        rw [this] at hSi;cases hSi
     refine wp_alloc_v 112 rfl [.string ⟨#[]⟩,.string ⟨#[]⟩] info_s2 ?_
     intro g8 w' hf hr
     refine ⟨g8,fun j hj=>?_,rfl,W6.made h8 (hW.1.new hf hr)⟩
     have h0:j≠7:=fun e=>by rw [e] at hj;rw [hj] at hSi;cases hSi
     unfold v6
     rw [if_neg h0,if_neg h0]
   · have h7 := zad hdep 7 rfl
     have ho:=hW.2.1 h7 hSi
     refine zgH 112 (.tmp 8) (.tmp 48) rfl g [.string ⟨#[]⟩,.string ⟨#[]⟩] [.string D0,.string D1] (hS.get 7 h7 rfl rfl) (hS.get 6 (zad hdep 6 rfl) rfl rfl) (ho.row (i:=1) rfl) rfl (by intro u hu;simp at hu;rcases hu with rfl | rfl <;> rfl) size_s2 ?_
     intro w' hw hr
     exact ⟨g,fun _ _=>rfl,rfl,W6.put h7 (ho.set (i:=1) rfl hw hr)⟩
 intro g8 cur SS hall hW
 have HO2:=Lib.hid (hW.2.2 (hall 8 (by decide)))
 clear HO hW hall SS
 have HO:=Lib.hid HO2.out
 clear HO2
 simp only [zbz,Act.put,v6]
 simp
 have hbl:zbb z=refL z:=by unfold zbb;rw [if_pos HV.out,ref_lines HV.out]
 have HBL:=Lib.hid hbl
 clear hbl
 have hf3:z.fm=1∨z.fm=2∨z.fm=3:=by have:=HF.out;omega
 rcases hf3 with e | e | e
 · skip
   have HU0:Hid (us[0]? = some (.int .i64 1)):=Lib.hid (by rw [←e];exact HU0.out)
   have HNM:Hid (∀w,Calls Tryz.prog 71 #[.string (S z.su),.string (S z.gi),.int .i64 30] w fun e w'=>e=.returned (.tuple #[.string NM,.int .i64 0])∧Below w.heap.size w w'):=Lib.hid (by have h:=HP.out.nm;rw [HNN.out,e] at h;exact h)
   have hix:=ix_nm1
   have hfl:(S (zbN z)).size=30:=by rw [zao,zfK HV.out,e];rfl
   have hbl:(S (zce z)).size=29:=by have h:=zfh HV.out;rw [e] at h;have:widN 1=30:=rfl;rw [zao];omega
   obtain ⟨A1,hA1⟩ : ∃A,S (zbN z)=A:=⟨_,rfl⟩
   obtain ⟨B1,hB1⟩ : ∃B,S (zce z)=B:=⟨_,rfl⟩
   obtain ⟨CD,hCD⟩ : ∃C,S (dgL (zdf z))=C:=⟨_,rfl⟩
   obtain ⟨OP,hOP⟩ : ∃O,S z.op=O:=⟨_,rfl⟩
   obtain ⟨SX,hSX⟩ : ∃O,S z.sx=O:=⟨_,rfl⟩
   rw [hA1] at hfl
   rw [hB1] at hbl
   have hcdz:CD.size≤1:=by rw [←hCD];exact zdL _
   have hopz:OP.size≤64:=by rw [←hOP,zao];exact HFT.out.op
   have hsxz:SX.size≤64:=by rw [←hSX,zao];exact HFT.out.sx
   have HOP:Hid (us[10]? = some (.string OP)):=Lib.hid (by rw [←hOP];exact HU10.out)
   have HSX:Hid (us[8]? = some (.string SX)):=Lib.hid (by rw [←hSX];exact HU8.out)
   obtain ⟨O15,hO15⟩ : ∃O,S (zaX (numR z.nu++z.op) 15)=O:=⟨_,rfl⟩
   obtain ⟨SE,hSE⟩ : ∃O,S (zaX z.se 11)=O:=⟨_,rfl⟩
   have hr:=room_ok HV.out
   have h15z:O15.size≤15:=by rw [←hO15,zao];have h1:=hr.1;rw [e] at h1;have:optN 1=15:=rfl;unfold zaX;rw [List.length_append,List.length_replicate];omega
   have hsez:SE.size≤11:=by rw [←hSE,zao];have h1:=hr.2.1;unfold zaX;rw [List.length_append,List.length_replicate];omega
   have HW15:Hid (∀w,Calls Tryz.prog 68 #[.string (NR++OP),.int .i64 15] w fun e w'=>e=.returned (.string O15)∧w=w'):=Lib.hid (fun w=>by rw [←HQ.out.nr,←hOP,zaz];exact zdp _ 15 (by decide) O15 hO15 w)
   have HW11:Hid (∀w,Calls Tryz.prog 68 #[.string (S z.se),.int .i64 11] w fun e w'=>e=.returned (.string SE)∧w=w'):=Lib.hid (fun w=>zdp z.se 11 (by decide) SE hSE w)
   have HA1:Hid (H++NA++O15=A1):=Lib.hid (by rw [←HQ.out.h,←HQ.out.na,←hO15,zaz,zaz,←hA1];unfold zbN;rw [if_pos e])
   have HB1:Hid (D0++SX++D1++NAT++SE=B1):=Lib.hid (by rw [←HQ.out.d0,←hSX,←HQ.out.d1,←HQ.out.nat,←hSE,zaz,zaz,zaz,zaz,←hB1];unfold zce;rw [if_pos e])
   have HDG : Hid (∀ w, Calls Tryz.prog 72 #[.string (A1.extract 5 30 ++ B1.extract 0 7 ++ B1.extract 8 15 ++ B1.extract 18 29)] w fun e w' => e = .returned (.tuple #[.string CD, .int .i64 (dgE (zdf z))]) ∧ Below w.heap.size w w') := Lib.hid (fun w => by
    rw [←hCD]
    refine zeB _ (zdf z) ?_ w ?_
    · rw [←hA1];rw [←hB1];simp only [zbI,zaz];unfold zdf;rw [if_pos e];rfl
    · simp only [ByteArray.size_append,ByteArray.size_extract];omega)
   have HRW : Hid (strV (zbb z) = [.string A1, .string (B1 ++ CD), .string NM] ∧ (zbb z).length = 3) := Lib.hid (by
    rw [HBL.out]
    unfold refL
    rw [if_pos e]
    refine ⟨?_,rfl⟩
    unfold strV
    simp only [List.map_cons,List.map_nil]
    rw [hA1,←zaz,hB1,hCD,HQ.out.nm])
   clear e hA1 hB1 hCD hOP hSX hO15 hSE hr
   go_wp2_with (first
    | ((with_reducible refine zaa (d:=50) ?_);refine zab rfl 9 _ rfl g1 6 rfl _ (((HO.out.row (i:=0) rfl).cell 6).trans HU6.out) Tryz.isAgg9 ?_)
    | (go_at_call 68;((with_reducible refine (HP.out.na _).mono ?_);rintro e w9 ⟨rfl,rfl⟩))
    | ((with_reducible refine zaa (d:=54) ?_);refine zab rfl 3 _ rfl g1 0 rfl _ (((HO.out.row (i:=0) rfl).cell 0).trans HU0.out) Tryz.isAgg3 ?_)
    | ((with_reducible refine zaa (d:=58) ?_);refine zab rfl 9 _ rfl g1 3 rfl _ (((HO.out.row (i:=0) rfl).cell 3).trans HU3.out) Tryz.isAgg9 ?_)
    | ((with_reducible refine zaa (d:=60) ?_);refine zab rfl 9 _ rfl g1 4 rfl _ (((HO.out.row (i:=0) rfl).cell 4).trans HU4.out) Tryz.isAgg9 ?_)
    | (go_at_call 71;((with_reducible refine (HNM.out _).mono ?_);rintro e9 w9 ⟨rfl,hb⟩);replace HO:=Lib.hid (HO.out.on hb);clear hb)
    | ((with_reducible refine zaa (d:=66) ?_);refine zab rfl 3 _ rfl g1 0 rfl _ (((HO.out.row (i:=0) rfl).cell 0).trans HU0.out) Tryz.isAgg3 ?_)
    | ((with_reducible refine zaa (d:=74) ?_);refine zab rfl 9 _ rfl g1 10 rfl _ (((HO.out.row (i:=0) rfl).cell 10).trans HOP.out) Tryz.isAgg9 ?_)
    | (go_at_call 68;((with_reducible refine (HW15.out _).mono ?_);rintro e w9 ⟨rfl,rfl⟩)))
   rw [HA1.out]
   have d0:=(HO.out.row (i:=1) rfl).quiet (k:=0) rfl
   have d1:=(HO.out.row (i:=1) rfl).quiet (k:=1) rfl
   have lx:=(HO.out.row (i:=0) rfl).quiet (k:=8) HSX.out
   have le:=(HO.out.row (i:=0) rfl).quiet (k:=11) HU11.out
   have qw:=HO.out.qst fun w'=>HW11.out w'
   refine wp_region_quiet_below (by kernel_rfl) (by kernel_rfl) ?_
   repeat (first | go_big_quiet_skip | (go_big_quiet_want;go_big_quiet_op;go_big_quiet_on) | quiet_step (first | with_reducible exact qw _ _))
   refine wpQuiet_nil ?_
   intro w4 hw4
   replace HO:=Lib.hid (HO.out.on (zag hw4))
   clear hw4 d0 d1 lx le qw
   rw [HB1.out]
   go_wp2_with fail
   have qd:=HO.out.qup fun w' _=>HDG.out w'
   refine wp_region_quiet_below (by kernel_rfl) (by kernel_rfl) ?_
   repeat (first | go_big_quiet_skip | (go_big_quiet_want;go_big_quiet_op;go_big_quiet_on) | quiet_step (first | with_reducible exact qd _ _))
   refine wpQuiet_nil ?_
   intro w4 hw4
   replace HO:=Lib.hid (HO.out.on (zag hw4))
   clear hw4 qd
   go_wp2
   go_ret2
   rw [HRW.out.2,HV.out]
   exact ⟨_,rfl,RowV.sees0 (RowV.new (by rw [HRW.out.1])),HO.out.bl.alloc HO.out.bl.size _⟩
 · skip
   have HU0:Hid (us[0]? = some (.int .i64 2)):=Lib.hid (by rw [←e];exact HU0.out)
   have HNM:Hid (∀w,Calls Tryz.prog 71 #[.string (S z.su),.string (S z.gi),.int .i64 31] w fun e w'=>e=.returned (.tuple #[.string NM,.int .i64 0])∧Below w.heap.size w w'):=Lib.hid (by have h:=HP.out.nm;rw [HNN.out,e] at h;exact h)
   have hix:=ix_nm2
   have hfl:(S (zbN z)).size=36:=by rw [zao,zfK HV.out,e];rfl
   have hbl:(S (zce z)).size=35:=by have h:=zfh HV.out;rw [e] at h;have:widN 2=36:=rfl;rw [zao];omega
   obtain ⟨A1,hA1⟩ : ∃A,S (zbN z)=A:=⟨_,rfl⟩
   obtain ⟨B1,hB1⟩ : ∃B,S (zce z)=B:=⟨_,rfl⟩
   obtain ⟨CD,hCD⟩ : ∃C,S (dgL (zdf z))=C:=⟨_,rfl⟩
   obtain ⟨OP,hOP⟩ : ∃O,S z.op=O:=⟨_,rfl⟩
   obtain ⟨SX,hSX⟩ : ∃O,S z.sx=O:=⟨_,rfl⟩
   rw [hA1] at hfl
   rw [hB1] at hbl
   have hcdz:CD.size≤1:=by rw [←hCD];exact zdL _
   have hopz:OP.size≤64:=by rw [←hOP,zao];exact HFT.out.op
   have hsxz:SX.size≤64:=by rw [←hSX,zao];exact HFT.out.sx
   have HOP:Hid (us[10]? = some (.string OP)):=Lib.hid (by rw [←hOP];exact HU10.out)
   have HSX:Hid (us[8]? = some (.string SX)):=Lib.hid (by rw [←hSX];exact HU8.out)
   obtain ⟨O7,hO7⟩ : ∃O,S (zaX (numR z.nu++z.op) 7)=O:=⟨_,rfl⟩
   have hr:=room_ok HV.out
   have h7z:O7.size≤7:=by rw [←hO7,zao];have h1:=hr.1;rw [e] at h1;have:optN 2=7:=rfl;unfold zaX;rw [List.length_append,List.length_replicate];omega
   have HW7:Hid (∀w,Calls Tryz.prog 68 #[.string (NR++OP),.int .i64 7] w fun e w'=>e=.returned (.string O7)∧w=w'):=Lib.hid (fun w=>by rw [←HQ.out.nr,←hOP,zaz];exact zdp _ 7 (by decide) O7 hO7 w)
   have HB1:Hid (NA++NAT++D0++SX++D1++O7=B1):=Lib.hid (by rw [←HQ.out.na,←HQ.out.nat,←HQ.out.d0,←hSX,←HQ.out.d1,←hO7,zaz,zaz,zaz,zaz,zaz,←hB1];unfold zce;rw [if_neg (by omega),if_pos e])
   have HDG : Hid (∀ w, Calls Tryz.prog 72 #[.string (B1.extract 0 10 ++ B1.extract 13 20 ++ B1.extract 21 35)] w fun e w' => e = .returned (.tuple #[.string CD, .int .i64 (dgE (zdf z))]) ∧ Below w.heap.size w w') := Lib.hid (fun w => by
    rw [←hCD]
    refine zeB _ (zdf z) ?_ w ?_
    · rw [←hB1];simp only [zbI,zaz];unfold zdf;rw [if_neg (by omega),if_pos e];rfl
    · simp only [ByteArray.size_append,ByteArray.size_extract];omega)
   have HRW : Hid (strV (zbb z) = [.string (H ++ NM), .string (B1 ++ CD)] ∧ (zbb z).length = 2) := Lib.hid (by
    rw [HBL.out]
    unfold refL
    rw [if_neg (by omega)]
    refine ⟨?_,rfl⟩
    unfold strV
    simp only [List.map_cons,List.map_nil]
    rw [←zaz,hB1,hCD,show S (zbN z)=H++NM from by rw [←HQ.out.h,←HQ.out.nm,zaz];unfold zbN;rw [if_neg (by omega)]])
   clear e hA1 hB1 hCD hOP hSX hO7 hr
   go_wp2_with (first
    | ((with_reducible refine zaa (d:=50) ?_);refine zab rfl 9 _ rfl g1 6 rfl _ (((HO.out.row (i:=0) rfl).cell 6).trans HU6.out) Tryz.isAgg9 ?_)
    | (go_at_call 68;((with_reducible refine (HP.out.na _).mono ?_);rintro e w9 ⟨rfl,rfl⟩))
    | ((with_reducible refine zaa (d:=54) ?_);refine zab rfl 3 _ rfl g1 0 rfl _ (((HO.out.row (i:=0) rfl).cell 0).trans HU0.out) Tryz.isAgg3 ?_)
    | ((with_reducible refine zaa (d:=58) ?_);refine zab rfl 9 _ rfl g1 3 rfl _ (((HO.out.row (i:=0) rfl).cell 3).trans HU3.out) Tryz.isAgg9 ?_)
    | ((with_reducible refine zaa (d:=60) ?_);refine zab rfl 9 _ rfl g1 4 rfl _ (((HO.out.row (i:=0) rfl).cell 4).trans HU4.out) Tryz.isAgg9 ?_)
    | (go_at_call 71;((with_reducible refine (HNM.out _).mono ?_);rintro e9 w9 ⟨rfl,hb⟩);replace HO:=Lib.hid (HO.out.on hb);clear hb)
    | ((with_reducible refine zaa (d:=66) ?_);refine zab rfl 3 _ rfl g1 0 rfl _ (((HO.out.row (i:=0) rfl).cell 0).trans HU0.out) Tryz.isAgg3 ?_))
   have d0:=(HO.out.row (i:=1) rfl).quiet (k:=0) rfl
   have d1:=(HO.out.row (i:=1) rfl).quiet (k:=1) rfl
   have lx:=(HO.out.row (i:=0) rfl).quiet (k:=8) HSX.out
   have lo:=(HO.out.row (i:=0) rfl).quiet (k:=10) HOP.out
   have qw:=HO.out.qst fun w'=>HW7.out w'
   refine wp_region_quiet_below (by kernel_rfl) (by kernel_rfl) ?_
   repeat (first | go_big_quiet_skip | (go_big_quiet_want;go_big_quiet_op;go_big_quiet_on) | quiet_step (first | with_reducible exact qw _ _))
   refine wpQuiet_nil ?_
   intro w4 hw4
   replace HO:=Lib.hid (HO.out.on (zag hw4))
   clear hw4 d0 d1 lx lo qw
   rw [HB1.out]
   go_wp2_with fail
   have qd:=HO.out.qup fun w' _=>HDG.out w'
   refine wp_region_quiet_below (by kernel_rfl) (by kernel_rfl) ?_
   repeat (first | go_big_quiet_skip | (go_big_quiet_want;go_big_quiet_op;go_big_quiet_on) | quiet_step (first | with_reducible exact qd _ _))
   refine wpQuiet_nil ?_
   intro w4 hw4
   replace HO:=Lib.hid (HO.out.on (zag hw4))
   clear hw4 qd
   go_wp2
   go_ret2
   rw [HRW.out.2,HV.out]
   exact ⟨_,rfl,RowV.sees0 (RowV.new (by rw [HRW.out.1])),HO.out.bl.alloc HO.out.bl.size _⟩
 · skip
   have HU0:Hid (us[0]? = some (.int .i64 3)):=Lib.hid (by rw [←e];exact HU0.out)
   have HNM:Hid (∀w,Calls Tryz.prog 71 #[.string (S z.su),.string (S z.gi),.int .i64 39] w fun e w'=>e=.returned (.tuple #[.string NM,.int .i64 0])∧Below w.heap.size w w'):=Lib.hid (by have h:=HP.out.nm;rw [HNN.out,e] at h;exact h)
   have hix:=ix_nm3
   have hfl:(S (zbN z)).size=44:=by rw [zao,zfK HV.out,e];rfl
   have hbl:(S (zce z)).size=43:=by have h:=zfh HV.out;rw [e] at h;have:widN 3=44:=rfl;rw [zao];omega
   obtain ⟨A1,hA1⟩ : ∃A,S (zbN z)=A:=⟨_,rfl⟩
   obtain ⟨B1,hB1⟩ : ∃B,S (zce z)=B:=⟨_,rfl⟩
   obtain ⟨CD,hCD⟩ : ∃C,S (dgL (zdf z))=C:=⟨_,rfl⟩
   obtain ⟨OP,hOP⟩ : ∃O,S z.op=O:=⟨_,rfl⟩
   obtain ⟨SX,hSX⟩ : ∃O,S z.sx=O:=⟨_,rfl⟩
   rw [hA1] at hfl
   rw [hB1] at hbl
   have hcdz:CD.size≤1:=by rw [←hCD];exact zdL _
   have hopz:OP.size≤64:=by rw [←hOP,zao];exact HFT.out.op
   have hsxz:SX.size≤64:=by rw [←hSX,zao];exact HFT.out.sx
   have HOP:Hid (us[10]? = some (.string OP)):=Lib.hid (by rw [←hOP];exact HU10.out)
   have HSX:Hid (us[8]? = some (.string SX)):=Lib.hid (by rw [←hSX];exact HU8.out)
   obtain ⟨W14,hW14⟩ : ∃O,S (zaX z.op 14)=O:=⟨_,rfl⟩
   obtain ⟨OO,hOO⟩ : ∃O,S (optO z)=O:=⟨_,rfl⟩
   have hooz:OO.size≤1:=by rw [←hOO];unfold optO;split;(rw [zao];decide);exact zdL _
   have h14z:W14.size≤78:=by rw [←hW14,zao];have:=HFT.out.op;unfold zaX;rw [List.length_append,List.length_replicate];omega
   have HW14:Hid (∀w,Calls Tryz.prog 68 #[.string OP,.int .i64 14] w fun e w'=>e=.returned (.string W14)∧w=w'):=Lib.hid (fun w=>by rw [←hOP];exact zdp z.op 14 (by decide) W14 hW14 w)
   have HB1:Hid (NA++NAT++D0++SX++D1++W14++OO=B1):=Lib.hid (by rw [←HQ.out.na,←HQ.out.nat,←HQ.out.d0,←hSX,←HQ.out.d1,←hW14,←hOO,zaz,zaz,zaz,zaz,zaz,zaz,←hB1];unfold zce;rw [if_neg (by omega),if_neg (by omega)])
   have HDG : Hid (∀ w, Calls Tryz.prog 72 #[.string (B1.extract 0 10 ++ B1.extract 13 20 ++ B1.extract 21 43)] w fun e w' => e = .returned (.tuple #[.string CD, .int .i64 (dgE (zdf z))]) ∧ Below w.heap.size w w') := Lib.hid (fun w => by
    rw [←hCD]
    refine zeB _ (zdf z) ?_ w ?_
    · rw [←hB1];simp only [zbI,zaz];unfold zdf;rw [if_neg (by omega),if_neg (by omega)];rfl
    · simp only [ByteArray.size_append,ByteArray.size_extract];omega)
   have HRW : Hid (strV (zbb z) = [.string (H ++ NM), .string (B1 ++ CD)] ∧ (zbb z).length = 2) := Lib.hid (by
    rw [HBL.out]
    unfold refL
    rw [if_neg (by omega)]
    refine ⟨?_,rfl⟩
    unfold strV
    simp only [List.map_cons,List.map_nil]
    rw [←zaz,hB1,hCD,show S (zbN z)=H++NM from by rw [←HQ.out.h,←HQ.out.nm,zaz];unfold zbN;rw [if_neg (by omega)]])
   by_cases ho:z.op=[]
   · have hs : OP.toList.isEmpty = true := by rw [← hOP]; exact zfE rfl ho
     have hoo:OO=⟨#[60]⟩:=by rw [←hOO];unfold optO;rw [if_pos ho];rfl
     rw [hoo] at HB1
     clear e hA1 hB1 hCD hOP hSX hW14 hOO ho hoo hooz
     go_wp2_with (first
      | ((with_reducible refine zaa (d:=50) ?_);refine zab rfl 9 _ rfl g1 6 rfl _ (((HO.out.row (i:=0) rfl).cell 6).trans HU6.out) Tryz.isAgg9 ?_)
      | (go_at_call 68;((with_reducible refine (HP.out.na _).mono ?_);rintro e w9 ⟨rfl,rfl⟩))
      | ((with_reducible refine zaa (d:=54) ?_);refine zab rfl 3 _ rfl g1 0 rfl _ (((HO.out.row (i:=0) rfl).cell 0).trans HU0.out) Tryz.isAgg3 ?_)
      | ((with_reducible refine zaa (d:=58) ?_);refine zab rfl 9 _ rfl g1 3 rfl _ (((HO.out.row (i:=0) rfl).cell 3).trans HU3.out) Tryz.isAgg9 ?_)
      | ((with_reducible refine zaa (d:=60) ?_);refine zab rfl 9 _ rfl g1 4 rfl _ (((HO.out.row (i:=0) rfl).cell 4).trans HU4.out) Tryz.isAgg9 ?_)
      | (go_at_call 71;((with_reducible refine (HNM.out _).mono ?_);rintro e9 w9 ⟨rfl,hb⟩);replace HO:=Lib.hid (HO.out.on hb);clear hb)
      | ((with_reducible refine zaa (d:=66) ?_);refine zab rfl 3 _ rfl g1 0 rfl _ (((HO.out.row (i:=0) rfl).cell 0).trans HU0.out) Tryz.isAgg3 ?_)
      | ((with_reducible refine zaa (d:=153) ?_);refine zab rfl 9 _ rfl g1 10 rfl _ (((HO.out.row (i:=0) rfl).cell 10).trans HOP.out) Tryz.isAgg9 ?_))
     have d0:=(HO.out.row (i:=1) rfl).quiet (k:=0) rfl
     have d1:=(HO.out.row (i:=1) rfl).quiet (k:=1) rfl
     have lx:=(HO.out.row (i:=0) rfl).quiet (k:=8) HSX.out
     have lo:=(HO.out.row (i:=0) rfl).quiet (k:=10) HOP.out
     have qw:=HO.out.qst fun w'=>HW14.out w'
     refine wp_region_quiet_below (by kernel_rfl) (by kernel_rfl) ?_
     repeat (first | go_big_quiet_skip | (go_big_quiet_want;go_big_quiet_op;go_big_quiet_on) | quiet_step (first | with_reducible exact qw _ _))
     refine wpQuiet_nil ?_
     intro w4 hw4
     replace HO:=Lib.hid (HO.out.on (zag hw4))
     clear hw4 d0 d1 lx lo qw
     rw [HB1.out]
     go_wp2_with fail
     have qd:=HO.out.qup fun w' _=>HDG.out w'
     refine wp_region_quiet_below (by kernel_rfl) (by kernel_rfl) ?_
     repeat (first | go_big_quiet_skip | (go_big_quiet_want;go_big_quiet_op;go_big_quiet_on) | quiet_step (first | with_reducible exact qd _ _))
     refine wpQuiet_nil ?_
     intro w4 hw4
     replace HO:=Lib.hid (HO.out.on (zag hw4))
     clear hw4 qd
     go_wp2
     go_ret2
     rw [HRW.out.2,HV.out]
     exact ⟨_,rfl,RowV.sees0 (RowV.new (by rw [HRW.out.1])),HO.out.bl.alloc HO.out.bl.size _⟩
   · have hs : OP.toList.isEmpty = false := by rw [← hOP]; exact s_ne rfl ho
     have HDO : Hid (∀ w, Calls Tryz.prog 72 #[.string W14] w fun e w' => e = .returned (.tuple #[.string OO, .int .i64 (dgE (zaX z.op 14))]) ∧ Below w.heap.size w w') := Lib.hid (fun w => by
      have:OO=S (dgL (zaX z.op 14)):=by rw [←hOO];unfold optO;rw [if_neg ho]
      rw [this,←hW14]
      exact zeB _ _ rfl w (by rw [hW14];omega))
     clear e hA1 hB1 hCD hOP hSX hW14 hOO ho
     go_wp2_with (first
      | ((with_reducible refine zaa (d:=50) ?_);refine zab rfl 9 _ rfl g1 6 rfl _ (((HO.out.row (i:=0) rfl).cell 6).trans HU6.out) Tryz.isAgg9 ?_)
      | (go_at_call 68;((with_reducible refine (HP.out.na _).mono ?_);rintro e w9 ⟨rfl,rfl⟩))
      | ((with_reducible refine zaa (d:=54) ?_);refine zab rfl 3 _ rfl g1 0 rfl _ (((HO.out.row (i:=0) rfl).cell 0).trans HU0.out) Tryz.isAgg3 ?_)
      | ((with_reducible refine zaa (d:=58) ?_);refine zab rfl 9 _ rfl g1 3 rfl _ (((HO.out.row (i:=0) rfl).cell 3).trans HU3.out) Tryz.isAgg9 ?_)
      | ((with_reducible refine zaa (d:=60) ?_);refine zab rfl 9 _ rfl g1 4 rfl _ (((HO.out.row (i:=0) rfl).cell 4).trans HU4.out) Tryz.isAgg9 ?_)
      | (go_at_call 71;((with_reducible refine (HNM.out _).mono ?_);rintro e9 w9 ⟨rfl,hb⟩);replace HO:=Lib.hid (HO.out.on hb);clear hb)
      | ((with_reducible refine zaa (d:=66) ?_);refine zab rfl 3 _ rfl g1 0 rfl _ (((HO.out.row (i:=0) rfl).cell 0).trans HU0.out) Tryz.isAgg3 ?_)
      | ((with_reducible refine zaa (d:=153) ?_);refine zab rfl 9 _ rfl g1 10 rfl _ (((HO.out.row (i:=0) rfl).cell 10).trans HOP.out) Tryz.isAgg9 ?_)
      | ((with_reducible refine zaa (d:=157) ?_);refine zab rfl 9 _ rfl g1 10 rfl _ (((HO.out.row (i:=0) rfl).cell 10).trans HOP.out) Tryz.isAgg9 ?_)
      | (go_at_call 68;((with_reducible refine (HW14.out _).mono ?_);rintro e w9 ⟨rfl,rfl⟩))
      | (go_at_call 72;((with_reducible refine (HDO.out _).mono ?_);rintro e w9 ⟨rfl,hb⟩);replace HO:=Lib.hid (HO.out.on hb);clear hb))
     have d0:=(HO.out.row (i:=1) rfl).quiet (k:=0) rfl
     have d1:=(HO.out.row (i:=1) rfl).quiet (k:=1) rfl
     have lx:=(HO.out.row (i:=0) rfl).quiet (k:=8) HSX.out
     have lo:=(HO.out.row (i:=0) rfl).quiet (k:=10) HOP.out
     have qw:=HO.out.qst fun w'=>HW14.out w'
     refine wp_region_quiet_below (by kernel_rfl) (by kernel_rfl) ?_
     repeat (first | go_big_quiet_skip | (go_big_quiet_want;go_big_quiet_op;go_big_quiet_on) | quiet_step (first | with_reducible exact qw _ _))
     refine wpQuiet_nil ?_
     intro w4 hw4
     replace HO:=Lib.hid (HO.out.on (zag hw4))
     clear hw4 d0 d1 lx lo qw
     rw [HB1.out]
     go_wp2_with fail
     have qd:=HO.out.qup fun w' _=>HDG.out w'
     refine wp_region_quiet_below (by kernel_rfl) (by kernel_rfl) ?_
     repeat (first | go_big_quiet_skip | (go_big_quiet_want;go_big_quiet_op;go_big_quiet_on) | quiet_step (first | with_reducible exact qd _ _))
     refine wpQuiet_nil ?_
     intro w4 hw4
     replace HO:=Lib.hid (HO.out.on (zag hw4))
     clear hw4 qd
     go_wp2
     go_ret2
     rw [HRW.out.2,HV.out]
     exact ⟨_,rfl,RowV.sees0 (RowV.new (by rw [HRW.out.1])),HO.out.bl.alloc HO.out.bl.size _⟩
end Go.Proofs.YtnlhbknajdpnbaaGreatDoor
