/-
  What is proved here: the first error of a zone, as the reference finds it.
-/
import Derived.Test.YtnlhbknajdpnbaaGreatDoorF26
set_option linter.unusedVariables false
set_option linter.unusedSimpArgs false
namespace Go.Proofs.YtnlhbknajdpnbaaGreatDoor
open Go.RowKit Go.Maps
theorem zbX (x:List UInt8) (b:Bool) (hb:zbw x 2=b) (w:World) (hm:(S x).size≤140737488355328):Calls Tryz.prog 88 #[.string (S x),.int .i64 2] w fun e w'=>e=.returned (.bool b)∧w=w':=r_letters (S x) x rfl 2 (by decide) b hb w hm
theorem zay (x:List UInt8) (b:Bool) (hb:zbw x 3=b) (w:World) (hm:(S x).size≤140737488355328):Calls Tryz.prog 88 #[.string (S x),.int .i64 3] w fun e w'=>e=.returned (.bool b)∧w=w':=r_letters (S x) x rfl 3 (by decide) b hb w hm
theorem r_plainB (x:List UInt8) (b:Bool) (hb:zbL x=b) (w:World) (hm:(S x).size≤140737488355328):Calls Tryz.prog 90 #[.string (S x)] w fun e w'=>e=.returned (.bool b)∧w=w':=r_plain (S x) x rfl b hb w hm
theorem zaL {z : Zn} (h : vE1 z = true) : zaY z = if maxN z.fm < z.nu.length then 2 else if zbw z.na 3 = false then 14 else if zbO z.bi = false then 8 else if sexB z.sx = false then 14 else if expB z.ex = false then 8
 else if zaN z.op=false∨zaN z.se=false∨(z.se≠[]∧z.fm≠1) then 14 else if optN z.fm < zdo z∨11 < z.se.length then 2 else 0:=by
 unfold zaY;rw [if_neg (by rw [h];decide)]
theorem zdG (z : Zn) : (optN z.fm < zdo z ∨ 11 < z.se.length) ↔ (zfC z < (z.op.length : Int) ∨ 11 < z.se.length) := by
 unfold zfC zdo
 split <;> (constructor <;> (rintro (h | h) <;> first | (left;omega) | (right;omega)))
theorem zcY {z:Zn} (h:vE1 z=false):zaY z=14:=by unfold zaY;rw [if_pos h]
set_option maxHeartbeats 3200000 in
set_option maxRecDepth 20000 in
theorem r_zvalid (z : Zn) (hz : Bears z) (us : List Value) (hus : zV z = us) (w : World) :
 Calls Tryz.prog 67 #[.agg us.toArray] w fun e w'=>e=.returned (.int .i64 (zaY z))∧Below w.heap.size w w':=by
 have HZ:=Lib.hid hz
 have HU:=Lib.hid hus
 have HO:=Lib.hid (Own.start w)
 obtain ⟨f,hff⟩ : ∃f,z.fm=f:=⟨_,rfl⟩
 have HFF:=Lib.hid hff
 have HU0:Hid (us[0]? = some (.int .i64 f)):=Lib.hid (by rw [←hus,←hff];rfl)
 have HU1:Hid (us[1]? = some (.string (S z.kd))):=Lib.hid (by rw [←hus];rfl)
 have HU2:Hid (us[2]? = some (.string (S z.st))):=Lib.hid (by rw [←hus];rfl)
 have HU3:Hid (us[3]? = some (.string (S z.su))):=Lib.hid (by rw [←hus];rfl)
 have HU4:Hid (us[4]? = some (.string (S z.gi))):=Lib.hid (by rw [←hus];rfl)
 have HU5:Hid (us[5]? = some (.string (S z.nu))):=Lib.hid (by rw [←hus];rfl)
 have HU6:Hid (us[6]? = some (.string (S z.na))):=Lib.hid (by rw [←hus];rfl)
 have HU7:Hid (us[7]? = some (.string (S z.bi))):=Lib.hid (by rw [←hus];rfl)
 have HU8:Hid (us[8]? = some (.string (S z.sx))):=Lib.hid (by rw [←hus];rfl)
 have HU9:Hid (us[9]? = some (.string (S z.ex))):=Lib.hid (by rw [←hus];rfl)
 have HU10:Hid (us[10]? = some (.string (S z.op))):=Lib.hid (by rw [←hus];rfl)
 have HU11:Hid (us[11]? = some (.string (S z.se))):=Lib.hid (by rw [←hus];rfl)
 have HSZ:Hid ((Tryz.prog.info? 46).map (·.size)=some us.length):=Lib.hid (by rw [←hus];exact zeW)
 clear hz hus hff
 by_cases f1:f < 1
 · skip
   go_enter Tryz.func67,Tryz.ntmps67
   go_wp2_with (first
    | ((with_reducible refine zbl (d:=1) ?_);refine zax (op:=⟨some 1,_,_,_,_,_⟩) rfl 46 _ rfl us rfl ?_;intro g1 v1b hf hr;replace HO:=Lib.hid (HO.out.new hf hr);clear hf hr)
    | ((with_reducible refine zaa (d:=6) ?_);refine zab rfl 3 _ rfl g1 0 rfl _ (((HO.out.row (i:=0) rfl).cell 0).trans HU0.out) Tryz.isAgg3 ?_))
   go_ret
   exact ⟨by rw [show zaY z=14 from zcY (by unfold vE1;simp [HFF.out,show ¬1≤f by omega])];rfl,HO.out.bl⟩
 by_cases f2:3 < f
 · skip
   go_enter Tryz.func67,Tryz.ntmps67
   go_wp2_with (first
    | ((with_reducible refine zbl (d:=1) ?_);refine zax (op:=⟨some 1,_,_,_,_,_⟩) rfl 46 _ rfl us rfl ?_;intro g1 v1b hf hr;replace HO:=Lib.hid (HO.out.new hf hr);clear hf hr)
    | ((with_reducible refine zaa (d:=6) ?_);refine zab rfl 3 _ rfl g1 0 rfl _ (((HO.out.row (i:=0) rfl).cell 0).trans HU0.out) Tryz.isAgg3 ?_)
    | ((with_reducible refine zaa (d:=10) ?_);refine zac (by rfl) 3 _ rfl g1 0 rfl _ (((HO.out.row (i:=0) rfl).cell 0).trans HU0.out) Tryz.isAgg3 ?_))
   go_ret
   exact ⟨by rw [show zaY z=14 from zcY (by unfold vE1;simp [HFF.out,show ¬f≤3 by omega])];rfl,HO.out.bl⟩
 have HF:Hid (1≤f∧f≤3):=Lib.hid (by omega)
 rcases H10:zbw z.kd 2 with _ | _
 all_goals (have H1:=Lib.hid H10;clear H10)
 · skip
   go_enter Tryz.func67,Tryz.ntmps67
   go_wp2_with (first
    | ((with_reducible refine zbl (d:=1) ?_);refine zax (op:=⟨some 1,_,_,_,_,_⟩) rfl 46 _ rfl us rfl ?_;intro g1 v1b hf hr;replace HO:=Lib.hid (HO.out.new hf hr);clear hf hr)
    | ((with_reducible refine zaa (d:=6) ?_);refine zab rfl 3 _ rfl g1 0 rfl _ (((HO.out.row (i:=0) rfl).cell 0).trans HU0.out) Tryz.isAgg3 ?_)
    | ((with_reducible refine zaa (d:=10) ?_);refine zac (by rfl) 3 _ rfl g1 0 rfl _ (((HO.out.row (i:=0) rfl).cell 0).trans HU0.out) Tryz.isAgg3 ?_)
    | ((with_reducible refine zaa (d:=15) ?_);refine zac (by rfl) 9 _ rfl g1 1 rfl _ (((HO.out.row (i:=0) rfl).cell 1).trans HU1.out) Tryz.isAgg9 ?_)
    | (go_at_call 88;((with_reducible refine (zbX z.kd false H1.out _ HZ.out.kd).mono ?_);rintro e w9 ⟨rfl,rfl⟩)))
   go_ret
   exact ⟨by rw [show zaY z=14 from zcY (by unfold vE1;simp [H1.out])];rfl,HO.out.bl⟩
 · skip
   rcases H20:zbw z.st 3 with _ | _
   all_goals (have H2:=Lib.hid H20;clear H20)
   · skip
     go_enter Tryz.func67,Tryz.ntmps67
     go_wp2_with (first
      | ((with_reducible refine zbl (d:=1) ?_);refine zax (op:=⟨some 1,_,_,_,_,_⟩) rfl 46 _ rfl us rfl ?_;intro g1 v1b hf hr;replace HO:=Lib.hid (HO.out.new hf hr);clear hf hr)
      | ((with_reducible refine zaa (d:=6) ?_);refine zab rfl 3 _ rfl g1 0 rfl _ (((HO.out.row (i:=0) rfl).cell 0).trans HU0.out) Tryz.isAgg3 ?_)
      | ((with_reducible refine zaa (d:=10) ?_);refine zac (by rfl) 3 _ rfl g1 0 rfl _ (((HO.out.row (i:=0) rfl).cell 0).trans HU0.out) Tryz.isAgg3 ?_)
      | ((with_reducible refine zaa (d:=15) ?_);refine zac (by rfl) 9 _ rfl g1 1 rfl _ (((HO.out.row (i:=0) rfl).cell 1).trans HU1.out) Tryz.isAgg9 ?_)
      | (go_at_call 88;((with_reducible refine (zbX z.kd true H1.out _ HZ.out.kd).mono ?_);rintro e w9 ⟨rfl,rfl⟩))
      | ((with_reducible refine zaa (d:=21) ?_);refine zac (by rfl) 9 _ rfl g1 2 rfl _ (((HO.out.row (i:=0) rfl).cell 2).trans HU2.out) Tryz.isAgg9 ?_)
      | (go_at_call 88;((with_reducible refine (zay z.st false H2.out _ HZ.out.st).mono ?_);rintro e w9 ⟨rfl,rfl⟩)))
     go_ret
     exact ⟨by rw [show zaY z=14 from zcY (by unfold vE1;simp [H2.out])];rfl,HO.out.bl⟩
   · skip
     rcases H30:zaO z.su with _ | _
     all_goals (have H3:=Lib.hid H30;clear H30)
     · skip
       go_enter Tryz.func67,Tryz.ntmps67
       go_wp2_with (first
        | ((with_reducible refine zbl (d:=1) ?_);refine zax (op:=⟨some 1,_,_,_,_,_⟩) rfl 46 _ rfl us rfl ?_;intro g1 v1b hf hr;replace HO:=Lib.hid (HO.out.new hf hr);clear hf hr)
        | ((with_reducible refine zaa (d:=6) ?_);refine zab rfl 3 _ rfl g1 0 rfl _ (((HO.out.row (i:=0) rfl).cell 0).trans HU0.out) Tryz.isAgg3 ?_)
        | ((with_reducible refine zaa (d:=10) ?_);refine zac (by rfl) 3 _ rfl g1 0 rfl _ (((HO.out.row (i:=0) rfl).cell 0).trans HU0.out) Tryz.isAgg3 ?_)
        | ((with_reducible refine zaa (d:=15) ?_);refine zac (by rfl) 9 _ rfl g1 1 rfl _ (((HO.out.row (i:=0) rfl).cell 1).trans HU1.out) Tryz.isAgg9 ?_)
        | (go_at_call 88;((with_reducible refine (zbX z.kd true H1.out _ HZ.out.kd).mono ?_);rintro e w9 ⟨rfl,rfl⟩))
        | ((with_reducible refine zaa (d:=21) ?_);refine zac (by rfl) 9 _ rfl g1 2 rfl _ (((HO.out.row (i:=0) rfl).cell 2).trans HU2.out) Tryz.isAgg9 ?_)
        | (go_at_call 88;((with_reducible refine (zay z.st true H2.out _ HZ.out.st).mono ?_);rintro e w9 ⟨rfl,rfl⟩))
        | ((with_reducible refine zaa (d:=27) ?_);refine zac (by rfl) 9 _ rfl g1 3 rfl _ (((HO.out.row (i:=0) rfl).cell 3).trans HU3.out) Tryz.isAgg9 ?_)
        | (go_at_call 89;((with_reducible refine (zcI z.su false H3.out _ HZ.out.su).mono ?_);rintro e w9 ⟨rfl,rfl⟩)))
       go_ret
       exact ⟨by rw [show zaY z=14 from zcY (by unfold vE1;simp [H3.out])];rfl,HO.out.bl⟩
     · skip
       by_cases E40:z.su=[]
       · have s4 := zfE (s := S z.su) rfl E40
         have E4:=Lib.hid E40
         clear E40
         go_enter Tryz.func67,Tryz.ntmps67
         go_wp2_with (first
          | ((with_reducible refine zbl (d:=1) ?_);refine zax (op:=⟨some 1,_,_,_,_,_⟩) rfl 46 _ rfl us rfl ?_;intro g1 v1b hf hr;replace HO:=Lib.hid (HO.out.new hf hr);clear hf hr)
          | ((with_reducible refine zaa (d:=6) ?_);refine zab rfl 3 _ rfl g1 0 rfl _ (((HO.out.row (i:=0) rfl).cell 0).trans HU0.out) Tryz.isAgg3 ?_)
          | ((with_reducible refine zaa (d:=10) ?_);refine zac (by rfl) 3 _ rfl g1 0 rfl _ (((HO.out.row (i:=0) rfl).cell 0).trans HU0.out) Tryz.isAgg3 ?_)
          | ((with_reducible refine zaa (d:=15) ?_);refine zac (by rfl) 9 _ rfl g1 1 rfl _ (((HO.out.row (i:=0) rfl).cell 1).trans HU1.out) Tryz.isAgg9 ?_)
          | (go_at_call 88;((with_reducible refine (zbX z.kd true H1.out _ HZ.out.kd).mono ?_);rintro e w9 ⟨rfl,rfl⟩))
          | ((with_reducible refine zaa (d:=21) ?_);refine zac (by rfl) 9 _ rfl g1 2 rfl _ (((HO.out.row (i:=0) rfl).cell 2).trans HU2.out) Tryz.isAgg9 ?_)
          | (go_at_call 88;((with_reducible refine (zay z.st true H2.out _ HZ.out.st).mono ?_);rintro e w9 ⟨rfl,rfl⟩))
          | ((with_reducible refine zaa (d:=27) ?_);refine zac (by rfl) 9 _ rfl g1 3 rfl _ (((HO.out.row (i:=0) rfl).cell 3).trans HU3.out) Tryz.isAgg9 ?_)
          | (go_at_call 89;((with_reducible refine (zcI z.su true H3.out _ HZ.out.su).mono ?_);rintro e w9 ⟨rfl,rfl⟩))
          | ((with_reducible refine zaa (d:=33) ?_);refine zac (by rfl) 9 _ rfl g1 3 rfl _ (((HO.out.row (i:=0) rfl).cell 3).trans HU3.out) Tryz.isAgg9 ?_))
         go_ret
         exact ⟨by rw [show zaY z=14 from zcY (by unfold vE1;simp [E4.out])];rfl,HO.out.bl⟩
       have s4:=s_ne (s:=S z.su) rfl E40
       have E4:=Lib.hid E40
       clear E40
       rcases H50:zaO z.gi with _ | _
       all_goals (have H5:=Lib.hid H50;clear H50)
       · skip
         go_enter Tryz.func67,Tryz.ntmps67
         go_wp2_with (first
          | ((with_reducible refine zbl (d:=1) ?_);refine zax (op:=⟨some 1,_,_,_,_,_⟩) rfl 46 _ rfl us rfl ?_;intro g1 v1b hf hr;replace HO:=Lib.hid (HO.out.new hf hr);clear hf hr)
          | ((with_reducible refine zaa (d:=6) ?_);refine zab rfl 3 _ rfl g1 0 rfl _ (((HO.out.row (i:=0) rfl).cell 0).trans HU0.out) Tryz.isAgg3 ?_)
          | ((with_reducible refine zaa (d:=10) ?_);refine zac (by rfl) 3 _ rfl g1 0 rfl _ (((HO.out.row (i:=0) rfl).cell 0).trans HU0.out) Tryz.isAgg3 ?_)
          | ((with_reducible refine zaa (d:=15) ?_);refine zac (by rfl) 9 _ rfl g1 1 rfl _ (((HO.out.row (i:=0) rfl).cell 1).trans HU1.out) Tryz.isAgg9 ?_)
          | (go_at_call 88;((with_reducible refine (zbX z.kd true H1.out _ HZ.out.kd).mono ?_);rintro e w9 ⟨rfl,rfl⟩))
          | ((with_reducible refine zaa (d:=21) ?_);refine zac (by rfl) 9 _ rfl g1 2 rfl _ (((HO.out.row (i:=0) rfl).cell 2).trans HU2.out) Tryz.isAgg9 ?_)
          | (go_at_call 88;((with_reducible refine (zay z.st true H2.out _ HZ.out.st).mono ?_);rintro e w9 ⟨rfl,rfl⟩))
          | ((with_reducible refine zaa (d:=27) ?_);refine zac (by rfl) 9 _ rfl g1 3 rfl _ (((HO.out.row (i:=0) rfl).cell 3).trans HU3.out) Tryz.isAgg9 ?_)
          | (go_at_call 89;((with_reducible refine (zcI z.su true H3.out _ HZ.out.su).mono ?_);rintro e w9 ⟨rfl,rfl⟩))
          | ((with_reducible refine zaa (d:=33) ?_);refine zac (by rfl) 9 _ rfl g1 3 rfl _ (((HO.out.row (i:=0) rfl).cell 3).trans HU3.out) Tryz.isAgg9 ?_)
          | ((with_reducible refine zaa (d:=38) ?_);refine zac (by rfl) 9 _ rfl g1 4 rfl _ (((HO.out.row (i:=0) rfl).cell 4).trans HU4.out) Tryz.isAgg9 ?_)
          | (go_at_call 89;((with_reducible refine (zcI z.gi false H5.out _ HZ.out.gi).mono ?_);rintro e w9 ⟨rfl,rfl⟩)))
         go_ret
         exact ⟨by rw [show zaY z=14 from zcY (by unfold vE1;simp [H5.out])];rfl,HO.out.bl⟩
       · skip
         by_cases E60:z.nu=[]
         · have s6 := zfE (s := S z.nu) rfl E60
           have E6:=Lib.hid E60
           clear E60
           go_enter Tryz.func67,Tryz.ntmps67
           go_wp2_with (first
            | ((with_reducible refine zbl (d:=1) ?_);refine zax (op:=⟨some 1,_,_,_,_,_⟩) rfl 46 _ rfl us rfl ?_;intro g1 v1b hf hr;replace HO:=Lib.hid (HO.out.new hf hr);clear hf hr)
            | ((with_reducible refine zaa (d:=6) ?_);refine zab rfl 3 _ rfl g1 0 rfl _ (((HO.out.row (i:=0) rfl).cell 0).trans HU0.out) Tryz.isAgg3 ?_)
            | ((with_reducible refine zaa (d:=10) ?_);refine zac (by rfl) 3 _ rfl g1 0 rfl _ (((HO.out.row (i:=0) rfl).cell 0).trans HU0.out) Tryz.isAgg3 ?_)
            | ((with_reducible refine zaa (d:=15) ?_);refine zac (by rfl) 9 _ rfl g1 1 rfl _ (((HO.out.row (i:=0) rfl).cell 1).trans HU1.out) Tryz.isAgg9 ?_)
            | (go_at_call 88;((with_reducible refine (zbX z.kd true H1.out _ HZ.out.kd).mono ?_);rintro e w9 ⟨rfl,rfl⟩))
            | ((with_reducible refine zaa (d:=21) ?_);refine zac (by rfl) 9 _ rfl g1 2 rfl _ (((HO.out.row (i:=0) rfl).cell 2).trans HU2.out) Tryz.isAgg9 ?_)
            | (go_at_call 88;((with_reducible refine (zay z.st true H2.out _ HZ.out.st).mono ?_);rintro e w9 ⟨rfl,rfl⟩))
            | ((with_reducible refine zaa (d:=27) ?_);refine zac (by rfl) 9 _ rfl g1 3 rfl _ (((HO.out.row (i:=0) rfl).cell 3).trans HU3.out) Tryz.isAgg9 ?_)
            | (go_at_call 89;((with_reducible refine (zcI z.su true H3.out _ HZ.out.su).mono ?_);rintro e w9 ⟨rfl,rfl⟩))
            | ((with_reducible refine zaa (d:=33) ?_);refine zac (by rfl) 9 _ rfl g1 3 rfl _ (((HO.out.row (i:=0) rfl).cell 3).trans HU3.out) Tryz.isAgg9 ?_)
            | ((with_reducible refine zaa (d:=38) ?_);refine zac (by rfl) 9 _ rfl g1 4 rfl _ (((HO.out.row (i:=0) rfl).cell 4).trans HU4.out) Tryz.isAgg9 ?_)
            | (go_at_call 89;((with_reducible refine (zcI z.gi true H5.out _ HZ.out.gi).mono ?_);rintro e w9 ⟨rfl,rfl⟩))
            | ((with_reducible refine zaa (d:=44) ?_);refine zac (by rfl) 9 _ rfl g1 5 rfl _ (((HO.out.row (i:=0) rfl).cell 5).trans HU5.out) Tryz.isAgg9 ?_))
           go_ret
           exact ⟨by rw [show zaY z=14 from zcY (by unfold vE1;simp [E6.out])];rfl,HO.out.bl⟩
         have s6:=s_ne (s:=S z.nu) rfl E60
         have E6:=Lib.hid E60
         clear E60
         rcases H70:zbL z.nu with _ | _
         all_goals (have H7:=Lib.hid H70;clear H70)
         · skip
           go_enter Tryz.func67,Tryz.ntmps67
           go_wp2_with (first
            | ((with_reducible refine zbl (d:=1) ?_);refine zax (op:=⟨some 1,_,_,_,_,_⟩) rfl 46 _ rfl us rfl ?_;intro g1 v1b hf hr;replace HO:=Lib.hid (HO.out.new hf hr);clear hf hr)
            | ((with_reducible refine zaa (d:=6) ?_);refine zab rfl 3 _ rfl g1 0 rfl _ (((HO.out.row (i:=0) rfl).cell 0).trans HU0.out) Tryz.isAgg3 ?_)
            | ((with_reducible refine zaa (d:=10) ?_);refine zac (by rfl) 3 _ rfl g1 0 rfl _ (((HO.out.row (i:=0) rfl).cell 0).trans HU0.out) Tryz.isAgg3 ?_)
            | ((with_reducible refine zaa (d:=15) ?_);refine zac (by rfl) 9 _ rfl g1 1 rfl _ (((HO.out.row (i:=0) rfl).cell 1).trans HU1.out) Tryz.isAgg9 ?_)
            | (go_at_call 88;((with_reducible refine (zbX z.kd true H1.out _ HZ.out.kd).mono ?_);rintro e w9 ⟨rfl,rfl⟩))
            | ((with_reducible refine zaa (d:=21) ?_);refine zac (by rfl) 9 _ rfl g1 2 rfl _ (((HO.out.row (i:=0) rfl).cell 2).trans HU2.out) Tryz.isAgg9 ?_)
            | (go_at_call 88;((with_reducible refine (zay z.st true H2.out _ HZ.out.st).mono ?_);rintro e w9 ⟨rfl,rfl⟩))
            | ((with_reducible refine zaa (d:=27) ?_);refine zac (by rfl) 9 _ rfl g1 3 rfl _ (((HO.out.row (i:=0) rfl).cell 3).trans HU3.out) Tryz.isAgg9 ?_)
            | (go_at_call 89;((with_reducible refine (zcI z.su true H3.out _ HZ.out.su).mono ?_);rintro e w9 ⟨rfl,rfl⟩))
            | ((with_reducible refine zaa (d:=33) ?_);refine zac (by rfl) 9 _ rfl g1 3 rfl _ (((HO.out.row (i:=0) rfl).cell 3).trans HU3.out) Tryz.isAgg9 ?_)
            | ((with_reducible refine zaa (d:=38) ?_);refine zac (by rfl) 9 _ rfl g1 4 rfl _ (((HO.out.row (i:=0) rfl).cell 4).trans HU4.out) Tryz.isAgg9 ?_)
            | (go_at_call 89;((with_reducible refine (zcI z.gi true H5.out _ HZ.out.gi).mono ?_);rintro e w9 ⟨rfl,rfl⟩))
            | ((with_reducible refine zaa (d:=44) ?_);refine zac (by rfl) 9 _ rfl g1 5 rfl _ (((HO.out.row (i:=0) rfl).cell 5).trans HU5.out) Tryz.isAgg9 ?_)
            | ((with_reducible refine zaa (d:=49) ?_);refine zac (by rfl) 9 _ rfl g1 5 rfl _ (((HO.out.row (i:=0) rfl).cell 5).trans HU5.out) Tryz.isAgg9 ?_)
            | (go_at_call 90;((with_reducible refine (r_plainB z.nu false H7.out _ HZ.out.nu).mono ?_);rintro e w9 ⟨rfl,rfl⟩)))
           go_ret
           exact ⟨by rw [show zaY z=14 from zcY (by unfold vE1;simp [H7.out])];rfl,HO.out.bl⟩
         · skip
           have HV1:Hid (vE1 z=true):=Lib.hid (by unfold vE1;simp [HFF.out,HF.out.1,HF.out.2,H1.out,H2.out,H3.out,E4.out,H5.out,E6.out,H7.out])
           have hix:=fun w=>ix_mx HF.out w
           obtain ⟨mx,hmx⟩ : ∃mx,maxN f=mx:=⟨_,rfl⟩
           rw [hmx] at hix
           have HMX:=Lib.hid hmx
           have hzn:=HZ.out.nu
           clear hmx
           go_enter Tryz.func67,Tryz.ntmps67
           go_wp2_with (first
            | ((with_reducible refine zbl (d:=1) ?_);refine zax (op:=⟨some 1,_,_,_,_,_⟩) rfl 46 _ rfl us rfl ?_;intro g1 v1b hf hr;replace HO:=Lib.hid (HO.out.new hf hr);clear hf hr)
            | ((with_reducible refine zaa (d:=6) ?_);refine zab rfl 3 _ rfl g1 0 rfl _ (((HO.out.row (i:=0) rfl).cell 0).trans HU0.out) Tryz.isAgg3 ?_)
            | ((with_reducible refine zaa (d:=10) ?_);refine zac (by rfl) 3 _ rfl g1 0 rfl _ (((HO.out.row (i:=0) rfl).cell 0).trans HU0.out) Tryz.isAgg3 ?_)
            | ((with_reducible refine zaa (d:=15) ?_);refine zac (by rfl) 9 _ rfl g1 1 rfl _ (((HO.out.row (i:=0) rfl).cell 1).trans HU1.out) Tryz.isAgg9 ?_)
            | (go_at_call 88;((with_reducible refine (zbX z.kd true H1.out _ HZ.out.kd).mono ?_);rintro e w9 ⟨rfl,rfl⟩))
            | ((with_reducible refine zaa (d:=21) ?_);refine zac (by rfl) 9 _ rfl g1 2 rfl _ (((HO.out.row (i:=0) rfl).cell 2).trans HU2.out) Tryz.isAgg9 ?_)
            | (go_at_call 88;((with_reducible refine (zay z.st true H2.out _ HZ.out.st).mono ?_);rintro e w9 ⟨rfl,rfl⟩))
            | ((with_reducible refine zaa (d:=27) ?_);refine zac (by rfl) 9 _ rfl g1 3 rfl _ (((HO.out.row (i:=0) rfl).cell 3).trans HU3.out) Tryz.isAgg9 ?_)
            | (go_at_call 89;((with_reducible refine (zcI z.su true H3.out _ HZ.out.su).mono ?_);rintro e w9 ⟨rfl,rfl⟩))
            | ((with_reducible refine zaa (d:=33) ?_);refine zac (by rfl) 9 _ rfl g1 3 rfl _ (((HO.out.row (i:=0) rfl).cell 3).trans HU3.out) Tryz.isAgg9 ?_)
            | ((with_reducible refine zaa (d:=38) ?_);refine zac (by rfl) 9 _ rfl g1 4 rfl _ (((HO.out.row (i:=0) rfl).cell 4).trans HU4.out) Tryz.isAgg9 ?_)
            | (go_at_call 89;((with_reducible refine (zcI z.gi true H5.out _ HZ.out.gi).mono ?_);rintro e w9 ⟨rfl,rfl⟩))
            | ((with_reducible refine zaa (d:=44) ?_);refine zac (by rfl) 9 _ rfl g1 5 rfl _ (((HO.out.row (i:=0) rfl).cell 5).trans HU5.out) Tryz.isAgg9 ?_)
            | ((with_reducible refine zaa (d:=49) ?_);refine zac (by rfl) 9 _ rfl g1 5 rfl _ (((HO.out.row (i:=0) rfl).cell 5).trans HU5.out) Tryz.isAgg9 ?_)
            | (go_at_call 90;((with_reducible refine (r_plainB z.nu true H7.out _ HZ.out.nu).mono ?_);rintro e w9 ⟨rfl,rfl⟩)))
           have l5:=(HO.out.row (i:=0) rfl).quiet (k:=5) HU5.out
           have l0:=(HO.out.row (i:=0) rfl).quiet (k:=0) HU0.out
           refine wp_region_quiet_below (by kernel_rfl) (by kernel_rfl) ?_
           repeat (first | go_big_quiet_skip | (go_big_quiet_want;go_big_quiet_op;go_big_quiet_on))
           refine wpQuiet_nil ?_
           intro w4 hw4
           replace HO:=Lib.hid (HO.out.on (zag hw4))
           clear hw4 l5 l0 hix
           by_cases h8:mx < (S z.nu).size
           · have H8 : Hid (maxN z.fm < z.nu.length) := Lib.hid (by rw [HFF.out, HMX.out, ← zao]; exact h8)
             go_wp2
             go_ret
             exact ⟨by rw [zaL HV1.out,if_pos H8.out];rfl,HO.out.bl⟩
           have H8:Hid (¬maxN z.fm < z.nu.length):=Lib.hid (by rw [HFF.out,HMX.out,←zao];exact h8)
           rcases H90:zbw z.na 3 with _ | _
           all_goals (have H9:=Lib.hid H90;clear H90)
           · skip
             go_wp2_with (first
              | ((with_reducible refine zaa (d:=62) ?_);refine zab rfl 9 _ rfl g1 6 rfl _ (((HO.out.row (i:=0) rfl).cell 6).trans HU6.out) Tryz.isAgg9 ?_)
              | (go_at_call 88;((with_reducible refine (zay z.na false H9.out _ HZ.out.na).mono ?_);rintro e w9 ⟨rfl,rfl⟩)))
             go_ret
             exact ⟨by rw [zaL HV1.out,if_neg H8.out,if_pos H9.out];rfl,HO.out.bl⟩
           · skip
             rcases H100:zbO z.bi with _ | _
             all_goals (have H10:=Lib.hid H100;clear H100)
             · skip
               go_wp2_with (first
                | ((with_reducible refine zaa (d:=62) ?_);refine zab rfl 9 _ rfl g1 6 rfl _ (((HO.out.row (i:=0) rfl).cell 6).trans HU6.out) Tryz.isAgg9 ?_)
                | (go_at_call 88;((with_reducible refine (zay z.na true H9.out _ HZ.out.na).mono ?_);rintro e w9 ⟨rfl,rfl⟩))
                | ((with_reducible refine zaa (d:=66) ?_);refine zab rfl 9 _ rfl g1 7 rfl _ (((HO.out.row (i:=0) rfl).cell 7).trans HU7.out) Tryz.isAgg9 ?_)
                | (go_at_call 91;((with_reducible refine (zbr (S z.bi) z.bi rfl false H10.out _ HZ.out.bi).mono ?_);rintro e w9 ⟨rfl,hb⟩);replace HO:=Lib.hid (HO.out.on hb);clear hb))
               go_ret
               exact ⟨by rw [zaL HV1.out,if_neg H8.out,if_neg (by rw [H9.out];decide),if_pos H10.out];rfl,HO.out.bl⟩
             · skip
               have e77:((S z.sx).toList==[77])=decide (z.sx=[77]):=by rw [zcB,Bool.eq_iff_iff];simp
               have e70:((S z.sx).toList==[70])=decide (z.sx=[70]):=by rw [zcB,Bool.eq_iff_iff];simp
               have e60:((S z.sx).toList==[60])=decide (z.sx=[60]):=by rw [zcB,Bool.eq_iff_iff];simp
               by_cases s1:z.sx=[77]
               · have H11 : Hid (¬ sexB z.sx = false) := Lib.hid (by unfold sexB; rw [decide_eq_true (.inl s1)]; decide)
                 rw [decide_eq_true s1] at e77
                 clear s1 e70 e60
                 obtain ⟨pv,hpv⟩ : ∃pv,psV (S z.ex) 2000=pv:=⟨_,rfl⟩
                 by_cases h12:psE (S z.ex) 2000=0
                 · have HPS : Hid (∀ w, Calls Tryz.prog 92 #[.string (S z.ex), .int .i64 2000] w fun e w' => e = .returned (.tuple #[.int .i64 pv, .int .i64 0]) ∧ Below w.heap.size w w') := Lib.hid (fun w => by have h1 := zeF (S z.ex) 2000 w (by have := HZ.out.ex; unfold maxLen; omega); unfold zeH at h1; rw [hpv, h12] at h1; exact h1)
                   have H12:Hid (¬expB z.ex=false):=Lib.hid (by unfold expB;rw [decide_eq_true h12];decide)
                   clear hpv h12
                   rcases H130:zaN z.op with _ | _
                   all_goals (have H13:=Lib.hid H130;clear H130)
                   · skip
                     go_wp2_with (first
                      | ((with_reducible refine zaa (d:=62) ?_);refine zab rfl 9 _ rfl g1 6 rfl _ (((HO.out.row (i:=0) rfl).cell 6).trans HU6.out) Tryz.isAgg9 ?_)
                      | (go_at_call 88;((with_reducible refine (zay z.na true H9.out _ HZ.out.na).mono ?_);rintro e w9 ⟨rfl,rfl⟩))
                      | ((with_reducible refine zaa (d:=66) ?_);refine zab rfl 9 _ rfl g1 7 rfl _ (((HO.out.row (i:=0) rfl).cell 7).trans HU7.out) Tryz.isAgg9 ?_)
                      | (go_at_call 91;((with_reducible refine (zbr (S z.bi) z.bi rfl true H10.out _ HZ.out.bi).mono ?_);rintro e w9 ⟨rfl,hb⟩);replace HO:=Lib.hid (HO.out.on hb);clear hb)
                      | ((with_reducible refine zaa (d:=70) ?_);refine zab rfl 9 _ rfl g1 8 rfl _ (((HO.out.row (i:=0) rfl).cell 8).trans HU8.out) Tryz.isAgg9 ?_)
                      | ((with_reducible refine zaa (d:=74) ?_);refine zac (by rfl) 9 _ rfl g1 8 rfl _ (((HO.out.row (i:=0) rfl).cell 8).trans HU8.out) Tryz.isAgg9 ?_)
                      | ((with_reducible refine zaa (d:=79) ?_);refine zac (by rfl) 9 _ rfl g1 8 rfl _ (((HO.out.row (i:=0) rfl).cell 8).trans HU8.out) Tryz.isAgg9 ?_)
                      | ((with_reducible refine zaa (d:=84) ?_);refine zab rfl 9 _ rfl g1 9 rfl _ (((HO.out.row (i:=0) rfl).cell 9).trans HU9.out) Tryz.isAgg9 ?_)
                      | (go_at_call 92;((with_reducible refine (HPS.out _).mono ?_);rintro e w9 ⟨rfl,hb⟩);replace HO:=Lib.hid (HO.out.on hb);clear hb)
                      | ((with_reducible refine zaa (d:=91) ?_);refine zab rfl 9 _ rfl g1 10 rfl _ (((HO.out.row (i:=0) rfl).cell 10).trans HU10.out) Tryz.isAgg9 ?_)
                      | (go_at_call 93;((with_reducible refine (zaV z.op false H13.out _ HZ.out.op).mono ?_);rintro e w9 ⟨rfl,rfl⟩)))
                     go_ret
                     exact ⟨by rw [zaL HV1.out,if_neg H8.out,if_neg (by rw [H9.out];decide),if_neg (by rw [H10.out];decide),if_neg H11.out,if_neg H12.out,if_pos (.inl H13.out)];rfl,HO.out.bl⟩
                   · skip
                     rcases H140:zaN z.se with _ | _
                     all_goals (have H14:=Lib.hid H140;clear H140)
                     · skip
                       go_wp2_with (first
                        | ((with_reducible refine zaa (d:=62) ?_);refine zab rfl 9 _ rfl g1 6 rfl _ (((HO.out.row (i:=0) rfl).cell 6).trans HU6.out) Tryz.isAgg9 ?_)
                        | (go_at_call 88;((with_reducible refine (zay z.na true H9.out _ HZ.out.na).mono ?_);rintro e w9 ⟨rfl,rfl⟩))
                        | ((with_reducible refine zaa (d:=66) ?_);refine zab rfl 9 _ rfl g1 7 rfl _ (((HO.out.row (i:=0) rfl).cell 7).trans HU7.out) Tryz.isAgg9 ?_)
                        | (go_at_call 91;((with_reducible refine (zbr (S z.bi) z.bi rfl true H10.out _ HZ.out.bi).mono ?_);rintro e w9 ⟨rfl,hb⟩);replace HO:=Lib.hid (HO.out.on hb);clear hb)
                        | ((with_reducible refine zaa (d:=70) ?_);refine zab rfl 9 _ rfl g1 8 rfl _ (((HO.out.row (i:=0) rfl).cell 8).trans HU8.out) Tryz.isAgg9 ?_)
                        | ((with_reducible refine zaa (d:=74) ?_);refine zac (by rfl) 9 _ rfl g1 8 rfl _ (((HO.out.row (i:=0) rfl).cell 8).trans HU8.out) Tryz.isAgg9 ?_)
                        | ((with_reducible refine zaa (d:=79) ?_);refine zac (by rfl) 9 _ rfl g1 8 rfl _ (((HO.out.row (i:=0) rfl).cell 8).trans HU8.out) Tryz.isAgg9 ?_)
                        | ((with_reducible refine zaa (d:=84) ?_);refine zab rfl 9 _ rfl g1 9 rfl _ (((HO.out.row (i:=0) rfl).cell 9).trans HU9.out) Tryz.isAgg9 ?_)
                        | (go_at_call 92;((with_reducible refine (HPS.out _).mono ?_);rintro e w9 ⟨rfl,hb⟩);replace HO:=Lib.hid (HO.out.on hb);clear hb)
                        | ((with_reducible refine zaa (d:=91) ?_);refine zab rfl 9 _ rfl g1 10 rfl _ (((HO.out.row (i:=0) rfl).cell 10).trans HU10.out) Tryz.isAgg9 ?_)
                        | (go_at_call 93;((with_reducible refine (zaV z.op true H13.out _ HZ.out.op).mono ?_);rintro e w9 ⟨rfl,rfl⟩))
                        | ((with_reducible refine zaa (d:=96) ?_);refine zac (by rfl) 9 _ rfl g1 11 rfl _ (((HO.out.row (i:=0) rfl).cell 11).trans HU11.out) Tryz.isAgg9 ?_)
                        | (go_at_call 93;((with_reducible refine (zaV z.se false H14.out _ HZ.out.se).mono ?_);rintro e w9 ⟨rfl,rfl⟩)))
                       go_ret
                       exact ⟨by rw [zaL HV1.out,if_neg H8.out,if_neg (by rw [H9.out];decide),if_neg (by rw [H10.out];decide),if_neg H11.out,if_neg H12.out,if_pos (.inr (.inl H14.out))];rfl,HO.out.bl⟩
                     · skip
                       by_cases hse:z.se=[]
                       · have hs := zfE (s := S z.se) rfl hse
                         have H15:Hid (¬(zaN z.op=false∨zaN z.se=false∨(z.se≠[]∧z.fm≠1))):=Lib.hid (by rw [H13.out,H14.out];simp [hse])
                         clear hse
                         have hzo:=HZ.out.op
                         have hze:=HZ.out.se
                         obtain ⟨rm,hrm⟩ : ∃rm,zfC z=rm:=⟨_,rfl⟩
                         have HRM:=Lib.hid (fun w=>zgs z (by rw [HFF.out];exact HF.out) us HU.out HZ.out.nu w)
                         rw [hrm] at HRM
                         have HRMM:=Lib.hid hrm
                         clear hrm
                         go_wp2_with (first
                          | ((with_reducible refine zaa (d:=62) ?_);refine zab rfl 9 _ rfl g1 6 rfl _ (((HO.out.row (i:=0) rfl).cell 6).trans HU6.out) Tryz.isAgg9 ?_)
                          | (go_at_call 88;((with_reducible refine (zay z.na true H9.out _ HZ.out.na).mono ?_);rintro e w9 ⟨rfl,rfl⟩))
                          | ((with_reducible refine zaa (d:=66) ?_);refine zab rfl 9 _ rfl g1 7 rfl _ (((HO.out.row (i:=0) rfl).cell 7).trans HU7.out) Tryz.isAgg9 ?_)
                          | (go_at_call 91;((with_reducible refine (zbr (S z.bi) z.bi rfl true H10.out _ HZ.out.bi).mono ?_);rintro e w9 ⟨rfl,hb⟩);replace HO:=Lib.hid (HO.out.on hb);clear hb)
                          | ((with_reducible refine zaa (d:=70) ?_);refine zab rfl 9 _ rfl g1 8 rfl _ (((HO.out.row (i:=0) rfl).cell 8).trans HU8.out) Tryz.isAgg9 ?_)
                          | ((with_reducible refine zaa (d:=74) ?_);refine zac (by rfl) 9 _ rfl g1 8 rfl _ (((HO.out.row (i:=0) rfl).cell 8).trans HU8.out) Tryz.isAgg9 ?_)
                          | ((with_reducible refine zaa (d:=79) ?_);refine zac (by rfl) 9 _ rfl g1 8 rfl _ (((HO.out.row (i:=0) rfl).cell 8).trans HU8.out) Tryz.isAgg9 ?_)
                          | ((with_reducible refine zaa (d:=84) ?_);refine zab rfl 9 _ rfl g1 9 rfl _ (((HO.out.row (i:=0) rfl).cell 9).trans HU9.out) Tryz.isAgg9 ?_)
                          | (go_at_call 92;((with_reducible refine (HPS.out _).mono ?_);rintro e w9 ⟨rfl,hb⟩);replace HO:=Lib.hid (HO.out.on hb);clear hb)
                          | ((with_reducible refine zaa (d:=91) ?_);refine zab rfl 9 _ rfl g1 10 rfl _ (((HO.out.row (i:=0) rfl).cell 10).trans HU10.out) Tryz.isAgg9 ?_)
                          | (go_at_call 93;((with_reducible refine (zaV z.op true H13.out _ HZ.out.op).mono ?_);rintro e w9 ⟨rfl,rfl⟩))
                          | ((with_reducible refine zaa (d:=96) ?_);refine zac (by rfl) 9 _ rfl g1 11 rfl _ (((HO.out.row (i:=0) rfl).cell 11).trans HU11.out) Tryz.isAgg9 ?_)
                          | (go_at_call 93;((with_reducible refine (zaV z.se true H14.out _ HZ.out.se).mono ?_);rintro e w9 ⟨rfl,rfl⟩))
                          | ((with_reducible refine zaa (d:=102) ?_);refine zac (by rfl) 9 _ rfl g1 11 rfl _ (((HO.out.row (i:=0) rfl).cell 11).trans HU11.out) Tryz.isAgg9 ?_)
                          | ((with_reducible refine zaa (d:=106) ?_);refine zac (by rfl) 3 _ rfl g1 0 rfl _ (((HO.out.row (i:=0) rfl).cell 0).trans HU0.out) Tryz.isAgg3 ?_))
                         obtain ⟨E,hE⟩ : ∃E,S z.se=E:=⟨_,rfl⟩
                         obtain ⟨O,hOO⟩ : ∃O,S z.op=O:=⟨_,rfl⟩
                         have HEND:Hid ((optN z.fm < zdo z∨11 < z.se.length)↔(rm < (O.size:Int)∨11 < E.size)):=Lib.hid (by rw [←HRMM.out,←hE,←hOO,zao,zao];exact zdG z)
                         have l10:=(HO.out.row (i:=0) rfl).quiet (k:=10) HU10.out
                         have l11:=(HO.out.row (i:=0) rfl).quiet (k:=11) HU11.out
                         have lU:=Lib.hid ((HO.out.row (i:=0) rfl).up)
                         have qr:=HO.out.qup fun w' _=>HRM.out w'
                         rw [hE] at l11 hze
                         rw [hOO] at l10 hzo
                         clear hE hOO
                         by_cases hr:rm < (O.size:Int)
                         · have hd : decide (rm < (O.size : Int)) = true := by simpa using hr
                           refine wp_region_quiet_below (by kernel_rfl) (by kernel_rfl) ?_
                           repeat (first | ((with_reducible refine zbB (d:=113) ?_);refine zaQ rfl _ _ rfl g1 rfl us _ lU.out Tryz.underlying46 rfl HSZ.out ?_) | go_big_quiet_skip | (go_big_quiet_want;go_big_quiet_op;go_big_quiet_on) | quiet_step (first | with_reducible exact qr _ _))
                           refine wpQuiet_nil ?_
                           intro w5 hw5
                           replace HO:=Lib.hid (HO.out.on (zag hw5))
                           clear hw5 l10 l11 lU qr
                           go_wp2
                           go_ret
                           exact ⟨by rw [zaL HV1.out,if_neg H8.out,if_neg (by rw [H9.out];decide),if_neg (by rw [H10.out];decide),if_neg H11.out,if_neg H12.out,if_neg H15.out,if_pos (HEND.out.2 (.inl hr))];rfl,HO.out.bl⟩
                         · have hd : decide (rm < (O.size : Int)) = false := by simpa using hr
                           refine wp_region_quiet_below (by kernel_rfl) (by kernel_rfl) ?_
                           repeat (first | ((with_reducible refine zbB (d:=113) ?_);refine zaQ rfl _ _ rfl g1 rfl us _ lU.out Tryz.underlying46 rfl HSZ.out ?_) | go_big_quiet_skip | (go_big_quiet_want;go_big_quiet_op;go_big_quiet_on) | quiet_step (first | with_reducible exact qr _ _))
                           refine wpQuiet_nil ?_
                           intro w5 hw5
                           replace HO:=Lib.hid (HO.out.on (zag hw5))
                           clear hw5 l10 l11 lU qr
                           by_cases hs2:11 < E.size
                           · go_wp2
                             go_ret
                             exact ⟨by rw [zaL HV1.out,if_neg H8.out,if_neg (by rw [H9.out];decide),if_neg (by rw [H10.out];decide),if_neg H11.out,if_neg H12.out,if_neg H15.out,if_pos (HEND.out.2 (.inr hs2))];rfl,HO.out.bl⟩
                           · go_wp2
                             go_ret
                             exact ⟨by rw [zaL HV1.out,if_neg H8.out,if_neg (by rw [H9.out];decide),if_neg (by rw [H10.out];decide),if_neg H11.out,if_neg H12.out,if_neg H15.out,if_neg (fun h=>by have:=HEND.out.1 h;omega)];rfl,HO.out.bl⟩
                       · have hs := s_ne (s := S z.se) rfl hse
                         by_cases h1:f=1
                         · have d1 : (f == 1) = true := by simpa using h1
                           have H15:Hid (¬(zaN z.op=false∨zaN z.se=false∨(z.se≠[]∧z.fm≠1))):=Lib.hid (by rw [H13.out,H14.out];simp [HFF.out,h1])
                           clear hse h1
                           have hzo:=HZ.out.op
                           have hze:=HZ.out.se
                           obtain ⟨rm,hrm⟩ : ∃rm,zfC z=rm:=⟨_,rfl⟩
                           have HRM:=Lib.hid (fun w=>zgs z (by rw [HFF.out];exact HF.out) us HU.out HZ.out.nu w)
                           rw [hrm] at HRM
                           have HRMM:=Lib.hid hrm
                           clear hrm
                           go_wp2_with (first
                            | ((with_reducible refine zaa (d:=62) ?_);refine zab rfl 9 _ rfl g1 6 rfl _ (((HO.out.row (i:=0) rfl).cell 6).trans HU6.out) Tryz.isAgg9 ?_)
                            | (go_at_call 88;((with_reducible refine (zay z.na true H9.out _ HZ.out.na).mono ?_);rintro e w9 ⟨rfl,rfl⟩))
                            | ((with_reducible refine zaa (d:=66) ?_);refine zab rfl 9 _ rfl g1 7 rfl _ (((HO.out.row (i:=0) rfl).cell 7).trans HU7.out) Tryz.isAgg9 ?_)
                            | (go_at_call 91;((with_reducible refine (zbr (S z.bi) z.bi rfl true H10.out _ HZ.out.bi).mono ?_);rintro e w9 ⟨rfl,hb⟩);replace HO:=Lib.hid (HO.out.on hb);clear hb)
                            | ((with_reducible refine zaa (d:=70) ?_);refine zab rfl 9 _ rfl g1 8 rfl _ (((HO.out.row (i:=0) rfl).cell 8).trans HU8.out) Tryz.isAgg9 ?_)
                            | ((with_reducible refine zaa (d:=74) ?_);refine zac (by rfl) 9 _ rfl g1 8 rfl _ (((HO.out.row (i:=0) rfl).cell 8).trans HU8.out) Tryz.isAgg9 ?_)
                            | ((with_reducible refine zaa (d:=79) ?_);refine zac (by rfl) 9 _ rfl g1 8 rfl _ (((HO.out.row (i:=0) rfl).cell 8).trans HU8.out) Tryz.isAgg9 ?_)
                            | ((with_reducible refine zaa (d:=84) ?_);refine zab rfl 9 _ rfl g1 9 rfl _ (((HO.out.row (i:=0) rfl).cell 9).trans HU9.out) Tryz.isAgg9 ?_)
                            | (go_at_call 92;((with_reducible refine (HPS.out _).mono ?_);rintro e w9 ⟨rfl,hb⟩);replace HO:=Lib.hid (HO.out.on hb);clear hb)
                            | ((with_reducible refine zaa (d:=91) ?_);refine zab rfl 9 _ rfl g1 10 rfl _ (((HO.out.row (i:=0) rfl).cell 10).trans HU10.out) Tryz.isAgg9 ?_)
                            | (go_at_call 93;((with_reducible refine (zaV z.op true H13.out _ HZ.out.op).mono ?_);rintro e w9 ⟨rfl,rfl⟩))
                            | ((with_reducible refine zaa (d:=96) ?_);refine zac (by rfl) 9 _ rfl g1 11 rfl _ (((HO.out.row (i:=0) rfl).cell 11).trans HU11.out) Tryz.isAgg9 ?_)
                            | (go_at_call 93;((with_reducible refine (zaV z.se true H14.out _ HZ.out.se).mono ?_);rintro e w9 ⟨rfl,rfl⟩))
                            | ((with_reducible refine zaa (d:=102) ?_);refine zac (by rfl) 9 _ rfl g1 11 rfl _ (((HO.out.row (i:=0) rfl).cell 11).trans HU11.out) Tryz.isAgg9 ?_)
                            | ((with_reducible refine zaa (d:=106) ?_);refine zac (by rfl) 3 _ rfl g1 0 rfl _ (((HO.out.row (i:=0) rfl).cell 0).trans HU0.out) Tryz.isAgg3 ?_))
                           obtain ⟨E,hE⟩ : ∃E,S z.se=E:=⟨_,rfl⟩
                           obtain ⟨O,hOO⟩ : ∃O,S z.op=O:=⟨_,rfl⟩
                           have HEND:Hid ((optN z.fm < zdo z∨11 < z.se.length)↔(rm < (O.size:Int)∨11 < E.size)):=Lib.hid (by rw [←HRMM.out,←hE,←hOO,zao,zao];exact zdG z)
                           have l10:=(HO.out.row (i:=0) rfl).quiet (k:=10) HU10.out
                           have l11:=(HO.out.row (i:=0) rfl).quiet (k:=11) HU11.out
                           have lU:=Lib.hid ((HO.out.row (i:=0) rfl).up)
                           have qr:=HO.out.qup fun w' _=>HRM.out w'
                           rw [hE] at l11 hze
                           rw [hOO] at l10 hzo
                           clear hE hOO
                           by_cases hr:rm < (O.size:Int)
                           · have hd : decide (rm < (O.size : Int)) = true := by simpa using hr
                             refine wp_region_quiet_below (by kernel_rfl) (by kernel_rfl) ?_
                             repeat (first | ((with_reducible refine zbB (d:=113) ?_);refine zaQ rfl _ _ rfl g1 rfl us _ lU.out Tryz.underlying46 rfl HSZ.out ?_) | go_big_quiet_skip | (go_big_quiet_want;go_big_quiet_op;go_big_quiet_on) | quiet_step (first | with_reducible exact qr _ _))
                             refine wpQuiet_nil ?_
                             intro w5 hw5
                             replace HO:=Lib.hid (HO.out.on (zag hw5))
                             clear hw5 l10 l11 lU qr
                             go_wp2
                             go_ret
                             exact ⟨by rw [zaL HV1.out,if_neg H8.out,if_neg (by rw [H9.out];decide),if_neg (by rw [H10.out];decide),if_neg H11.out,if_neg H12.out,if_neg H15.out,if_pos (HEND.out.2 (.inl hr))];rfl,HO.out.bl⟩
                           · have hd : decide (rm < (O.size : Int)) = false := by simpa using hr
                             refine wp_region_quiet_below (by kernel_rfl) (by kernel_rfl) ?_
                             repeat (first | ((with_reducible refine zbB (d:=113) ?_);refine zaQ rfl _ _ rfl g1 rfl us _ lU.out Tryz.underlying46 rfl HSZ.out ?_) | go_big_quiet_skip | (go_big_quiet_want;go_big_quiet_op;go_big_quiet_on) | quiet_step (first | with_reducible exact qr _ _))
                             refine wpQuiet_nil ?_
                             intro w5 hw5
                             replace HO:=Lib.hid (HO.out.on (zag hw5))
                             clear hw5 l10 l11 lU qr
                             by_cases hs2:11 < E.size
                             · go_wp2
                               go_ret
                               exact ⟨by rw [zaL HV1.out,if_neg H8.out,if_neg (by rw [H9.out];decide),if_neg (by rw [H10.out];decide),if_neg H11.out,if_neg H12.out,if_neg H15.out,if_pos (HEND.out.2 (.inr hs2))];rfl,HO.out.bl⟩
                             · go_wp2
                               go_ret
                               exact ⟨by rw [zaL HV1.out,if_neg H8.out,if_neg (by rw [H9.out];decide),if_neg (by rw [H10.out];decide),if_neg H11.out,if_neg H12.out,if_neg H15.out,if_neg (fun h=>by have:=HEND.out.1 h;omega)];rfl,HO.out.bl⟩
                         · have d1 : (f == 1) = false := by simpa using h1
                           have H16:Hid (z.se≠[]∧z.fm≠1):=Lib.hid ⟨hse,fun e=>h1 (HFF.out.symm.trans e)⟩
                           clear hse
                           go_wp2_with (first
                            | ((with_reducible refine zaa (d:=62) ?_);refine zab rfl 9 _ rfl g1 6 rfl _ (((HO.out.row (i:=0) rfl).cell 6).trans HU6.out) Tryz.isAgg9 ?_)
                            | (go_at_call 88;((with_reducible refine (zay z.na true H9.out _ HZ.out.na).mono ?_);rintro e w9 ⟨rfl,rfl⟩))
                            | ((with_reducible refine zaa (d:=66) ?_);refine zab rfl 9 _ rfl g1 7 rfl _ (((HO.out.row (i:=0) rfl).cell 7).trans HU7.out) Tryz.isAgg9 ?_)
                            | (go_at_call 91;((with_reducible refine (zbr (S z.bi) z.bi rfl true H10.out _ HZ.out.bi).mono ?_);rintro e w9 ⟨rfl,hb⟩);replace HO:=Lib.hid (HO.out.on hb);clear hb)
                            | ((with_reducible refine zaa (d:=70) ?_);refine zab rfl 9 _ rfl g1 8 rfl _ (((HO.out.row (i:=0) rfl).cell 8).trans HU8.out) Tryz.isAgg9 ?_)
                            | ((with_reducible refine zaa (d:=74) ?_);refine zac (by rfl) 9 _ rfl g1 8 rfl _ (((HO.out.row (i:=0) rfl).cell 8).trans HU8.out) Tryz.isAgg9 ?_)
                            | ((with_reducible refine zaa (d:=79) ?_);refine zac (by rfl) 9 _ rfl g1 8 rfl _ (((HO.out.row (i:=0) rfl).cell 8).trans HU8.out) Tryz.isAgg9 ?_)
                            | ((with_reducible refine zaa (d:=84) ?_);refine zab rfl 9 _ rfl g1 9 rfl _ (((HO.out.row (i:=0) rfl).cell 9).trans HU9.out) Tryz.isAgg9 ?_)
                            | (go_at_call 92;((with_reducible refine (HPS.out _).mono ?_);rintro e w9 ⟨rfl,hb⟩);replace HO:=Lib.hid (HO.out.on hb);clear hb)
                            | ((with_reducible refine zaa (d:=91) ?_);refine zab rfl 9 _ rfl g1 10 rfl _ (((HO.out.row (i:=0) rfl).cell 10).trans HU10.out) Tryz.isAgg9 ?_)
                            | (go_at_call 93;((with_reducible refine (zaV z.op true H13.out _ HZ.out.op).mono ?_);rintro e w9 ⟨rfl,rfl⟩))
                            | ((with_reducible refine zaa (d:=96) ?_);refine zac (by rfl) 9 _ rfl g1 11 rfl _ (((HO.out.row (i:=0) rfl).cell 11).trans HU11.out) Tryz.isAgg9 ?_)
                            | (go_at_call 93;((with_reducible refine (zaV z.se true H14.out _ HZ.out.se).mono ?_);rintro e w9 ⟨rfl,rfl⟩))
                            | ((with_reducible refine zaa (d:=102) ?_);refine zac (by rfl) 9 _ rfl g1 11 rfl _ (((HO.out.row (i:=0) rfl).cell 11).trans HU11.out) Tryz.isAgg9 ?_)
                            | ((with_reducible refine zaa (d:=106) ?_);refine zac (by rfl) 3 _ rfl g1 0 rfl _ (((HO.out.row (i:=0) rfl).cell 0).trans HU0.out) Tryz.isAgg3 ?_))
                           go_ret
                           exact ⟨by rw [zaL HV1.out,if_neg H8.out,if_neg (by rw [H9.out];decide),if_neg (by rw [H10.out];decide),if_neg H11.out,if_neg H12.out,if_pos (.inr (.inr H16.out))];rfl,HO.out.bl⟩
                 · obtain ⟨pe, hpe⟩ : ∃ pe, psE (S z.ex) 2000 = pe := ⟨_, rfl⟩
                   have H12:Hid (expB z.ex=false):=Lib.hid (by unfold expB;exact decide_eq_false h12)
                   rw [hpe] at h12
                   have n1:(pe==0)=false:=by simpa using h12
                   have HPS:Hid (∀w,Calls Tryz.prog 92 #[.string (S z.ex),.int .i64 2000] w fun e w'=>e=.returned (.tuple #[.int .i64 pv,.int .i64 pe])∧Below w.heap.size w w'):=Lib.hid (fun w=>by have h1:=zeF (S z.ex) 2000 w (by have:=HZ.out.ex;unfold maxLen;omega);unfold zeH at h1;rw [hpv,hpe] at h1;exact h1)
                   clear hpv hpe
                   go_wp2_with (first
                    | ((with_reducible refine zaa (d:=62) ?_);refine zab rfl 9 _ rfl g1 6 rfl _ (((HO.out.row (i:=0) rfl).cell 6).trans HU6.out) Tryz.isAgg9 ?_)
                    | (go_at_call 88;((with_reducible refine (zay z.na true H9.out _ HZ.out.na).mono ?_);rintro e w9 ⟨rfl,rfl⟩))
                    | ((with_reducible refine zaa (d:=66) ?_);refine zab rfl 9 _ rfl g1 7 rfl _ (((HO.out.row (i:=0) rfl).cell 7).trans HU7.out) Tryz.isAgg9 ?_)
                    | (go_at_call 91;((with_reducible refine (zbr (S z.bi) z.bi rfl true H10.out _ HZ.out.bi).mono ?_);rintro e w9 ⟨rfl,hb⟩);replace HO:=Lib.hid (HO.out.on hb);clear hb)
                    | ((with_reducible refine zaa (d:=70) ?_);refine zab rfl 9 _ rfl g1 8 rfl _ (((HO.out.row (i:=0) rfl).cell 8).trans HU8.out) Tryz.isAgg9 ?_)
                    | ((with_reducible refine zaa (d:=74) ?_);refine zac (by rfl) 9 _ rfl g1 8 rfl _ (((HO.out.row (i:=0) rfl).cell 8).trans HU8.out) Tryz.isAgg9 ?_)
                    | ((with_reducible refine zaa (d:=79) ?_);refine zac (by rfl) 9 _ rfl g1 8 rfl _ (((HO.out.row (i:=0) rfl).cell 8).trans HU8.out) Tryz.isAgg9 ?_)
                    | ((with_reducible refine zaa (d:=84) ?_);refine zab rfl 9 _ rfl g1 9 rfl _ (((HO.out.row (i:=0) rfl).cell 9).trans HU9.out) Tryz.isAgg9 ?_)
                    | (go_at_call 92;((with_reducible refine (HPS.out _).mono ?_);rintro e w9 ⟨rfl,hb⟩);replace HO:=Lib.hid (HO.out.on hb);clear hb))
                   go_ret
                   exact ⟨by rw [zaL HV1.out,if_neg H8.out,if_neg (by rw [H9.out];decide),if_neg (by rw [H10.out];decide),if_neg H11.out,if_pos H12.out];rfl,HO.out.bl⟩
               rw [decide_eq_false s1] at e77
               by_cases s2:z.sx=[70]
               · have H11 : Hid (¬ sexB z.sx = false) := Lib.hid (by unfold sexB; rw [decide_eq_true (.inr (.inl s2))]; decide)
                 rw [decide_eq_true s2] at e70
                 clear s1 s2 e60
                 obtain ⟨pv,hpv⟩ : ∃pv,psV (S z.ex) 2000=pv:=⟨_,rfl⟩
                 by_cases h12:psE (S z.ex) 2000=0
                 · have HPS : Hid (∀ w, Calls Tryz.prog 92 #[.string (S z.ex), .int .i64 2000] w fun e w' => e = .returned (.tuple #[.int .i64 pv, .int .i64 0]) ∧ Below w.heap.size w w') := Lib.hid (fun w => by have h1 := zeF (S z.ex) 2000 w (by have := HZ.out.ex; unfold maxLen; omega); unfold zeH at h1; rw [hpv, h12] at h1; exact h1)
                   have H12:Hid (¬expB z.ex=false):=Lib.hid (by unfold expB;rw [decide_eq_true h12];decide)
                   clear hpv h12
                   rcases H130:zaN z.op with _ | _
                   all_goals (have H13:=Lib.hid H130;clear H130)
                   · skip
                     go_wp2_with (first
                      | ((with_reducible refine zaa (d:=62) ?_);refine zab rfl 9 _ rfl g1 6 rfl _ (((HO.out.row (i:=0) rfl).cell 6).trans HU6.out) Tryz.isAgg9 ?_)
                      | (go_at_call 88;((with_reducible refine (zay z.na true H9.out _ HZ.out.na).mono ?_);rintro e w9 ⟨rfl,rfl⟩))
                      | ((with_reducible refine zaa (d:=66) ?_);refine zab rfl 9 _ rfl g1 7 rfl _ (((HO.out.row (i:=0) rfl).cell 7).trans HU7.out) Tryz.isAgg9 ?_)
                      | (go_at_call 91;((with_reducible refine (zbr (S z.bi) z.bi rfl true H10.out _ HZ.out.bi).mono ?_);rintro e w9 ⟨rfl,hb⟩);replace HO:=Lib.hid (HO.out.on hb);clear hb)
                      | ((with_reducible refine zaa (d:=70) ?_);refine zab rfl 9 _ rfl g1 8 rfl _ (((HO.out.row (i:=0) rfl).cell 8).trans HU8.out) Tryz.isAgg9 ?_)
                      | ((with_reducible refine zaa (d:=74) ?_);refine zac (by rfl) 9 _ rfl g1 8 rfl _ (((HO.out.row (i:=0) rfl).cell 8).trans HU8.out) Tryz.isAgg9 ?_)
                      | ((with_reducible refine zaa (d:=79) ?_);refine zac (by rfl) 9 _ rfl g1 8 rfl _ (((HO.out.row (i:=0) rfl).cell 8).trans HU8.out) Tryz.isAgg9 ?_)
                      | ((with_reducible refine zaa (d:=84) ?_);refine zab rfl 9 _ rfl g1 9 rfl _ (((HO.out.row (i:=0) rfl).cell 9).trans HU9.out) Tryz.isAgg9 ?_)
                      | (go_at_call 92;((with_reducible refine (HPS.out _).mono ?_);rintro e w9 ⟨rfl,hb⟩);replace HO:=Lib.hid (HO.out.on hb);clear hb)
                      | ((with_reducible refine zaa (d:=91) ?_);refine zab rfl 9 _ rfl g1 10 rfl _ (((HO.out.row (i:=0) rfl).cell 10).trans HU10.out) Tryz.isAgg9 ?_)
                      | (go_at_call 93;((with_reducible refine (zaV z.op false H13.out _ HZ.out.op).mono ?_);rintro e w9 ⟨rfl,rfl⟩)))
                     go_ret
                     exact ⟨by rw [zaL HV1.out,if_neg H8.out,if_neg (by rw [H9.out];decide),if_neg (by rw [H10.out];decide),if_neg H11.out,if_neg H12.out,if_pos (.inl H13.out)];rfl,HO.out.bl⟩
                   · skip
                     rcases H140:zaN z.se with _ | _
                     all_goals (have H14:=Lib.hid H140;clear H140)
                     · skip
                       go_wp2_with (first
                        | ((with_reducible refine zaa (d:=62) ?_);refine zab rfl 9 _ rfl g1 6 rfl _ (((HO.out.row (i:=0) rfl).cell 6).trans HU6.out) Tryz.isAgg9 ?_)
                        | (go_at_call 88;((with_reducible refine (zay z.na true H9.out _ HZ.out.na).mono ?_);rintro e w9 ⟨rfl,rfl⟩))
                        | ((with_reducible refine zaa (d:=66) ?_);refine zab rfl 9 _ rfl g1 7 rfl _ (((HO.out.row (i:=0) rfl).cell 7).trans HU7.out) Tryz.isAgg9 ?_)
                        | (go_at_call 91;((with_reducible refine (zbr (S z.bi) z.bi rfl true H10.out _ HZ.out.bi).mono ?_);rintro e w9 ⟨rfl,hb⟩);replace HO:=Lib.hid (HO.out.on hb);clear hb)
                        | ((with_reducible refine zaa (d:=70) ?_);refine zab rfl 9 _ rfl g1 8 rfl _ (((HO.out.row (i:=0) rfl).cell 8).trans HU8.out) Tryz.isAgg9 ?_)
                        | ((with_reducible refine zaa (d:=74) ?_);refine zac (by rfl) 9 _ rfl g1 8 rfl _ (((HO.out.row (i:=0) rfl).cell 8).trans HU8.out) Tryz.isAgg9 ?_)
                        | ((with_reducible refine zaa (d:=79) ?_);refine zac (by rfl) 9 _ rfl g1 8 rfl _ (((HO.out.row (i:=0) rfl).cell 8).trans HU8.out) Tryz.isAgg9 ?_)
                        | ((with_reducible refine zaa (d:=84) ?_);refine zab rfl 9 _ rfl g1 9 rfl _ (((HO.out.row (i:=0) rfl).cell 9).trans HU9.out) Tryz.isAgg9 ?_)
                        | (go_at_call 92;((with_reducible refine (HPS.out _).mono ?_);rintro e w9 ⟨rfl,hb⟩);replace HO:=Lib.hid (HO.out.on hb);clear hb)
                        | ((with_reducible refine zaa (d:=91) ?_);refine zab rfl 9 _ rfl g1 10 rfl _ (((HO.out.row (i:=0) rfl).cell 10).trans HU10.out) Tryz.isAgg9 ?_)
                        | (go_at_call 93;((with_reducible refine (zaV z.op true H13.out _ HZ.out.op).mono ?_);rintro e w9 ⟨rfl,rfl⟩))
                        | ((with_reducible refine zaa (d:=96) ?_);refine zac (by rfl) 9 _ rfl g1 11 rfl _ (((HO.out.row (i:=0) rfl).cell 11).trans HU11.out) Tryz.isAgg9 ?_)
                        | (go_at_call 93;((with_reducible refine (zaV z.se false H14.out _ HZ.out.se).mono ?_);rintro e w9 ⟨rfl,rfl⟩)))
                       go_ret
                       exact ⟨by rw [zaL HV1.out,if_neg H8.out,if_neg (by rw [H9.out];decide),if_neg (by rw [H10.out];decide),if_neg H11.out,if_neg H12.out,if_pos (.inr (.inl H14.out))];rfl,HO.out.bl⟩
                     · skip
                       by_cases hse:z.se=[]
                       · have hs := zfE (s := S z.se) rfl hse
                         have H15:Hid (¬(zaN z.op=false∨zaN z.se=false∨(z.se≠[]∧z.fm≠1))):=Lib.hid (by rw [H13.out,H14.out];simp [hse])
                         clear hse
                         have hzo:=HZ.out.op
                         have hze:=HZ.out.se
                         obtain ⟨rm,hrm⟩ : ∃rm,zfC z=rm:=⟨_,rfl⟩
                         have HRM:=Lib.hid (fun w=>zgs z (by rw [HFF.out];exact HF.out) us HU.out HZ.out.nu w)
                         rw [hrm] at HRM
                         have HRMM:=Lib.hid hrm
                         clear hrm
                         go_wp2_with (first
                          | ((with_reducible refine zaa (d:=62) ?_);refine zab rfl 9 _ rfl g1 6 rfl _ (((HO.out.row (i:=0) rfl).cell 6).trans HU6.out) Tryz.isAgg9 ?_)
                          | (go_at_call 88;((with_reducible refine (zay z.na true H9.out _ HZ.out.na).mono ?_);rintro e w9 ⟨rfl,rfl⟩))
                          | ((with_reducible refine zaa (d:=66) ?_);refine zab rfl 9 _ rfl g1 7 rfl _ (((HO.out.row (i:=0) rfl).cell 7).trans HU7.out) Tryz.isAgg9 ?_)
                          | (go_at_call 91;((with_reducible refine (zbr (S z.bi) z.bi rfl true H10.out _ HZ.out.bi).mono ?_);rintro e w9 ⟨rfl,hb⟩);replace HO:=Lib.hid (HO.out.on hb);clear hb)
                          | ((with_reducible refine zaa (d:=70) ?_);refine zab rfl 9 _ rfl g1 8 rfl _ (((HO.out.row (i:=0) rfl).cell 8).trans HU8.out) Tryz.isAgg9 ?_)
                          | ((with_reducible refine zaa (d:=74) ?_);refine zac (by rfl) 9 _ rfl g1 8 rfl _ (((HO.out.row (i:=0) rfl).cell 8).trans HU8.out) Tryz.isAgg9 ?_)
                          | ((with_reducible refine zaa (d:=79) ?_);refine zac (by rfl) 9 _ rfl g1 8 rfl _ (((HO.out.row (i:=0) rfl).cell 8).trans HU8.out) Tryz.isAgg9 ?_)
                          | ((with_reducible refine zaa (d:=84) ?_);refine zab rfl 9 _ rfl g1 9 rfl _ (((HO.out.row (i:=0) rfl).cell 9).trans HU9.out) Tryz.isAgg9 ?_)
                          | (go_at_call 92;((with_reducible refine (HPS.out _).mono ?_);rintro e w9 ⟨rfl,hb⟩);replace HO:=Lib.hid (HO.out.on hb);clear hb)
                          | ((with_reducible refine zaa (d:=91) ?_);refine zab rfl 9 _ rfl g1 10 rfl _ (((HO.out.row (i:=0) rfl).cell 10).trans HU10.out) Tryz.isAgg9 ?_)
                          | (go_at_call 93;((with_reducible refine (zaV z.op true H13.out _ HZ.out.op).mono ?_);rintro e w9 ⟨rfl,rfl⟩))
                          | ((with_reducible refine zaa (d:=96) ?_);refine zac (by rfl) 9 _ rfl g1 11 rfl _ (((HO.out.row (i:=0) rfl).cell 11).trans HU11.out) Tryz.isAgg9 ?_)
                          | (go_at_call 93;((with_reducible refine (zaV z.se true H14.out _ HZ.out.se).mono ?_);rintro e w9 ⟨rfl,rfl⟩))
                          | ((with_reducible refine zaa (d:=102) ?_);refine zac (by rfl) 9 _ rfl g1 11 rfl _ (((HO.out.row (i:=0) rfl).cell 11).trans HU11.out) Tryz.isAgg9 ?_)
                          | ((with_reducible refine zaa (d:=106) ?_);refine zac (by rfl) 3 _ rfl g1 0 rfl _ (((HO.out.row (i:=0) rfl).cell 0).trans HU0.out) Tryz.isAgg3 ?_))
                         obtain ⟨E,hE⟩ : ∃E,S z.se=E:=⟨_,rfl⟩
                         obtain ⟨O,hOO⟩ : ∃O,S z.op=O:=⟨_,rfl⟩
                         have HEND:Hid ((optN z.fm < zdo z∨11 < z.se.length)↔(rm < (O.size:Int)∨11 < E.size)):=Lib.hid (by rw [←HRMM.out,←hE,←hOO,zao,zao];exact zdG z)
                         have l10:=(HO.out.row (i:=0) rfl).quiet (k:=10) HU10.out
                         have l11:=(HO.out.row (i:=0) rfl).quiet (k:=11) HU11.out
                         have lU:=Lib.hid ((HO.out.row (i:=0) rfl).up)
                         have qr:=HO.out.qup fun w' _=>HRM.out w'
                         rw [hE] at l11 hze
                         rw [hOO] at l10 hzo
                         clear hE hOO
                         by_cases hr:rm < (O.size:Int)
                         · have hd : decide (rm < (O.size : Int)) = true := by simpa using hr
                           refine wp_region_quiet_below (by kernel_rfl) (by kernel_rfl) ?_
                           repeat (first | ((with_reducible refine zbB (d:=113) ?_);refine zaQ rfl _ _ rfl g1 rfl us _ lU.out Tryz.underlying46 rfl HSZ.out ?_) | go_big_quiet_skip | (go_big_quiet_want;go_big_quiet_op;go_big_quiet_on) | quiet_step (first | with_reducible exact qr _ _))
                           refine wpQuiet_nil ?_
                           intro w5 hw5
                           replace HO:=Lib.hid (HO.out.on (zag hw5))
                           clear hw5 l10 l11 lU qr
                           go_wp2
                           go_ret
                           exact ⟨by rw [zaL HV1.out,if_neg H8.out,if_neg (by rw [H9.out];decide),if_neg (by rw [H10.out];decide),if_neg H11.out,if_neg H12.out,if_neg H15.out,if_pos (HEND.out.2 (.inl hr))];rfl,HO.out.bl⟩
                         · have hd : decide (rm < (O.size : Int)) = false := by simpa using hr
                           refine wp_region_quiet_below (by kernel_rfl) (by kernel_rfl) ?_
                           repeat (first | ((with_reducible refine zbB (d:=113) ?_);refine zaQ rfl _ _ rfl g1 rfl us _ lU.out Tryz.underlying46 rfl HSZ.out ?_) | go_big_quiet_skip | (go_big_quiet_want;go_big_quiet_op;go_big_quiet_on) | quiet_step (first | with_reducible exact qr _ _))
                           refine wpQuiet_nil ?_
                           intro w5 hw5
                           replace HO:=Lib.hid (HO.out.on (zag hw5))
                           clear hw5 l10 l11 lU qr
                           by_cases hs2:11 < E.size
                           · go_wp2
                             go_ret
                             exact ⟨by rw [zaL HV1.out,if_neg H8.out,if_neg (by rw [H9.out];decide),if_neg (by rw [H10.out];decide),if_neg H11.out,if_neg H12.out,if_neg H15.out,if_pos (HEND.out.2 (.inr hs2))];rfl,HO.out.bl⟩
                           · go_wp2
                             go_ret
                             exact ⟨by rw [zaL HV1.out,if_neg H8.out,if_neg (by rw [H9.out];decide),if_neg (by rw [H10.out];decide),if_neg H11.out,if_neg H12.out,if_neg H15.out,if_neg (fun h=>by have:=HEND.out.1 h;omega)];rfl,HO.out.bl⟩
                       · have hs := s_ne (s := S z.se) rfl hse
                         by_cases h1:f=1
                         · have d1 : (f == 1) = true := by simpa using h1
                           have H15:Hid (¬(zaN z.op=false∨zaN z.se=false∨(z.se≠[]∧z.fm≠1))):=Lib.hid (by rw [H13.out,H14.out];simp [HFF.out,h1])
                           clear hse h1
                           have hzo:=HZ.out.op
                           have hze:=HZ.out.se
                           obtain ⟨rm,hrm⟩ : ∃rm,zfC z=rm:=⟨_,rfl⟩
                           have HRM:=Lib.hid (fun w=>zgs z (by rw [HFF.out];exact HF.out) us HU.out HZ.out.nu w)
                           rw [hrm] at HRM
                           have HRMM:=Lib.hid hrm
                           clear hrm
                           go_wp2_with (first
                            | ((with_reducible refine zaa (d:=62) ?_);refine zab rfl 9 _ rfl g1 6 rfl _ (((HO.out.row (i:=0) rfl).cell 6).trans HU6.out) Tryz.isAgg9 ?_)
                            | (go_at_call 88;((with_reducible refine (zay z.na true H9.out _ HZ.out.na).mono ?_);rintro e w9 ⟨rfl,rfl⟩))
                            | ((with_reducible refine zaa (d:=66) ?_);refine zab rfl 9 _ rfl g1 7 rfl _ (((HO.out.row (i:=0) rfl).cell 7).trans HU7.out) Tryz.isAgg9 ?_)
                            | (go_at_call 91;((with_reducible refine (zbr (S z.bi) z.bi rfl true H10.out _ HZ.out.bi).mono ?_);rintro e w9 ⟨rfl,hb⟩);replace HO:=Lib.hid (HO.out.on hb);clear hb)
                            | ((with_reducible refine zaa (d:=70) ?_);refine zab rfl 9 _ rfl g1 8 rfl _ (((HO.out.row (i:=0) rfl).cell 8).trans HU8.out) Tryz.isAgg9 ?_)
                            | ((with_reducible refine zaa (d:=74) ?_);refine zac (by rfl) 9 _ rfl g1 8 rfl _ (((HO.out.row (i:=0) rfl).cell 8).trans HU8.out) Tryz.isAgg9 ?_)
                            | ((with_reducible refine zaa (d:=79) ?_);refine zac (by rfl) 9 _ rfl g1 8 rfl _ (((HO.out.row (i:=0) rfl).cell 8).trans HU8.out) Tryz.isAgg9 ?_)
                            | ((with_reducible refine zaa (d:=84) ?_);refine zab rfl 9 _ rfl g1 9 rfl _ (((HO.out.row (i:=0) rfl).cell 9).trans HU9.out) Tryz.isAgg9 ?_)
                            | (go_at_call 92;((with_reducible refine (HPS.out _).mono ?_);rintro e w9 ⟨rfl,hb⟩);replace HO:=Lib.hid (HO.out.on hb);clear hb)
                            | ((with_reducible refine zaa (d:=91) ?_);refine zab rfl 9 _ rfl g1 10 rfl _ (((HO.out.row (i:=0) rfl).cell 10).trans HU10.out) Tryz.isAgg9 ?_)
                            | (go_at_call 93;((with_reducible refine (zaV z.op true H13.out _ HZ.out.op).mono ?_);rintro e w9 ⟨rfl,rfl⟩))
                            | ((with_reducible refine zaa (d:=96) ?_);refine zac (by rfl) 9 _ rfl g1 11 rfl _ (((HO.out.row (i:=0) rfl).cell 11).trans HU11.out) Tryz.isAgg9 ?_)
                            | (go_at_call 93;((with_reducible refine (zaV z.se true H14.out _ HZ.out.se).mono ?_);rintro e w9 ⟨rfl,rfl⟩))
                            | ((with_reducible refine zaa (d:=102) ?_);refine zac (by rfl) 9 _ rfl g1 11 rfl _ (((HO.out.row (i:=0) rfl).cell 11).trans HU11.out) Tryz.isAgg9 ?_)
                            | ((with_reducible refine zaa (d:=106) ?_);refine zac (by rfl) 3 _ rfl g1 0 rfl _ (((HO.out.row (i:=0) rfl).cell 0).trans HU0.out) Tryz.isAgg3 ?_))
                           obtain ⟨E,hE⟩ : ∃E,S z.se=E:=⟨_,rfl⟩
                           obtain ⟨O,hOO⟩ : ∃O,S z.op=O:=⟨_,rfl⟩
                           have HEND:Hid ((optN z.fm < zdo z∨11 < z.se.length)↔(rm < (O.size:Int)∨11 < E.size)):=Lib.hid (by rw [←HRMM.out,←hE,←hOO,zao,zao];exact zdG z)
                           have l10:=(HO.out.row (i:=0) rfl).quiet (k:=10) HU10.out
                           have l11:=(HO.out.row (i:=0) rfl).quiet (k:=11) HU11.out
                           have lU:=Lib.hid ((HO.out.row (i:=0) rfl).up)
                           have qr:=HO.out.qup fun w' _=>HRM.out w'
                           rw [hE] at l11 hze
                           rw [hOO] at l10 hzo
                           clear hE hOO
                           by_cases hr:rm < (O.size:Int)
                           · have hd : decide (rm < (O.size : Int)) = true := by simpa using hr
                             refine wp_region_quiet_below (by kernel_rfl) (by kernel_rfl) ?_
                             repeat (first | ((with_reducible refine zbB (d:=113) ?_);refine zaQ rfl _ _ rfl g1 rfl us _ lU.out Tryz.underlying46 rfl HSZ.out ?_) | go_big_quiet_skip | (go_big_quiet_want;go_big_quiet_op;go_big_quiet_on) | quiet_step (first | with_reducible exact qr _ _))
                             refine wpQuiet_nil ?_
                             intro w5 hw5
                             replace HO:=Lib.hid (HO.out.on (zag hw5))
                             clear hw5 l10 l11 lU qr
                             go_wp2
                             go_ret
                             exact ⟨by rw [zaL HV1.out,if_neg H8.out,if_neg (by rw [H9.out];decide),if_neg (by rw [H10.out];decide),if_neg H11.out,if_neg H12.out,if_neg H15.out,if_pos (HEND.out.2 (.inl hr))];rfl,HO.out.bl⟩
                           · have hd : decide (rm < (O.size : Int)) = false := by simpa using hr
                             refine wp_region_quiet_below (by kernel_rfl) (by kernel_rfl) ?_
                             repeat (first | ((with_reducible refine zbB (d:=113) ?_);refine zaQ rfl _ _ rfl g1 rfl us _ lU.out Tryz.underlying46 rfl HSZ.out ?_) | go_big_quiet_skip | (go_big_quiet_want;go_big_quiet_op;go_big_quiet_on) | quiet_step (first | with_reducible exact qr _ _))
                             refine wpQuiet_nil ?_
                             intro w5 hw5
                             replace HO:=Lib.hid (HO.out.on (zag hw5))
                             clear hw5 l10 l11 lU qr
                             by_cases hs2:11 < E.size
                             · go_wp2
                               go_ret
                               exact ⟨by rw [zaL HV1.out,if_neg H8.out,if_neg (by rw [H9.out];decide),if_neg (by rw [H10.out];decide),if_neg H11.out,if_neg H12.out,if_neg H15.out,if_pos (HEND.out.2 (.inr hs2))];rfl,HO.out.bl⟩
                             · go_wp2
                               go_ret
                               exact ⟨by rw [zaL HV1.out,if_neg H8.out,if_neg (by rw [H9.out];decide),if_neg (by rw [H10.out];decide),if_neg H11.out,if_neg H12.out,if_neg H15.out,if_neg (fun h=>by have:=HEND.out.1 h;omega)];rfl,HO.out.bl⟩
                         · have d1 : (f == 1) = false := by simpa using h1
                           have H16:Hid (z.se≠[]∧z.fm≠1):=Lib.hid ⟨hse,fun e=>h1 (HFF.out.symm.trans e)⟩
                           clear hse
                           go_wp2_with (first
                            | ((with_reducible refine zaa (d:=62) ?_);refine zab rfl 9 _ rfl g1 6 rfl _ (((HO.out.row (i:=0) rfl).cell 6).trans HU6.out) Tryz.isAgg9 ?_)
                            | (go_at_call 88;((with_reducible refine (zay z.na true H9.out _ HZ.out.na).mono ?_);rintro e w9 ⟨rfl,rfl⟩))
                            | ((with_reducible refine zaa (d:=66) ?_);refine zab rfl 9 _ rfl g1 7 rfl _ (((HO.out.row (i:=0) rfl).cell 7).trans HU7.out) Tryz.isAgg9 ?_)
                            | (go_at_call 91;((with_reducible refine (zbr (S z.bi) z.bi rfl true H10.out _ HZ.out.bi).mono ?_);rintro e w9 ⟨rfl,hb⟩);replace HO:=Lib.hid (HO.out.on hb);clear hb)
                            | ((with_reducible refine zaa (d:=70) ?_);refine zab rfl 9 _ rfl g1 8 rfl _ (((HO.out.row (i:=0) rfl).cell 8).trans HU8.out) Tryz.isAgg9 ?_)
                            | ((with_reducible refine zaa (d:=74) ?_);refine zac (by rfl) 9 _ rfl g1 8 rfl _ (((HO.out.row (i:=0) rfl).cell 8).trans HU8.out) Tryz.isAgg9 ?_)
                            | ((with_reducible refine zaa (d:=79) ?_);refine zac (by rfl) 9 _ rfl g1 8 rfl _ (((HO.out.row (i:=0) rfl).cell 8).trans HU8.out) Tryz.isAgg9 ?_)
                            | ((with_reducible refine zaa (d:=84) ?_);refine zab rfl 9 _ rfl g1 9 rfl _ (((HO.out.row (i:=0) rfl).cell 9).trans HU9.out) Tryz.isAgg9 ?_)
                            | (go_at_call 92;((with_reducible refine (HPS.out _).mono ?_);rintro e w9 ⟨rfl,hb⟩);replace HO:=Lib.hid (HO.out.on hb);clear hb)
                            | ((with_reducible refine zaa (d:=91) ?_);refine zab rfl 9 _ rfl g1 10 rfl _ (((HO.out.row (i:=0) rfl).cell 10).trans HU10.out) Tryz.isAgg9 ?_)
                            | (go_at_call 93;((with_reducible refine (zaV z.op true H13.out _ HZ.out.op).mono ?_);rintro e w9 ⟨rfl,rfl⟩))
                            | ((with_reducible refine zaa (d:=96) ?_);refine zac (by rfl) 9 _ rfl g1 11 rfl _ (((HO.out.row (i:=0) rfl).cell 11).trans HU11.out) Tryz.isAgg9 ?_)
                            | (go_at_call 93;((with_reducible refine (zaV z.se true H14.out _ HZ.out.se).mono ?_);rintro e w9 ⟨rfl,rfl⟩))
                            | ((with_reducible refine zaa (d:=102) ?_);refine zac (by rfl) 9 _ rfl g1 11 rfl _ (((HO.out.row (i:=0) rfl).cell 11).trans HU11.out) Tryz.isAgg9 ?_)
                            | ((with_reducible refine zaa (d:=106) ?_);refine zac (by rfl) 3 _ rfl g1 0 rfl _ (((HO.out.row (i:=0) rfl).cell 0).trans HU0.out) Tryz.isAgg3 ?_))
                           go_ret
                           exact ⟨by rw [zaL HV1.out,if_neg H8.out,if_neg (by rw [H9.out];decide),if_neg (by rw [H10.out];decide),if_neg H11.out,if_neg H12.out,if_pos (.inr (.inr H16.out))];rfl,HO.out.bl⟩
                 · obtain ⟨pe, hpe⟩ : ∃ pe, psE (S z.ex) 2000 = pe := ⟨_, rfl⟩
                   have H12:Hid (expB z.ex=false):=Lib.hid (by unfold expB;exact decide_eq_false h12)
                   rw [hpe] at h12
                   have n1:(pe==0)=false:=by simpa using h12
                   have HPS:Hid (∀w,Calls Tryz.prog 92 #[.string (S z.ex),.int .i64 2000] w fun e w'=>e=.returned (.tuple #[.int .i64 pv,.int .i64 pe])∧Below w.heap.size w w'):=Lib.hid (fun w=>by have h1:=zeF (S z.ex) 2000 w (by have:=HZ.out.ex;unfold maxLen;omega);unfold zeH at h1;rw [hpv,hpe] at h1;exact h1)
                   clear hpv hpe
                   go_wp2_with (first
                    | ((with_reducible refine zaa (d:=62) ?_);refine zab rfl 9 _ rfl g1 6 rfl _ (((HO.out.row (i:=0) rfl).cell 6).trans HU6.out) Tryz.isAgg9 ?_)
                    | (go_at_call 88;((with_reducible refine (zay z.na true H9.out _ HZ.out.na).mono ?_);rintro e w9 ⟨rfl,rfl⟩))
                    | ((with_reducible refine zaa (d:=66) ?_);refine zab rfl 9 _ rfl g1 7 rfl _ (((HO.out.row (i:=0) rfl).cell 7).trans HU7.out) Tryz.isAgg9 ?_)
                    | (go_at_call 91;((with_reducible refine (zbr (S z.bi) z.bi rfl true H10.out _ HZ.out.bi).mono ?_);rintro e w9 ⟨rfl,hb⟩);replace HO:=Lib.hid (HO.out.on hb);clear hb)
                    | ((with_reducible refine zaa (d:=70) ?_);refine zab rfl 9 _ rfl g1 8 rfl _ (((HO.out.row (i:=0) rfl).cell 8).trans HU8.out) Tryz.isAgg9 ?_)
                    | ((with_reducible refine zaa (d:=74) ?_);refine zac (by rfl) 9 _ rfl g1 8 rfl _ (((HO.out.row (i:=0) rfl).cell 8).trans HU8.out) Tryz.isAgg9 ?_)
                    | ((with_reducible refine zaa (d:=79) ?_);refine zac (by rfl) 9 _ rfl g1 8 rfl _ (((HO.out.row (i:=0) rfl).cell 8).trans HU8.out) Tryz.isAgg9 ?_)
                    | ((with_reducible refine zaa (d:=84) ?_);refine zab rfl 9 _ rfl g1 9 rfl _ (((HO.out.row (i:=0) rfl).cell 9).trans HU9.out) Tryz.isAgg9 ?_)
                    | (go_at_call 92;((with_reducible refine (HPS.out _).mono ?_);rintro e w9 ⟨rfl,hb⟩);replace HO:=Lib.hid (HO.out.on hb);clear hb))
                   go_ret
                   exact ⟨by rw [zaL HV1.out,if_neg H8.out,if_neg (by rw [H9.out];decide),if_neg (by rw [H10.out];decide),if_neg H11.out,if_pos H12.out];rfl,HO.out.bl⟩
               rw [decide_eq_false s2] at e70
               by_cases s3:z.sx=[60]
               · have H11 : Hid (¬ sexB z.sx = false) := Lib.hid (by unfold sexB; rw [decide_eq_true (.inr (.inr s3))]; decide)
                 rw [decide_eq_true s3] at e60
                 clear s1 s2 s3
                 obtain ⟨pv,hpv⟩ : ∃pv,psV (S z.ex) 2000=pv:=⟨_,rfl⟩
                 by_cases h12:psE (S z.ex) 2000=0
                 · have HPS : Hid (∀ w, Calls Tryz.prog 92 #[.string (S z.ex), .int .i64 2000] w fun e w' => e = .returned (.tuple #[.int .i64 pv, .int .i64 0]) ∧ Below w.heap.size w w') := Lib.hid (fun w => by have h1 := zeF (S z.ex) 2000 w (by have := HZ.out.ex; unfold maxLen; omega); unfold zeH at h1; rw [hpv, h12] at h1; exact h1)
                   have H12:Hid (¬expB z.ex=false):=Lib.hid (by unfold expB;rw [decide_eq_true h12];decide)
                   clear hpv h12
                   rcases H130:zaN z.op with _ | _
                   all_goals (have H13:=Lib.hid H130;clear H130)
                   · skip
                     go_wp2_with (first
                      | ((with_reducible refine zaa (d:=62) ?_);refine zab rfl 9 _ rfl g1 6 rfl _ (((HO.out.row (i:=0) rfl).cell 6).trans HU6.out) Tryz.isAgg9 ?_)
                      | (go_at_call 88;((with_reducible refine (zay z.na true H9.out _ HZ.out.na).mono ?_);rintro e w9 ⟨rfl,rfl⟩))
                      | ((with_reducible refine zaa (d:=66) ?_);refine zab rfl 9 _ rfl g1 7 rfl _ (((HO.out.row (i:=0) rfl).cell 7).trans HU7.out) Tryz.isAgg9 ?_)
                      | (go_at_call 91;((with_reducible refine (zbr (S z.bi) z.bi rfl true H10.out _ HZ.out.bi).mono ?_);rintro e w9 ⟨rfl,hb⟩);replace HO:=Lib.hid (HO.out.on hb);clear hb)
                      | ((with_reducible refine zaa (d:=70) ?_);refine zab rfl 9 _ rfl g1 8 rfl _ (((HO.out.row (i:=0) rfl).cell 8).trans HU8.out) Tryz.isAgg9 ?_)
                      | ((with_reducible refine zaa (d:=74) ?_);refine zac (by rfl) 9 _ rfl g1 8 rfl _ (((HO.out.row (i:=0) rfl).cell 8).trans HU8.out) Tryz.isAgg9 ?_)
                      | ((with_reducible refine zaa (d:=79) ?_);refine zac (by rfl) 9 _ rfl g1 8 rfl _ (((HO.out.row (i:=0) rfl).cell 8).trans HU8.out) Tryz.isAgg9 ?_)
                      | ((with_reducible refine zaa (d:=84) ?_);refine zab rfl 9 _ rfl g1 9 rfl _ (((HO.out.row (i:=0) rfl).cell 9).trans HU9.out) Tryz.isAgg9 ?_)
                      | (go_at_call 92;((with_reducible refine (HPS.out _).mono ?_);rintro e w9 ⟨rfl,hb⟩);replace HO:=Lib.hid (HO.out.on hb);clear hb)
                      | ((with_reducible refine zaa (d:=91) ?_);refine zab rfl 9 _ rfl g1 10 rfl _ (((HO.out.row (i:=0) rfl).cell 10).trans HU10.out) Tryz.isAgg9 ?_)
                      | (go_at_call 93;((with_reducible refine (zaV z.op false H13.out _ HZ.out.op).mono ?_);rintro e w9 ⟨rfl,rfl⟩)))
                     go_ret
                     exact ⟨by rw [zaL HV1.out,if_neg H8.out,if_neg (by rw [H9.out];decide),if_neg (by rw [H10.out];decide),if_neg H11.out,if_neg H12.out,if_pos (.inl H13.out)];rfl,HO.out.bl⟩
                   · skip
                     rcases H140:zaN z.se with _ | _
                     all_goals (have H14:=Lib.hid H140;clear H140)
                     · skip
                       go_wp2_with (first
                        | ((with_reducible refine zaa (d:=62) ?_);refine zab rfl 9 _ rfl g1 6 rfl _ (((HO.out.row (i:=0) rfl).cell 6).trans HU6.out) Tryz.isAgg9 ?_)
                        | (go_at_call 88;((with_reducible refine (zay z.na true H9.out _ HZ.out.na).mono ?_);rintro e w9 ⟨rfl,rfl⟩))
                        | ((with_reducible refine zaa (d:=66) ?_);refine zab rfl 9 _ rfl g1 7 rfl _ (((HO.out.row (i:=0) rfl).cell 7).trans HU7.out) Tryz.isAgg9 ?_)
                        | (go_at_call 91;((with_reducible refine (zbr (S z.bi) z.bi rfl true H10.out _ HZ.out.bi).mono ?_);rintro e w9 ⟨rfl,hb⟩);replace HO:=Lib.hid (HO.out.on hb);clear hb)
                        | ((with_reducible refine zaa (d:=70) ?_);refine zab rfl 9 _ rfl g1 8 rfl _ (((HO.out.row (i:=0) rfl).cell 8).trans HU8.out) Tryz.isAgg9 ?_)
                        | ((with_reducible refine zaa (d:=74) ?_);refine zac (by rfl) 9 _ rfl g1 8 rfl _ (((HO.out.row (i:=0) rfl).cell 8).trans HU8.out) Tryz.isAgg9 ?_)
                        | ((with_reducible refine zaa (d:=79) ?_);refine zac (by rfl) 9 _ rfl g1 8 rfl _ (((HO.out.row (i:=0) rfl).cell 8).trans HU8.out) Tryz.isAgg9 ?_)
                        | ((with_reducible refine zaa (d:=84) ?_);refine zab rfl 9 _ rfl g1 9 rfl _ (((HO.out.row (i:=0) rfl).cell 9).trans HU9.out) Tryz.isAgg9 ?_)
                        | (go_at_call 92;((with_reducible refine (HPS.out _).mono ?_);rintro e w9 ⟨rfl,hb⟩);replace HO:=Lib.hid (HO.out.on hb);clear hb)
                        | ((with_reducible refine zaa (d:=91) ?_);refine zab rfl 9 _ rfl g1 10 rfl _ (((HO.out.row (i:=0) rfl).cell 10).trans HU10.out) Tryz.isAgg9 ?_)
                        | (go_at_call 93;((with_reducible refine (zaV z.op true H13.out _ HZ.out.op).mono ?_);rintro e w9 ⟨rfl,rfl⟩))
                        | ((with_reducible refine zaa (d:=96) ?_);refine zac (by rfl) 9 _ rfl g1 11 rfl _ (((HO.out.row (i:=0) rfl).cell 11).trans HU11.out) Tryz.isAgg9 ?_)
                        | (go_at_call 93;((with_reducible refine (zaV z.se false H14.out _ HZ.out.se).mono ?_);rintro e w9 ⟨rfl,rfl⟩)))
                       go_ret
                       exact ⟨by rw [zaL HV1.out,if_neg H8.out,if_neg (by rw [H9.out];decide),if_neg (by rw [H10.out];decide),if_neg H11.out,if_neg H12.out,if_pos (.inr (.inl H14.out))];rfl,HO.out.bl⟩
                     · skip
                       by_cases hse:z.se=[]
                       · have hs := zfE (s := S z.se) rfl hse
                         have H15:Hid (¬(zaN z.op=false∨zaN z.se=false∨(z.se≠[]∧z.fm≠1))):=Lib.hid (by rw [H13.out,H14.out];simp [hse])
                         clear hse
                         have hzo:=HZ.out.op
                         have hze:=HZ.out.se
                         obtain ⟨rm,hrm⟩ : ∃rm,zfC z=rm:=⟨_,rfl⟩
                         have HRM:=Lib.hid (fun w=>zgs z (by rw [HFF.out];exact HF.out) us HU.out HZ.out.nu w)
                         rw [hrm] at HRM
                         have HRMM:=Lib.hid hrm
                         clear hrm
                         go_wp2_with (first
                          | ((with_reducible refine zaa (d:=62) ?_);refine zab rfl 9 _ rfl g1 6 rfl _ (((HO.out.row (i:=0) rfl).cell 6).trans HU6.out) Tryz.isAgg9 ?_)
                          | (go_at_call 88;((with_reducible refine (zay z.na true H9.out _ HZ.out.na).mono ?_);rintro e w9 ⟨rfl,rfl⟩))
                          | ((with_reducible refine zaa (d:=66) ?_);refine zab rfl 9 _ rfl g1 7 rfl _ (((HO.out.row (i:=0) rfl).cell 7).trans HU7.out) Tryz.isAgg9 ?_)
                          | (go_at_call 91;((with_reducible refine (zbr (S z.bi) z.bi rfl true H10.out _ HZ.out.bi).mono ?_);rintro e w9 ⟨rfl,hb⟩);replace HO:=Lib.hid (HO.out.on hb);clear hb)
                          | ((with_reducible refine zaa (d:=70) ?_);refine zab rfl 9 _ rfl g1 8 rfl _ (((HO.out.row (i:=0) rfl).cell 8).trans HU8.out) Tryz.isAgg9 ?_)
                          | ((with_reducible refine zaa (d:=74) ?_);refine zac (by rfl) 9 _ rfl g1 8 rfl _ (((HO.out.row (i:=0) rfl).cell 8).trans HU8.out) Tryz.isAgg9 ?_)
                          | ((with_reducible refine zaa (d:=79) ?_);refine zac (by rfl) 9 _ rfl g1 8 rfl _ (((HO.out.row (i:=0) rfl).cell 8).trans HU8.out) Tryz.isAgg9 ?_)
                          | ((with_reducible refine zaa (d:=84) ?_);refine zab rfl 9 _ rfl g1 9 rfl _ (((HO.out.row (i:=0) rfl).cell 9).trans HU9.out) Tryz.isAgg9 ?_)
                          | (go_at_call 92;((with_reducible refine (HPS.out _).mono ?_);rintro e w9 ⟨rfl,hb⟩);replace HO:=Lib.hid (HO.out.on hb);clear hb)
                          | ((with_reducible refine zaa (d:=91) ?_);refine zab rfl 9 _ rfl g1 10 rfl _ (((HO.out.row (i:=0) rfl).cell 10).trans HU10.out) Tryz.isAgg9 ?_)
                          | (go_at_call 93;((with_reducible refine (zaV z.op true H13.out _ HZ.out.op).mono ?_);rintro e w9 ⟨rfl,rfl⟩))
                          | ((with_reducible refine zaa (d:=96) ?_);refine zac (by rfl) 9 _ rfl g1 11 rfl _ (((HO.out.row (i:=0) rfl).cell 11).trans HU11.out) Tryz.isAgg9 ?_)
                          | (go_at_call 93;((with_reducible refine (zaV z.se true H14.out _ HZ.out.se).mono ?_);rintro e w9 ⟨rfl,rfl⟩))
                          | ((with_reducible refine zaa (d:=102) ?_);refine zac (by rfl) 9 _ rfl g1 11 rfl _ (((HO.out.row (i:=0) rfl).cell 11).trans HU11.out) Tryz.isAgg9 ?_)
                          | ((with_reducible refine zaa (d:=106) ?_);refine zac (by rfl) 3 _ rfl g1 0 rfl _ (((HO.out.row (i:=0) rfl).cell 0).trans HU0.out) Tryz.isAgg3 ?_))
                         obtain ⟨E,hE⟩ : ∃E,S z.se=E:=⟨_,rfl⟩
                         obtain ⟨O,hOO⟩ : ∃O,S z.op=O:=⟨_,rfl⟩
                         have HEND:Hid ((optN z.fm < zdo z∨11 < z.se.length)↔(rm < (O.size:Int)∨11 < E.size)):=Lib.hid (by rw [←HRMM.out,←hE,←hOO,zao,zao];exact zdG z)
                         have l10:=(HO.out.row (i:=0) rfl).quiet (k:=10) HU10.out
                         have l11:=(HO.out.row (i:=0) rfl).quiet (k:=11) HU11.out
                         have lU:=Lib.hid ((HO.out.row (i:=0) rfl).up)
                         have qr:=HO.out.qup fun w' _=>HRM.out w'
                         rw [hE] at l11 hze
                         rw [hOO] at l10 hzo
                         clear hE hOO
                         by_cases hr:rm < (O.size:Int)
                         · have hd : decide (rm < (O.size : Int)) = true := by simpa using hr
                           refine wp_region_quiet_below (by kernel_rfl) (by kernel_rfl) ?_
                           repeat (first | ((with_reducible refine zbB (d:=113) ?_);refine zaQ rfl _ _ rfl g1 rfl us _ lU.out Tryz.underlying46 rfl HSZ.out ?_) | go_big_quiet_skip | (go_big_quiet_want;go_big_quiet_op;go_big_quiet_on) | quiet_step (first | with_reducible exact qr _ _))
                           refine wpQuiet_nil ?_
                           intro w5 hw5
                           replace HO:=Lib.hid (HO.out.on (zag hw5))
                           clear hw5 l10 l11 lU qr
                           go_wp2
                           go_ret
                           exact ⟨by rw [zaL HV1.out,if_neg H8.out,if_neg (by rw [H9.out];decide),if_neg (by rw [H10.out];decide),if_neg H11.out,if_neg H12.out,if_neg H15.out,if_pos (HEND.out.2 (.inl hr))];rfl,HO.out.bl⟩
                         · have hd : decide (rm < (O.size : Int)) = false := by simpa using hr
                           refine wp_region_quiet_below (by kernel_rfl) (by kernel_rfl) ?_
                           repeat (first | ((with_reducible refine zbB (d:=113) ?_);refine zaQ rfl _ _ rfl g1 rfl us _ lU.out Tryz.underlying46 rfl HSZ.out ?_) | go_big_quiet_skip | (go_big_quiet_want;go_big_quiet_op;go_big_quiet_on) | quiet_step (first | with_reducible exact qr _ _))
                           refine wpQuiet_nil ?_
                           intro w5 hw5
                           replace HO:=Lib.hid (HO.out.on (zag hw5))
                           clear hw5 l10 l11 lU qr
                           by_cases hs2:11 < E.size
                           · go_wp2
                             go_ret
                             exact ⟨by rw [zaL HV1.out,if_neg H8.out,if_neg (by rw [H9.out];decide),if_neg (by rw [H10.out];decide),if_neg H11.out,if_neg H12.out,if_neg H15.out,if_pos (HEND.out.2 (.inr hs2))];rfl,HO.out.bl⟩
                           · go_wp2
                             go_ret
                             exact ⟨by rw [zaL HV1.out,if_neg H8.out,if_neg (by rw [H9.out];decide),if_neg (by rw [H10.out];decide),if_neg H11.out,if_neg H12.out,if_neg H15.out,if_neg (fun h=>by have:=HEND.out.1 h;omega)];rfl,HO.out.bl⟩
                       · have hs := s_ne (s := S z.se) rfl hse
                         by_cases h1:f=1
                         · have d1 : (f == 1) = true := by simpa using h1
                           have H15:Hid (¬(zaN z.op=false∨zaN z.se=false∨(z.se≠[]∧z.fm≠1))):=Lib.hid (by rw [H13.out,H14.out];simp [HFF.out,h1])
                           clear hse h1
                           have hzo:=HZ.out.op
                           have hze:=HZ.out.se
                           obtain ⟨rm,hrm⟩ : ∃rm,zfC z=rm:=⟨_,rfl⟩
                           have HRM:=Lib.hid (fun w=>zgs z (by rw [HFF.out];exact HF.out) us HU.out HZ.out.nu w)
                           rw [hrm] at HRM
                           have HRMM:=Lib.hid hrm
                           clear hrm
                           go_wp2_with (first
                            | ((with_reducible refine zaa (d:=62) ?_);refine zab rfl 9 _ rfl g1 6 rfl _ (((HO.out.row (i:=0) rfl).cell 6).trans HU6.out) Tryz.isAgg9 ?_)
                            | (go_at_call 88;((with_reducible refine (zay z.na true H9.out _ HZ.out.na).mono ?_);rintro e w9 ⟨rfl,rfl⟩))
                            | ((with_reducible refine zaa (d:=66) ?_);refine zab rfl 9 _ rfl g1 7 rfl _ (((HO.out.row (i:=0) rfl).cell 7).trans HU7.out) Tryz.isAgg9 ?_)
                            | (go_at_call 91;((with_reducible refine (zbr (S z.bi) z.bi rfl true H10.out _ HZ.out.bi).mono ?_);rintro e w9 ⟨rfl,hb⟩);replace HO:=Lib.hid (HO.out.on hb);clear hb)
                            | ((with_reducible refine zaa (d:=70) ?_);refine zab rfl 9 _ rfl g1 8 rfl _ (((HO.out.row (i:=0) rfl).cell 8).trans HU8.out) Tryz.isAgg9 ?_)
                            | ((with_reducible refine zaa (d:=74) ?_);refine zac (by rfl) 9 _ rfl g1 8 rfl _ (((HO.out.row (i:=0) rfl).cell 8).trans HU8.out) Tryz.isAgg9 ?_)
                            | ((with_reducible refine zaa (d:=79) ?_);refine zac (by rfl) 9 _ rfl g1 8 rfl _ (((HO.out.row (i:=0) rfl).cell 8).trans HU8.out) Tryz.isAgg9 ?_)
                            | ((with_reducible refine zaa (d:=84) ?_);refine zab rfl 9 _ rfl g1 9 rfl _ (((HO.out.row (i:=0) rfl).cell 9).trans HU9.out) Tryz.isAgg9 ?_)
                            | (go_at_call 92;((with_reducible refine (HPS.out _).mono ?_);rintro e w9 ⟨rfl,hb⟩);replace HO:=Lib.hid (HO.out.on hb);clear hb)
                            | ((with_reducible refine zaa (d:=91) ?_);refine zab rfl 9 _ rfl g1 10 rfl _ (((HO.out.row (i:=0) rfl).cell 10).trans HU10.out) Tryz.isAgg9 ?_)
                            | (go_at_call 93;((with_reducible refine (zaV z.op true H13.out _ HZ.out.op).mono ?_);rintro e w9 ⟨rfl,rfl⟩))
                            | ((with_reducible refine zaa (d:=96) ?_);refine zac (by rfl) 9 _ rfl g1 11 rfl _ (((HO.out.row (i:=0) rfl).cell 11).trans HU11.out) Tryz.isAgg9 ?_)
                            | (go_at_call 93;((with_reducible refine (zaV z.se true H14.out _ HZ.out.se).mono ?_);rintro e w9 ⟨rfl,rfl⟩))
                            | ((with_reducible refine zaa (d:=102) ?_);refine zac (by rfl) 9 _ rfl g1 11 rfl _ (((HO.out.row (i:=0) rfl).cell 11).trans HU11.out) Tryz.isAgg9 ?_)
                            | ((with_reducible refine zaa (d:=106) ?_);refine zac (by rfl) 3 _ rfl g1 0 rfl _ (((HO.out.row (i:=0) rfl).cell 0).trans HU0.out) Tryz.isAgg3 ?_))
                           obtain ⟨E,hE⟩ : ∃E,S z.se=E:=⟨_,rfl⟩
                           obtain ⟨O,hOO⟩ : ∃O,S z.op=O:=⟨_,rfl⟩
                           have HEND:Hid ((optN z.fm < zdo z∨11 < z.se.length)↔(rm < (O.size:Int)∨11 < E.size)):=Lib.hid (by rw [←HRMM.out,←hE,←hOO,zao,zao];exact zdG z)
                           have l10:=(HO.out.row (i:=0) rfl).quiet (k:=10) HU10.out
                           have l11:=(HO.out.row (i:=0) rfl).quiet (k:=11) HU11.out
                           have lU:=Lib.hid ((HO.out.row (i:=0) rfl).up)
                           have qr:=HO.out.qup fun w' _=>HRM.out w'
                           rw [hE] at l11 hze
                           rw [hOO] at l10 hzo
                           clear hE hOO
                           by_cases hr:rm < (O.size:Int)
                           · have hd : decide (rm < (O.size : Int)) = true := by simpa using hr
                             refine wp_region_quiet_below (by kernel_rfl) (by kernel_rfl) ?_
                             repeat (first | ((with_reducible refine zbB (d:=113) ?_);refine zaQ rfl _ _ rfl g1 rfl us _ lU.out Tryz.underlying46 rfl HSZ.out ?_) | go_big_quiet_skip | (go_big_quiet_want;go_big_quiet_op;go_big_quiet_on) | quiet_step (first | with_reducible exact qr _ _))
                             refine wpQuiet_nil ?_
                             intro w5 hw5
                             replace HO:=Lib.hid (HO.out.on (zag hw5))
                             clear hw5 l10 l11 lU qr
                             go_wp2
                             go_ret
                             exact ⟨by rw [zaL HV1.out,if_neg H8.out,if_neg (by rw [H9.out];decide),if_neg (by rw [H10.out];decide),if_neg H11.out,if_neg H12.out,if_neg H15.out,if_pos (HEND.out.2 (.inl hr))];rfl,HO.out.bl⟩
                           · have hd : decide (rm < (O.size : Int)) = false := by simpa using hr
                             refine wp_region_quiet_below (by kernel_rfl) (by kernel_rfl) ?_
                             repeat (first | ((with_reducible refine zbB (d:=113) ?_);refine zaQ rfl _ _ rfl g1 rfl us _ lU.out Tryz.underlying46 rfl HSZ.out ?_) | go_big_quiet_skip | (go_big_quiet_want;go_big_quiet_op;go_big_quiet_on) | quiet_step (first | with_reducible exact qr _ _))
                             refine wpQuiet_nil ?_
                             intro w5 hw5
                             replace HO:=Lib.hid (HO.out.on (zag hw5))
                             clear hw5 l10 l11 lU qr
                             by_cases hs2:11 < E.size
                             · go_wp2
                               go_ret
                               exact ⟨by rw [zaL HV1.out,if_neg H8.out,if_neg (by rw [H9.out];decide),if_neg (by rw [H10.out];decide),if_neg H11.out,if_neg H12.out,if_neg H15.out,if_pos (HEND.out.2 (.inr hs2))];rfl,HO.out.bl⟩
                             · go_wp2
                               go_ret
                               exact ⟨by rw [zaL HV1.out,if_neg H8.out,if_neg (by rw [H9.out];decide),if_neg (by rw [H10.out];decide),if_neg H11.out,if_neg H12.out,if_neg H15.out,if_neg (fun h=>by have:=HEND.out.1 h;omega)];rfl,HO.out.bl⟩
                         · have d1 : (f == 1) = false := by simpa using h1
                           have H16:Hid (z.se≠[]∧z.fm≠1):=Lib.hid ⟨hse,fun e=>h1 (HFF.out.symm.trans e)⟩
                           clear hse
                           go_wp2_with (first
                            | ((with_reducible refine zaa (d:=62) ?_);refine zab rfl 9 _ rfl g1 6 rfl _ (((HO.out.row (i:=0) rfl).cell 6).trans HU6.out) Tryz.isAgg9 ?_)
                            | (go_at_call 88;((with_reducible refine (zay z.na true H9.out _ HZ.out.na).mono ?_);rintro e w9 ⟨rfl,rfl⟩))
                            | ((with_reducible refine zaa (d:=66) ?_);refine zab rfl 9 _ rfl g1 7 rfl _ (((HO.out.row (i:=0) rfl).cell 7).trans HU7.out) Tryz.isAgg9 ?_)
                            | (go_at_call 91;((with_reducible refine (zbr (S z.bi) z.bi rfl true H10.out _ HZ.out.bi).mono ?_);rintro e w9 ⟨rfl,hb⟩);replace HO:=Lib.hid (HO.out.on hb);clear hb)
                            | ((with_reducible refine zaa (d:=70) ?_);refine zab rfl 9 _ rfl g1 8 rfl _ (((HO.out.row (i:=0) rfl).cell 8).trans HU8.out) Tryz.isAgg9 ?_)
                            | ((with_reducible refine zaa (d:=74) ?_);refine zac (by rfl) 9 _ rfl g1 8 rfl _ (((HO.out.row (i:=0) rfl).cell 8).trans HU8.out) Tryz.isAgg9 ?_)
                            | ((with_reducible refine zaa (d:=79) ?_);refine zac (by rfl) 9 _ rfl g1 8 rfl _ (((HO.out.row (i:=0) rfl).cell 8).trans HU8.out) Tryz.isAgg9 ?_)
                            | ((with_reducible refine zaa (d:=84) ?_);refine zab rfl 9 _ rfl g1 9 rfl _ (((HO.out.row (i:=0) rfl).cell 9).trans HU9.out) Tryz.isAgg9 ?_)
                            | (go_at_call 92;((with_reducible refine (HPS.out _).mono ?_);rintro e w9 ⟨rfl,hb⟩);replace HO:=Lib.hid (HO.out.on hb);clear hb)
                            | ((with_reducible refine zaa (d:=91) ?_);refine zab rfl 9 _ rfl g1 10 rfl _ (((HO.out.row (i:=0) rfl).cell 10).trans HU10.out) Tryz.isAgg9 ?_)
                            | (go_at_call 93;((with_reducible refine (zaV z.op true H13.out _ HZ.out.op).mono ?_);rintro e w9 ⟨rfl,rfl⟩))
                            | ((with_reducible refine zaa (d:=96) ?_);refine zac (by rfl) 9 _ rfl g1 11 rfl _ (((HO.out.row (i:=0) rfl).cell 11).trans HU11.out) Tryz.isAgg9 ?_)
                            | (go_at_call 93;((with_reducible refine (zaV z.se true H14.out _ HZ.out.se).mono ?_);rintro e w9 ⟨rfl,rfl⟩))
                            | ((with_reducible refine zaa (d:=102) ?_);refine zac (by rfl) 9 _ rfl g1 11 rfl _ (((HO.out.row (i:=0) rfl).cell 11).trans HU11.out) Tryz.isAgg9 ?_)
                            | ((with_reducible refine zaa (d:=106) ?_);refine zac (by rfl) 3 _ rfl g1 0 rfl _ (((HO.out.row (i:=0) rfl).cell 0).trans HU0.out) Tryz.isAgg3 ?_))
                           go_ret
                           exact ⟨by rw [zaL HV1.out,if_neg H8.out,if_neg (by rw [H9.out];decide),if_neg (by rw [H10.out];decide),if_neg H11.out,if_neg H12.out,if_pos (.inr (.inr H16.out))];rfl,HO.out.bl⟩
                 · obtain ⟨pe, hpe⟩ : ∃ pe, psE (S z.ex) 2000 = pe := ⟨_, rfl⟩
                   have H12:Hid (expB z.ex=false):=Lib.hid (by unfold expB;exact decide_eq_false h12)
                   rw [hpe] at h12
                   have n1:(pe==0)=false:=by simpa using h12
                   have HPS:Hid (∀w,Calls Tryz.prog 92 #[.string (S z.ex),.int .i64 2000] w fun e w'=>e=.returned (.tuple #[.int .i64 pv,.int .i64 pe])∧Below w.heap.size w w'):=Lib.hid (fun w=>by have h1:=zeF (S z.ex) 2000 w (by have:=HZ.out.ex;unfold maxLen;omega);unfold zeH at h1;rw [hpv,hpe] at h1;exact h1)
                   clear hpv hpe
                   go_wp2_with (first
                    | ((with_reducible refine zaa (d:=62) ?_);refine zab rfl 9 _ rfl g1 6 rfl _ (((HO.out.row (i:=0) rfl).cell 6).trans HU6.out) Tryz.isAgg9 ?_)
                    | (go_at_call 88;((with_reducible refine (zay z.na true H9.out _ HZ.out.na).mono ?_);rintro e w9 ⟨rfl,rfl⟩))
                    | ((with_reducible refine zaa (d:=66) ?_);refine zab rfl 9 _ rfl g1 7 rfl _ (((HO.out.row (i:=0) rfl).cell 7).trans HU7.out) Tryz.isAgg9 ?_)
                    | (go_at_call 91;((with_reducible refine (zbr (S z.bi) z.bi rfl true H10.out _ HZ.out.bi).mono ?_);rintro e w9 ⟨rfl,hb⟩);replace HO:=Lib.hid (HO.out.on hb);clear hb)
                    | ((with_reducible refine zaa (d:=70) ?_);refine zab rfl 9 _ rfl g1 8 rfl _ (((HO.out.row (i:=0) rfl).cell 8).trans HU8.out) Tryz.isAgg9 ?_)
                    | ((with_reducible refine zaa (d:=74) ?_);refine zac (by rfl) 9 _ rfl g1 8 rfl _ (((HO.out.row (i:=0) rfl).cell 8).trans HU8.out) Tryz.isAgg9 ?_)
                    | ((with_reducible refine zaa (d:=79) ?_);refine zac (by rfl) 9 _ rfl g1 8 rfl _ (((HO.out.row (i:=0) rfl).cell 8).trans HU8.out) Tryz.isAgg9 ?_)
                    | ((with_reducible refine zaa (d:=84) ?_);refine zab rfl 9 _ rfl g1 9 rfl _ (((HO.out.row (i:=0) rfl).cell 9).trans HU9.out) Tryz.isAgg9 ?_)
                    | (go_at_call 92;((with_reducible refine (HPS.out _).mono ?_);rintro e w9 ⟨rfl,hb⟩);replace HO:=Lib.hid (HO.out.on hb);clear hb))
                   go_ret
                   exact ⟨by rw [zaL HV1.out,if_neg H8.out,if_neg (by rw [H9.out];decide),if_neg (by rw [H10.out];decide),if_neg H11.out,if_pos H12.out];rfl,HO.out.bl⟩
               rw [decide_eq_false s3] at e60
               have H11:Hid (sexB z.sx=false):=Lib.hid (by unfold sexB;exact decide_eq_false (fun h=>h.elim s1 (fun h=>h.elim s2 s3)))
               clear s1 s2 s3
               go_wp2_with (first
                | ((with_reducible refine zaa (d:=62) ?_);refine zab rfl 9 _ rfl g1 6 rfl _ (((HO.out.row (i:=0) rfl).cell 6).trans HU6.out) Tryz.isAgg9 ?_)
                | (go_at_call 88;((with_reducible refine (zay z.na true H9.out _ HZ.out.na).mono ?_);rintro e w9 ⟨rfl,rfl⟩))
                | ((with_reducible refine zaa (d:=66) ?_);refine zab rfl 9 _ rfl g1 7 rfl _ (((HO.out.row (i:=0) rfl).cell 7).trans HU7.out) Tryz.isAgg9 ?_)
                | (go_at_call 91;((with_reducible refine (zbr (S z.bi) z.bi rfl true H10.out _ HZ.out.bi).mono ?_);rintro e w9 ⟨rfl,hb⟩);replace HO:=Lib.hid (HO.out.on hb);clear hb)
                | ((with_reducible refine zaa (d:=70) ?_);refine zab rfl 9 _ rfl g1 8 rfl _ (((HO.out.row (i:=0) rfl).cell 8).trans HU8.out) Tryz.isAgg9 ?_)
                | ((with_reducible refine zaa (d:=74) ?_);refine zac (by rfl) 9 _ rfl g1 8 rfl _ (((HO.out.row (i:=0) rfl).cell 8).trans HU8.out) Tryz.isAgg9 ?_)
                | ((with_reducible refine zaa (d:=79) ?_);refine zac (by rfl) 9 _ rfl g1 8 rfl _ (((HO.out.row (i:=0) rfl).cell 8).trans HU8.out) Tryz.isAgg9 ?_))
               go_ret
               exact ⟨by rw [zaL HV1.out,if_neg H8.out,if_neg (by rw [H9.out];decide),if_neg (by rw [H10.out];decide),if_pos H11.out];rfl,HO.out.bl⟩
end Go.Proofs.YtnlhbknajdpnbaaGreatDoor
