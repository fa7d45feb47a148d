/-
  What is proved here: what the makers' Zone gives: a valid zone that a machine bears (the walk).
-/
import Derived.Test.YtnlhbknajdpnbaaGreatDoorF30
import Derived.Test.YtnlhbknajdpnbaaGreatDoorF25
import Derived.Test.YtnlhbknajdpnbaaGreatDoorF29
import Derived.Test.YtnlhbknajdpnbaaGreatDoorF26
import Derived.Test.YtnlhbknajdpnbaaGreatDoorF28
import Derived.Test.YtnlhbknajdpnbaaGreatDoorF10
import Derived.Test.YtnlhbknajdpnbaaGreatDoorF12
import Derived.Laws.StructEq
import Derived.Deep.CutRange
import Derived.Deep.RegionWith
set_option linter.unusedVariables false
set_option linter.unusedSimpArgs false
namespace Go.Proofs.YtnlhbknajdpnbaaGreatDoor
open Go.RowKit Go.Maps Go.Deep
def ZoneIs (w:World) (D:Nat) (e:Ending) (w':World):Prop:=∃z:Zn,e=.returned (.agg (zV z).toArray)∧zaY z=0∧Bears z∧w.grownBy w' (some D)∧DiceOk w' D
set_option maxHeartbeats 6400000 in
set_option maxRecDepth 40000 in
theorem dice_zone (D : Nat) (w : World) (h : DiceOk w D) : Calls Tryz.prog 16 #[.pointer (some ⟨D, 0, none⟩)] w (ZoneIs w D) := by
 have hDw:=h.lt
 have HD:=Lib.hid h
 clear h
 go_enter Tryz.func16,Tryz.ntmps16
 go_wp2_with ((with_reducible refine zaG (d:=2) ?_);refine zam (op:=⟨some 2,_,_,_,_,_⟩) rfl 46 rfl zon0 info_z ?_;intro g2 w1 hf2 hr2)
 refine (zbx D 3 3 w1 rfl (by decide) (by decide) (HD.out.below hf2.bw)).mono ?_
 rintro e w2 ⟨r,hr,rfl,hg,hd⟩
 have HA:=Lib.hid (show _∧_∧_∧_∧_ from ⟨HD.out,hf2,hr2,hg,hd⟩)
 clear HD hf2 hr2 hg hd
 go_wp2_with (first
  | ((with_reducible refine zaG (d:=3) ?_);refine zam (op:=⟨some 3,_,_,_,_,_⟩) rfl 46 rfl zon0 info_z ?_;intro g3 w3 hf3 hr3;have H3:=Lib.hid (And.intro hf3 hr3);clear hf3 hr3)
  | ((with_reducible refine zak (i:=3) ?_);refine zan rfl 46 (.tmp 3) (.tmp 11) rfl g3 zon0 (zV { Zn.zero with fm:=1+(r:Int) }) rfl rfl H3.out.2 rfl (zV_one _) zeW ?_;intro w4 hw hr4;have HK:=Lib.hid (Mk2.start HA.out.1 HA.out.2.1 HA.out.2.2.1 HA.out.2.2.2.1 HA.out.2.2.2.2 H3.out.1 hw hr4);clear hw hr4 H3 HA))
 obtain ⟨f,hf⟩ : ∃f:Int,1+(r:Int)=f:=⟨_,rfl⟩
 have hf1:1≤f∧f≤3:=by omega
 have HK2:Hid (Mk2 w D w4 g2 g3 [.int .i64 f,.string ⟨#[]⟩,.string ⟨#[]⟩,.string ⟨#[]⟩,.string ⟨#[]⟩,.string ⟨#[]⟩,.string ⟨#[]⟩,.string ⟨#[]⟩,.string ⟨#[]⟩,.string ⟨#[]⟩,.string ⟨#[]⟩,.string ⟨#[]⟩]):=Lib.hid (by have:=HK.out;rw [hf] at this;exact this)
 clear HK hf hr
 have HK:=HK2
 clear HK2
 go_wp2_with fail
 refine (zbx D 4 4 _ rfl (by decide) (by decide) ((HK.out.alloc _).dk)).mono ?_
 rintro e wp1 ⟨j1,hj,rfl,hg,hd⟩
 obtain ⟨hk,c1⟩:=HK.out.pick (l:=kindsL) hg hd hj
 obtain ⟨kd,hx⟩ : ∃x,kindsL.getD j1 []=x:=⟨_,rfl⟩
 rw [hx] at c1
 have Hkd:=Lib.hid (show zbw kd 2=true from hx ▸ kinds_ok j1 hj)
 clear HK
 have HK:=Lib.hid hk
 have jj1:(j1:Int) < 4:=by omega
 clear hk hg hd hx
 go_wp2_with ((with_reducible refine zak (i:=17) ?_);refine zaj rfl 9 (.tmp 17) (.tmp 16) rfl g3 1 _ (.string (S kd)) rfl rfl HK.out.r3 (by simp) rfl rfl zci ?_;intro wa1 hw hr;have HK2:=Lib.hid (HK.out.put (us':=[.int .i64 f,.string (S kd),.string ⟨#[]⟩,.string ⟨#[]⟩,.string ⟨#[]⟩,.string ⟨#[]⟩,.string ⟨#[]⟩,.string ⟨#[]⟩,.string ⟨#[]⟩,.string ⟨#[]⟩,.string ⟨#[]⟩,.string ⟨#[]⟩]) hw hr);clear hw hr HK;have HK:=HK2;clear HK2)
 refine (zbx D 4 4 _ rfl (by decide) (by decide) ((HK.out.alloc _).dk)).mono ?_
 rintro e wp2 ⟨j2,hj,rfl,hg,hd⟩
 obtain ⟨hk,c2⟩:=HK.out.pick (l:=zeJ) hg hd hj
 obtain ⟨st,hx⟩ : ∃x,zeJ.getD j2 []=x:=⟨_,rfl⟩
 rw [hx] at c2
 have Hst:=Lib.hid (show zbw st 3=true from hx ▸ states_ok j2 hj)
 clear HK
 have HK:=Lib.hid hk
 have jj2:(j2:Int) < 4:=by omega
 clear hk hg hd hx
 go_wp2_with ((with_reducible refine zak (i:=23) ?_);refine zaj rfl 9 (.tmp 23) (.tmp 22) rfl g3 2 _ (.string (S st)) rfl rfl HK.out.r3 (by simp) rfl rfl zci ?_;intro wa2 hw hr;have HK2:=Lib.hid (HK.out.put (us':=[.int .i64 f,.string (S kd),.string (S st),.string ⟨#[]⟩,.string ⟨#[]⟩,.string ⟨#[]⟩,.string ⟨#[]⟩,.string ⟨#[]⟩,.string ⟨#[]⟩,.string ⟨#[]⟩,.string ⟨#[]⟩,.string ⟨#[]⟩]) hw hr);clear hw hr HK;have HK:=HK2;clear HK2)
 refine (zbx D 4 4 _ rfl (by decide) (by decide) ((HK.out.alloc _).dk)).mono ?_
 rintro e wp3 ⟨j3,hj,rfl,hg,hd⟩
 obtain ⟨hk,c3⟩:=HK.out.pick (l:=zeJ) hg hd hj
 obtain ⟨na,hx⟩ : ∃x,zeJ.getD j3 []=x:=⟨_,rfl⟩
 rw [hx] at c3
 have Hna:=Lib.hid (show zbw na 3=true from hx ▸ states_ok j3 hj)
 clear HK
 have HK:=Lib.hid hk
 have jj3:(j3:Int) < 4:=by omega
 clear hk hg hd hx
 go_wp2_with ((with_reducible refine zak (i:=29) ?_);refine zaj rfl 9 (.tmp 29) (.tmp 28) rfl g3 6 _ (.string (S na)) rfl rfl HK.out.r3 (by simp) rfl rfl zci ?_;intro wa3 hw hr;have HK2:=Lib.hid (HK.out.put (us':=[.int .i64 f,.string (S kd),.string (S st),.string ⟨#[]⟩,.string ⟨#[]⟩,.string ⟨#[]⟩,.string (S na),.string ⟨#[]⟩,.string ⟨#[]⟩,.string ⟨#[]⟩,.string ⟨#[]⟩,.string ⟨#[]⟩]) hw hr);clear hw hr HK;have HK:=HK2;clear HK2)
 refine (zfW D 2 2 _ rfl (by decide) HK.out.dk).mono ?_
 rintro e wn1 ⟨su,rfl,hn,hl,hg,hd⟩
 have HSU:=Lib.hid (And.intro hn hl)
 have HK2:=Lib.hid (HK.out.dice hg hd)
 clear HK hn hl hg hd
 have HK:=HK2
 clear HK2
 go_wp2_with fail
 refine (zfW D 3 3 _ rfl (by decide) HK.out.dk).mono ?_
 rintro e wn2 ⟨gi,rfl,hn,hl,hg,hd⟩
 have HGI:=Lib.hid (And.intro hn hl)
 have HK2:=Lib.hid (HK.out.dice hg hd)
 clear HK hn hl hg hd
 have HK:=HK2
 clear HK2
 obtain ⟨SU,hSU⟩ : ∃X,S su=X:=⟨_,rfl⟩
 rw [hSU]
 have HU:=Lib.hid hSU
 clear hSU
 go_upto_if 38 with (first
  | ((with_reducible refine zak (i:=34) ?_);refine zaj rfl 9 (.tmp 34) (.tmp 31) rfl g3 3 _ (.string SU) rfl rfl HK.out.r3 (by simp) rfl rfl zci ?_;intro wb1 hw hr;have HK2:=Lib.hid (HK.out.put (us':=[.int .i64 f,.string (S kd),.string (S st),.string SU,.string ⟨#[]⟩,.string ⟨#[]⟩,.string (S na),.string ⟨#[]⟩,.string ⟨#[]⟩,.string ⟨#[]⟩,.string ⟨#[]⟩,.string ⟨#[]⟩]) hw hr);clear hw hr HK;have HK:=HK2;clear HK2)
  | ((with_reducible refine zak (i:=35) ?_);refine zaj rfl 9 (.tmp 35) (.tmp 33) rfl g3 4 _ (.string (S gi)) rfl rfl HK.out.r3 (by simp) rfl rfl zci ?_;intro wb2 hw hr;have HK2:=Lib.hid (HK.out.put (us':=[.int .i64 f,.string (S kd),.string (S st),.string SU,.string (S gi),.string ⟨#[]⟩,.string (S na),.string ⟨#[]⟩,.string ⟨#[]⟩,.string ⟨#[]⟩,.string ⟨#[]⟩,.string ⟨#[]⟩]) hw hr);clear hw hr HK;have HK:=HK2;clear HK2;have c3:wb2.cell? ⟨g3,3,none⟩=some (.string SU):=HK.out.r3.cell 3))
 go_cut [] (fun wx=>∃su2:List UInt8,Hid (su2≠[]∧zaO su2=true∧su2.length≤33)∧Hid (Mk2 w D wx g2 g3 [.int .i64 f,.string (S kd),.string (S st),.string (S su2),.string (S gi),.string ⟨#[]⟩,.string (S na),.string ⟨#[]⟩,.string ⟨#[]⟩,.string ⟨#[]⟩,.string ⟨#[]⟩,.string ⟨#[]⟩]))
 case first =>
  by_cases h0:su=[]
  · rw [zfE HU.out.symm h0]
    clear h0
    go_wp2_with ((with_reducible refine zak (i:=39) ?_);refine zaj rfl 9 (.tmp 39) (.const (.string ⟨#[79,75]⟩)) rfl g3 3 _ (.string (S [79,75])) rfl rfl HK.out.r3 (by simp) rfl rfl zci ?_;intro wb3 hw hr;have HK2:=Lib.hid (HK.out.put (us':=[.int .i64 f,.string (S kd),.string (S st),.string (S [79,75]),.string (S gi),.string ⟨#[]⟩,.string (S na),.string ⟨#[]⟩,.string ⟨#[]⟩,.string ⟨#[]⟩,.string ⟨#[]⟩,.string ⟨#[]⟩]) hw hr);clear hw hr HK;have HK:=HK2;clear HK2)
    go_meet
    exact ⟨[79,75],Lib.hid ⟨by decide,by decide,by decide⟩,HK⟩
  · rw [s_ne HU.out.symm h0]
    have HX:=Lib.hid h0
    clear h0
    go_wp2_with fail
    go_meet
    exact ⟨su,Lib.hid ⟨HX.out,HSU.out.1,by have:=HSU.out.2;omega⟩,by rw [HU.out];exact HK⟩
 case rest =>
  clear HK HU HSU c3
  obtain ⟨su2,HSU,HK⟩:=hcut
  go_upto_region 9 with fail
  go_cut [46] (fun v46 wx=>∃q:Bool,v46=.bool q∧Hid (q=true→f=2)∧Hid (Mk2 w D wx g2 g3 [.int .i64 f,.string (S kd),.string (S st),.string (S su2),.string (S gi),.string ⟨#[]⟩,.string (S na),.string ⟨#[]⟩,.string ⟨#[]⟩,.string ⟨#[]⟩,.string ⟨#[]⟩,.string ⟨#[]⟩]))
  case first =>
   have c0:World.cell? _ ⟨g3,0,none⟩=some (.int .i64 f):=HK.out.r3.cell 0
   by_cases h2:f=2
   · have hb : (f == 2) = true := by simp; omega
     go_wp2_with (go_at_call 41;(with_reducible refine (zcN D 3 3 _ rfl (by decide) (by decide) HK.out.dk).mono ?_);rintro e wo ⟨q,rfl,hg,hd⟩;have HK2:=Lib.hid (HK.out.dice hg hd);clear HK hg hd;have HK:=HK2;clear HK2)
     go_meet
     exact ⟨q,rfl,Lib.hid (fun _=>h2),HK⟩
   · have hb : (f == 2) = false := by simp; omega
     go_wp2_with fail
     go_meet
     exact ⟨false,rfl,Lib.hid (fun h=>by cases h),HK⟩
  case rest =>
   clear HK
   obtain ⟨q46,rfl,hq46,HK⟩:=hcut
   go_upto_if 46 with fail
   go_cut [4] (fun v4 wx=>∃m:Nat,v4=.int .i64 (m:Int)∧(m=9∨(m=14∧f=2))∧Hid (Mk2 w D wx g2 g3 [.int .i64 f,.string (S kd),.string (S st),.string (S su2),.string (S gi),.string ⟨#[]⟩,.string (S na),.string ⟨#[]⟩,.string ⟨#[]⟩,.string ⟨#[]⟩,.string ⟨#[]⟩,.string ⟨#[]⟩]))
   case first =>
    rcases q46 with _ | _
    · go_wp2_with fail
      go_meet
      exact ⟨9,rfl,.inl rfl,HK⟩
    · go_wp2_with fail
      go_meet
      exact ⟨14,rfl,.inr ⟨rfl,hq46.out (by simp)⟩,HK⟩
   case rest =>
    clear HK hq46
    obtain ⟨m,rfl,hm,HK⟩:=hcut
    go_upto_region 11 with fail
    go_cut [53] (fun v53 wx=>∃q:Bool,v53=.bool q∧Hid (q=true→f=1)∧Hid (Mk2 w D wx g2 g3 [.int .i64 f,.string (S kd),.string (S st),.string (S su2),.string (S gi),.string ⟨#[]⟩,.string (S na),.string ⟨#[]⟩,.string ⟨#[]⟩,.string ⟨#[]⟩,.string ⟨#[]⟩,.string ⟨#[]⟩]))
    case first =>
     have c0:World.cell? _ ⟨g3,0,none⟩=some (.int .i64 f):=HK.out.r3.cell 0
     by_cases h2:f=1
     · have hb : (f == 1) = true := by simp; omega
       go_wp2_with (go_at_call 41;(with_reducible refine (zcN D 3 3 _ rfl (by decide) (by decide) HK.out.dk).mono ?_);rintro e wo ⟨q,rfl,hg,hd⟩;have HK2:=Lib.hid (HK.out.dice hg hd);clear HK hg hd;have HK:=HK2;clear HK2)
       go_meet
       exact ⟨q,rfl,Lib.hid (fun _=>h2),HK⟩
     · have hb : (f == 1) = false := by simp; omega
       go_wp2_with fail
       go_meet
       exact ⟨false,rfl,Lib.hid (fun h=>by cases h),HK⟩
    case rest =>
     clear HK
     obtain ⟨q53,rfl,hq53,HK⟩:=hcut
     go_upto_if 53 with fail
     go_cut [4] (fun v4 wx=>∃m:Nat,v4=.int .i64 (m:Int)∧(m=9∨(m=14∧f=2)∨(m=20∧f=1))∧Hid (Mk2 w D wx g2 g3 [.int .i64 f,.string (S kd),.string (S st),.string (S su2),.string (S gi),.string ⟨#[]⟩,.string (S na),.string ⟨#[]⟩,.string ⟨#[]⟩,.string ⟨#[]⟩,.string ⟨#[]⟩,.string ⟨#[]⟩]))
     case first =>
      rcases q53 with _ | _
      · go_wp2_with fail
        go_meet
        exact ⟨m,rfl,by omega,HK⟩
      · go_wp2_with fail
        go_meet
        exact ⟨20,rfl,.inr (.inr ⟨rfl,hq53.out (by simp)⟩),HK⟩
     case rest =>
      clear HK hq53 hm
      obtain ⟨m,rfl,hm,HK⟩:=hcut
      have hm2:1≤m∧m≤20:=by omega
      go_wp2_with fail
      refine (zdk D m _ _ rfl hm2.1 (by omega) HK.out.dk).mono ?_
      rintro e ws ⟨nu,rfl,n1,n2,n3,hg,hd⟩
      have HNU:=Lib.hid n3
      have HK2:=Lib.hid (HK.out.dice hg hd)
      clear HK n3 hg hd
      have HK:=HK2
      clear HK2
      obtain ⟨NU,hNU⟩ : ∃X,S nu=X:=⟨_,rfl⟩
      have sNU:NU.size=nu.length:=by rw [←hNU,zao]
      have hs1:1≤NU.size∧NU.size≤m:=by omega
      rw [hNU]
      have HNS:=Lib.hid (And.intro hNU sNU)
      clear hNU sNU
      go_wp2_with ((with_reducible refine zak (i:=57) ?_);refine zaj rfl 9 (.tmp 57) (.tmp 56) rfl g3 5 _ (.string NU) rfl rfl HK.out.r3 (by simp) rfl rfl zci ?_;intro wb5 hw hr;have HK2:=Lib.hid (HK.out.put (us':=[.int .i64 f,.string (S kd),.string (S st),.string (S su2),.string (S gi),.string NU,.string (S na),.string ⟨#[]⟩,.string ⟨#[]⟩,.string ⟨#[]⟩,.string ⟨#[]⟩,.string ⟨#[]⟩]) hw hr);clear hw hr HK;have HK:=HK2;clear HK2)
      refine (dice_day D _ HK.out.dk).mono ?_
      rintro e wd ⟨n,hn,rfl,hg,hd⟩
      have HK2:=Lib.hid (HK.out.dice hg hd)
      clear HK hg hd
      have HK:=HK2
      clear HK2
      go_wp2_with fail
      refine (r_format (n:Int) _).mono ?_
      rintro e wf ⟨rfl,hb⟩
      have HK2:=Lib.hid (HK.out.bl hb)
      clear HK hb
      have HK:=HK2
      clear HK2
      have HBI:=Lib.hid (day_text hn)
      obtain ⟨bi,hbi⟩ : ∃b,fL (n:Int)=b:=⟨_,rfl⟩
      obtain ⟨pe,hpe⟩ : ∃b,pE (n:Int)=b:=⟨_,rfl⟩
      rw [hbi] at HBI
      rw [hbi,hpe]
      clear hbi hpe
      go_wp2_with ((with_reducible refine zak (i:=65) ?_);refine zaj rfl 9 (.tmp 65) (.tmp 64) rfl g3 7 _ (.string (S bi)) rfl rfl HK.out.r3 (by simp) rfl rfl zci ?_;intro wb6 hw hr;have HK2:=Lib.hid (HK.out.put (us':=[.int .i64 f,.string (S kd),.string (S st),.string (S su2),.string (S gi),.string NU,.string (S na),.string (S bi),.string ⟨#[]⟩,.string ⟨#[]⟩,.string ⟨#[]⟩,.string ⟨#[]⟩]) hw hr);clear hw hr HK;have HK:=HK2;clear HK2)
      refine (zcN D 5 5 _ rfl (by decide) (by decide) HK.out.dk).mono ?_
      rintro e wo ⟨q67,rfl,hg,hd⟩
      have HK2:=Lib.hid (HK.out.dice hg hd)
      clear HK hg hd
      have HK:=HK2
      clear HK2
      go_upto_if 67 with fail
      go_cut [] (fun wx=>∃b:List UInt8,Hid (zbO b=true)∧Hid (Mk2 w D wx g2 g3 [.int .i64 f,.string (S kd),.string (S st),.string (S su2),.string (S gi),.string NU,.string (S na),.string (S b),.string ⟨#[]⟩,.string ⟨#[]⟩,.string ⟨#[]⟩,.string ⟨#[]⟩]))
      case first =>
       rcases q67 with _ | _
       · go_wp2_with fail
         go_meet
         exact ⟨bi,Lib.hid HBI.out.1,HK⟩
       · go_wp2_with fail
         refine (zbx D 5 5 _ rfl (by decide) (by decide) ((HK.out.alloc _).dk)).mono ?_
         rintro e wp ⟨j,hj,rfl,hg,hd⟩
         obtain ⟨hk,c⟩:=HK.out.pick (l:=birthsL) hg hd hj
         obtain ⟨b2,hx⟩ : ∃x,birthsL.getD j []=x:=⟨_,rfl⟩
         rw [hx] at c
         have Hb2:=Lib.hid (show zbO b2=true from hx ▸ births_ok j hj)
         clear HK
         have HK:=Lib.hid hk
         have jj:(j:Int) < 5:=by omega
         clear hk hg hd hx
         go_wp2_with ((with_reducible refine zak (i:=73) ?_);refine zaj rfl 9 (.tmp 73) (.tmp 72) rfl g3 7 _ (.string (S b2)) rfl rfl HK.out.r3 (by simp) rfl rfl zci ?_;intro wb7 hw hr;have HK2:=Lib.hid (HK.out.put (us':=[.int .i64 f,.string (S kd),.string (S st),.string (S su2),.string (S gi),.string NU,.string (S na),.string (S b2),.string ⟨#[]⟩,.string ⟨#[]⟩,.string ⟨#[]⟩,.string ⟨#[]⟩]) hw hr);clear hw hr HK;have HK:=HK2;clear HK2)
         go_meet
         exact ⟨b2,Hb2,HK⟩
      case rest =>
       clear HK HBI
       obtain ⟨bi,HBI,HK⟩:=hcut
       go_wp2_with fail
       refine (zbx D 3 3 _ rfl (by decide) (by decide) ((HK.out.alloc _).dk)).mono ?_
       rintro e wp ⟨j,hj,rfl,hg,hd⟩
       obtain ⟨hk,c⟩:=HK.out.pick (l:=sexesL) hg hd hj
       obtain ⟨sx,hx⟩ : ∃x,sexesL.getD j []=x:=⟨_,rfl⟩
       rw [hx] at c
       have Hsx:=Lib.hid (show sexB sx=true from hx ▸ sexes_ok j hj)
       clear HK
       have HK:=Lib.hid hk
       have jj:(j:Int) < 3:=by omega
       clear hk hg hd hx
       go_wp2_with ((with_reducible refine zak (i:=79) ?_);refine zaj rfl 9 (.tmp 79) (.tmp 78) rfl g3 8 _ (.string (S sx)) rfl rfl HK.out.r3 (by simp) rfl rfl zci ?_;intro wb8 hw hr;have HK2:=Lib.hid (HK.out.put (us':=[.int .i64 f,.string (S kd),.string (S st),.string (S su2),.string (S gi),.string NU,.string (S na),.string (S bi),.string (S sx),.string ⟨#[]⟩,.string ⟨#[]⟩,.string ⟨#[]⟩]) hw hr);clear hw hr HK;have HK:=HK2;clear HK2)
       refine (zbx D 36000 36000 _ rfl (by decide) (by decide) HK.out.dk).mono ?_
       rintro e wx1 ⟨n,hn,rfl,hg,hd⟩
       have HK2:=Lib.hid (HK.out.dice hg hd)
       clear HK hg hd
       have HK:=HK2
       clear HK2
       go_wp2_with fail
       refine (r_format (36524+(n:Int)) _).mono ?_
       rintro e wf ⟨rfl,hb⟩
       have HK2:=Lib.hid (HK.out.bl hb)
       clear HK hb
       have HK:=HK2
       clear HK2
       have HEX:=Lib.hid (exp_text hn)
       obtain ⟨ex,hex⟩ : ∃b,fL (36524+(n:Int))=b:=⟨_,rfl⟩
       obtain ⟨pe,hpe⟩ : ∃b,pE (36524+(n:Int))=b:=⟨_,rfl⟩
       rw [hex] at HEX
       rw [hex,hpe]
       clear hex hpe
       have ixo:=ix_opt hf1
       obtain ⟨ro,hro⟩ : ∃r,optN f=r:=⟨_,rfl⟩
       rw [hro] at ixo
       go_upto_if 95 with ((with_reducible refine zak (i:=87) ?_);refine zaj rfl 9 (.tmp 87) (.tmp 85) rfl g3 9 _ (.string (S ex)) rfl rfl HK.out.r3 (by simp) rfl rfl zci ?_;intro wb9 hw hr;have HK2:=Lib.hid (HK.out.put (us':=[.int .i64 f,.string (S kd),.string (S st),.string (S su2),.string (S gi),.string NU,.string (S na),.string (S bi),.string (S sx),.string (S ex),.string ⟨#[]⟩,.string ⟨#[]⟩]) hw hr);clear hw hr HK;have HK:=HK2;clear HK2;have c0:wb9.cell? ⟨g3,0,none⟩=some (.int .i64 f):=HK.out.r3.cell 0;have c5:wb9.cell? ⟨g3,5,none⟩=some (.string NU):=HK.out.r3.cell 5)
       have hro2:ro=15∧f=1∨ro=7∧f=2∨ro=14∧f=3:=by rw [←hro];exact opt_cases hf1
       go_cut [7] (fun v7 wx=>∃R:Nat,v7=.int .i64 (R:Int)∧R≤15∧(R+(if 9 < nu.length then nu.length - 7 else 0)=ro)∧Hid (Mk2 w D wx g2 g3 [.int .i64 f,.string (S kd),.string (S st),.string (S su2),.string (S gi),.string NU,.string (S na),.string (S bi),.string (S sx),.string (S ex),.string ⟨#[]⟩,.string ⟨#[]⟩]))
       case first =>
        by_cases h9:9 < NU.size
        · have hb : decide ((9 : Int) < (NU.size : Int)) = true := by simp; omega
          go_wp2_with fail
          go_meet
          exact ⟨ro - (NU.size - 7),by go_num,by omega,by have:=HNS.out.2;rw [if_pos (by omega)];omega,HK⟩
        · have hb : decide ((9 : Int) < (NU.size : Int)) = false := by simp; omega
          go_wp2_with fail
          go_meet
          exact ⟨ro,rfl,by omega,by have:=HNS.out.2;rw [if_neg (by omega)];omega,HK⟩
       case rest =>
        clear HK c0 c5 ixo
        obtain ⟨R,rfl,hR,hR2,HK⟩:=hcut
        have HR:=Lib.hid (And.intro hR2 hro)
        clear hR2 hro2 hro
        go_upto_region 23 with fail
        go_cut [107] (fun v107 wx=>∃q:Bool,v107=.bool q∧Hid (q=true→0 < R)∧Hid (Mk2 w D wx g2 g3 [.int .i64 f,.string (S kd),.string (S st),.string (S su2),.string (S gi),.string NU,.string (S na),.string (S bi),.string (S sx),.string (S ex),.string ⟨#[]⟩,.string ⟨#[]⟩]))
        case first =>
         by_cases h2:0 < R
         · have hb : (decide ((0 : Int) < (R : Int))) = true := by simp; omega
           go_wp2_with (go_at_call 41;(with_reducible refine (zcN D 2 2 _ rfl (by decide) (by decide) HK.out.dk).mono ?_);rintro e wo ⟨q,rfl,hg,hd⟩;have HK2:=Lib.hid (HK.out.dice hg hd);clear HK hg hd;have HK:=HK2;clear HK2)
           go_meet
           exact ⟨q,rfl,Lib.hid (fun _=>h2),HK⟩
         · have hb : (decide ((0 : Int) < (R : Int))) = false := by simp; omega
           go_wp2_with fail
           go_meet
           exact ⟨false,rfl,Lib.hid (fun h=>by cases h),HK⟩
        case rest =>
         clear HK
         obtain ⟨q107,rfl,hq107,HK⟩:=hcut
         go_upto_if 107 with fail
         go_cut [] (fun wx=>∃op:List UInt8,Hid (zaN op=true∧op.length≤R)∧Hid (Mk2 w D wx g2 g3 [.int .i64 f,.string (S kd),.string (S st),.string (S su2),.string (S gi),.string NU,.string (S na),.string (S bi),.string (S sx),.string (S ex),.string (S op),.string ⟨#[]⟩]))
         case first =>
          rcases q107 with _ | _
          · go_wp2_with fail
            go_meet
            exact ⟨[],Lib.hid ⟨by decide,by simp⟩,HK⟩
          · go_wp2_with fail
            refine (zdk D R _ _ rfl (hq107.out (by simp)) (by omega) HK.out.dk).mono ?_
            rintro e ws2 ⟨op,rfl,n4,n5,n6,hg,hd⟩
            have HOP:=Lib.hid (show zaN op=true∧op.length≤R from ⟨sgn_extra n6,n5⟩)
            have HK2:=Lib.hid (HK.out.dice hg hd)
            clear HK n4 n5 n6 hg hd
            have HK:=HK2
            clear HK2
            go_wp2_with ((with_reducible refine zak (i:=111) ?_);refine zaj rfl 9 (.tmp 111) (.tmp 110) rfl g3 10 _ (.string (S op)) rfl rfl HK.out.r3 (by simp) rfl rfl zci ?_;intro wb10 hw hr;have HK2:=Lib.hid (HK.out.put (us':=[.int .i64 f,.string (S kd),.string (S st),.string (S su2),.string (S gi),.string NU,.string (S na),.string (S bi),.string (S sx),.string (S ex),.string (S op),.string ⟨#[]⟩]) hw hr);clear hw hr HK;have HK:=HK2;clear HK2)
            go_meet
            exact ⟨op,HOP,HK⟩
         case rest =>
          clear HK hq107
          obtain ⟨op,HOP,HK⟩:=hcut
          go_upto_region 25 with fail
          go_cut [118] (fun v118 wx=>∃q:Bool,v118=.bool q∧Hid (q=true→f=1)∧Hid (Mk2 w D wx g2 g3 [.int .i64 f,.string (S kd),.string (S st),.string (S su2),.string (S gi),.string NU,.string (S na),.string (S bi),.string (S sx),.string (S ex),.string (S op),.string ⟨#[]⟩]))
          case first =>
           have c0:World.cell? _ ⟨g3,0,none⟩=some (.int .i64 f):=HK.out.r3.cell 0
           by_cases h2:f=1
           · have hb : (f == 1) = true := by simp; omega
             go_wp2_with (go_at_call 41;(with_reducible refine (zcN D 3 3 _ rfl (by decide) (by decide) HK.out.dk).mono ?_);rintro e wo ⟨q,rfl,hg,hd⟩;have HK2:=Lib.hid (HK.out.dice hg hd);clear HK hg hd;have HK:=HK2;clear HK2)
             go_meet
             exact ⟨q,rfl,Lib.hid (fun _=>h2),HK⟩
           · have hb : (f == 1) = false := by simp; omega
             go_wp2_with fail
             go_meet
             exact ⟨false,rfl,Lib.hid (fun h=>by cases h),HK⟩
          case rest =>
           clear HK
           obtain ⟨q118,rfl,hq118,HK⟩:=hcut
           go_upto_if 118 with fail
           go_cut [] (fun wx=>∃se:List UInt8,Hid (zaN se=true∧se.length≤11∧(se≠[]→f=1))∧Hid (Mk2 w D wx g2 g3 [.int .i64 f,.string (S kd),.string (S st),.string (S su2),.string (S gi),.string NU,.string (S na),.string (S bi),.string (S sx),.string (S ex),.string (S op),.string (S se)]))
           case first =>
            rcases q118 with _ | _
            · go_wp2_with fail
              go_meet
              exact ⟨[],Lib.hid ⟨by decide,by simp,fun h=>absurd rfl h⟩,HK⟩
            · go_wp2_with fail
              refine (zdk D 11 11 _ rfl (by decide) (by decide) HK.out.dk).mono ?_
              rintro e ws3 ⟨se,rfl,n4,n5,n6,hg,hd⟩
              have HSE:=Lib.hid (show zaN se=true∧se.length≤11∧(se≠[]→f=1) from ⟨sgn_extra n6,n5,fun _=>hq118.out (by simp)⟩)
              have HK2:=Lib.hid (HK.out.dice hg hd)
              clear HK n4 n5 n6 hg hd
              have HK:=HK2
              clear HK2
              go_wp2_with ((with_reducible refine zak (i:=121) ?_);refine zaj rfl 9 (.tmp 121) (.tmp 120) rfl g3 11 _ (.string (S se)) rfl rfl HK.out.r3 (by simp) rfl rfl zci ?_;intro wb11 hw hr;have HK2:=Lib.hid (HK.out.put (us':=[.int .i64 f,.string (S kd),.string (S st),.string (S su2),.string (S gi),.string NU,.string (S na),.string (S bi),.string (S sx),.string (S ex),.string (S op),.string (S se)]) hw hr);clear hw hr HK;have HK:=HK2;clear HK2)
              go_meet
              exact ⟨se,HSE,HK⟩
           case rest =>
            clear HK hq118
            obtain ⟨se,HSE,HK⟩:=hcut
            have HK2:Hid (Mk2 w D _ g2 g3 (zV ⟨f,kd,st,su2,gi,nu,na,bi,sx,ex,op,se⟩)):=Lib.hid (by have h0:=HK.out;have h1:=HNS.out.1;rw [←h1] at h0;exact h0)
            clear HK
            have HK:=HK2
            clear HK2
            have HZ : Hid (zaY ⟨f, kd, st, su2, gi, nu, na, bi, sx, ex, op, se⟩ = 0 ∧ Bears ⟨f, kd, st, su2, gi, nu, na, bi, sx, ex, op, se⟩) := Lib.hid (by
             have hn:=sgn_num HNU.out
             have hl:=HNS.out.2
             have hR2:=HR.out.1
             have hro:=HR.out.2
             have hx:=(zgr (x:=ex) HEX.out.1).1
             have hb:=zfR (x:=bi) HBI.out
             have hsx:=sex_len Hsx.out
             have hmx : m ≤ maxN f := by
              have h:f=1∨f=2∨f=3:=by omega
              rcases h with rfl | rfl | rfl <;> simp [maxN] <;> omega
             have k1:=zbZ Hkd.out
             have k2:=zbZ Hst.out
             have k3:=zbZ Hna.out
             refine ⟨vE_mk hf1 Hkd.out Hst.out ⟨HSU.out.1,HSU.out.2.1⟩ HGI.out.1 ⟨fun e=>absurd n1 (by rw [show nu=[] from e];decide),hn⟩ (Nat.le_trans n2 hmx) Hna.out HBI.out Hsx.out HEX.out.1 HOP.out.1 HSE.out.1 (fun h=>h.2 (HSE.out.2.2 h.1)) ⟨?_,HSE.out.2.1⟩,?_⟩
             · show op.length + (if 9 < nu.length then nu.length - 7 else 0) ≤ optN f
               have:=HOP.out.2
               omega
             · have := HSU.out.2.2
               have:=HGI.out.2
               have:=HOP.out.2
               have:=HSE.out.2.1
               constructor <;> rw [zao] <;> simp only <;> omega)
            clear HR HNS HNU HEX HBI Hsx Hkd Hst Hna HSU HGI HOP HSE
            go_wp2_with (first
             | ((with_reducible refine zaa (d:=122) ?_);refine zaJ rfl 46 (.tmp 3) rfl g3 rfl (zV ⟨f,kd,st,su2,gi,nu,na,bi,sx,ex,op,se⟩) _ HK.out.r3 Tryz.underlying46 rfl zeW ?_)
             | ((with_reducible refine zak (i:=2) ?_);refine zan rfl 46 (.tmp 2) (.tmp 122) rfl g2 zon0 (zV ⟨f,kd,st,su2,gi,nu,na,bi,sx,ex,op,se⟩) rfl rfl HK.out.r2 rfl (zV_one _) zeW ?_;intro wz hw hr;have HF:=Lib.hid (And.intro (HK.out.res hw) hr);clear hw hr HK))
            exact bodyPost_ret (zbA rfl _ _ g2 _ _ rfl HF.out.2 Tryz.underlying46 rfl zeW) rfl ⟨_,rfl,HZ.out.1,HZ.out.2,HF.out.1.1,HF.out.1.2⟩
end Go.Proofs.YtnlhbknajdpnbaaGreatDoor
namespace Go.Proofs.YtnlhbknajdpnbaaGreatDoor
open Go.RowKit Go.Maps
def WAS (ia iz : Nat) (w : World) (L : List (Nat × List Value)) (zs us : List Value) (g : Nat) (S : Nat → Bool) (cur : World) : Prop :=
 Own w cur L∧(S ia=true→S iz=false→Own w cur (L++[(g,zs)]))∧(S iz=true→Own w cur (L++[(g,us)]))
section
variable {w cur cur':World} {ia iz g i:Nat} {zs us:List Value} {L:List (Nat×List Value)} {S:Nat→Bool}
theorem WAS.start (h:Own w cur L):WAS ia iz w L zs us g (fun _=>false) cur:=⟨h,fun h=>(by cases h),fun h=>(by cases h)⟩
theorem WAS.skip (h : WAS ia iz w L zs us g S cur) (hb : Below cur.heap.size cur cur') (h7 : i ≠ ia) (h8 : i ≠ iz) : WAS ia iz w L zs us g (fun j => S j || j == i) cur' := by
 have e7:(S ia || (ia==i))=S ia:=by simp [Ne.symm h7]
 have e8:(S iz || (iz==i))=S iz:=by simp [Ne.symm h8]
 exact ⟨h.1.on hb,fun a b=>(h.2.1 (e7.symm.trans a) (e8.symm.trans b)).on hb,fun a=>(h.2.2 (e8.symm.trans a)).on hb⟩
theorem WAS.made (hne : ia ≠ iz) (h8 : S iz = false) (h : Own w cur (L ++ [(g, zs)])) : WAS ia iz w L zs us g (fun j => S j || j == ia) cur := by
 have e8:(S iz || (iz==ia))=false:=by rw [h8];simp [Ne.symm hne]
 exact ⟨h.pre,fun _ _=>h,fun a=>absurd (e8.symm.trans a) (by decide)⟩
theorem WAS.put (h : Own w cur (L ++ [(g, us)])) : WAS ia iz w L zs us g (fun j => S j || j == iz) cur := by
 have e8:(S iz || (iz==iz))=true:=by simp
 exact ⟨Own.pre (L:=L) h,fun _ b=>absurd (e8.symm.trans b) (by decide),fun _=>h⟩
end
end Go.Proofs.YtnlhbknajdpnbaaGreatDoor
namespace Go.Proofs.YtnlhbknajdpnbaaGreatDoor
open Go.RowKit Go.Maps
section
variable {f:Int} {ls:List (List UInt8)}
end
section
open Go.RowKit
variable {P:Program} {a:Act} {w w':World} {K:Act→World→Prop} {Q:Exit→Act→World→Prop} {o:Oper}
end
theorem add_str (A B : ByteArray) (h : A.size + B.size ≤ 1000000) (x y : Operand) (w : World) : (do eqGuard .add 9 x y (.string A) (.string B); binOp .add 9 (.string A) (.string B)).run Tryz.prog w = .ok (.string (A ++ B)) w := by
 simp [eqGuard,binOp,go_sem];omega
end Go.Proofs.YtnlhbknajdpnbaaGreatDoor
namespace Go.Proofs.YtnlhbknajdpnbaaGreatDoor
open Go.RowKit Go.Maps Go.Deep
theorem build_T {z:Zn} (hz:zaY z=0):zbb z=zgD z:=by unfold zbb;rw [if_pos hz]
end Go.Proofs.YtnlhbknajdpnbaaGreatDoor
namespace Go.Proofs.YtnlhbknajdpnbaaGreatDoor
open Go.RowKit Go.Maps
def StrsM (w w':World) (A:Option Addr) (ls:List (List UInt8)):Prop:=Strs w' A ls∧(ls=[]∨∃g,A=some ⟨g,0,none⟩∧w.heap.size≤g∧RowV w' g (strV ls))
theorem StrsM.up {w v w':World} {A:Option Addr} {ls:List (List UInt8)} (h:StrsM v w' A ls) (hb:w.heap.size≤v.heap.size):StrsM w w' A ls:=⟨h.1,h.2.imp id fun ⟨g,e,h1,h2⟩=>⟨g,e,Nat.le_trans hb h1,h2⟩⟩
end Go.Proofs.YtnlhbknajdpnbaaGreatDoor
namespace Go.Proofs.YtnlhbknajdpnbaaGreatDoor
open Go.RowKit Go.Maps Go.Deep
theorem build_30 {z : Zn} (hz : zaY z = 0) : 2 ≤ (zbb z).length ∧ (zbb z).length ≤ 3 ∧ ∀ i, i < 2 → 30 ≤ ((zbb z).getD i []).length ∧ ((zbb z).getD i []).length ≤ 44 := by
 have h1:=(zeq hz).1
 have hL:=bk_lines hz
 rw [build_T hz]
 have c:2≤cntN z.fm∧cntN z.fm≤3:=by unfold cntN;repeat (first | omega | split)
 have w:30≤widN z.fm∧widN z.fm≤44:=by unfold widN;repeat (first | omega | split)
 exact ⟨by rw [hL.1];omega,by rw [hL.1];omega,fun i hi=>by rw [hL.2 i (by omega)];exact w⟩
end Go.Proofs.YtnlhbknajdpnbaaGreatDoor
namespace Go.Proofs.YtnlhbknajdpnbaaGreatDoor
open Go.RowKit Go.Maps Go.Deep
def LnOk (n:Nat) (ls:List (List UInt8)):Prop:=ls.length=n∧∀i,i < n→30≤(ls.getD i []).length∧(ls.getD i []).length≤44
theorem LnOk.set {n : Nat} {ls : List (List UInt8)} (h : LnOk n ls) {k m : Nat} (hk : k < n) (c : UInt8) : LnOk n (ls.set k ((ls.getD k []).set m c)) := by
 refine ⟨by rw [List.length_set];exact h.1,fun i hi=>?_⟩
 rw [getD_set ls [] _ (by rw [h.1];exact hk)]
 split
 · rw [List.length_set];exact h.2 k hk
 · exact h.2 i hi
theorem lines_ok {z : Zn} (hz : zaY z = 0) : LnOk (zbb z).length (zbb z) := by
 refine ⟨rfl,fun i hi=>?_⟩
 have hL:=bk_lines hz
 have w:30≤widN z.fm∧widN z.fm≤44:=by unfold widN;repeat (first | omega | split)
 rw [build_T hz] at hi ⊢
 rw [hL.2 i (by rw [←hL.1];exact hi)]
 exact w
end Go.Proofs.YtnlhbknajdpnbaaGreatDoor
