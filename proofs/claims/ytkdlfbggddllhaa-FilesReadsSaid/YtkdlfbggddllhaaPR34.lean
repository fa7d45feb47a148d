/-
  What is proved here: the law FilesReads, as a function: whatever numbers and size it is handed.
-/
import Derived.Test.YtkdlfbggddllhaaPR32
import Derived.Test.YtkdlfbggddllhaaPR33
set_option linter.unusedVariables false
set_option linter.unusedSimpArgs false
namespace Go.Proofs.Ytkdlfbggddllhaa
open Go.RowKit
set_option maxRecDepth 8000
set_option maxHeartbeats 12800000 in
theorem zaX (A : Option Addr) (c : Nat) (ls : List Int) (z : Int) (w : World) (hl : ls.length ≤ 140737488351232) (hr : ∀ x ∈ ls, -9223372036854775808 ≤ x ∧ x ≤ 9223372036854775807) (hs : SeesP w (· < w.heap.size) A (ls.map (Value.int .i64))) (lo : -9223372036854775808 ≤ z) (hi : z ≤ 9223372036854775807) :
 Calls Try.prog 7 #[.slice A ls.length c,.int .i64 z] w fun e w'=>e=.returned (.bool true)∧Below w.heap.size w w':=by
 obtain ⟨i0,hi0,hz0,hz1,hz2⟩:=info_parts info_u8b
 have HR:=Lib.hid (made_roll_Bb A c ls w hl hr hs)
 have HL:=Lib.hid (made_light A ls.length c w hl)
 have HMD:=Lib.hid (fun u=>made_mod z 50 lo hi (by decide) (by decide) u)
 obtain ⟨n1,hn1,hn1b⟩ : ∃n:Nat,z % 50=(n:Int)∧n < 50:=⟨(z % 50).toNat,by omega,by omega⟩
 rw [hn1] at HMD
 obtain ⟨n,hn⟩ : ∃n:Nat,1+n1=n:=⟨_,rfl⟩
 have HAD:=Lib.hid (fun x y w=>add17 1 n1 n hn (by omega) x y w)
 have hnb:1≤n∧n≤50:=by omega
 obtain ⟨m,hm⟩ : ∃z,ls.length=z:=⟨_,rfl⟩
 rw [hm] at HR HL ⊢
 obtain ⟨lg,hlg⟩ : ∃z,decide (m≤400)=z:=⟨_,rfl⟩
 rw [hlg] at HL
 clear hl hr hs hm hlg lo hi hn1 hn1b hn
 rcases lg with _ | _
 · clear HAD
   go_enter Try.func7,Try.ntmps7
   go_wp2_with (first
    | (go_at_call 9;((with_reducible refine HL.out.mono ?_);rintro e w1 ⟨rfl,hw1⟩);(have hw2:=hw1.symm;clear hw1;subst hw2))
    | (go_at_call 10;((with_reducible refine (awake17 _).mono ?_);rintro e w2 ⟨rfl,hb⟩);have H2:=Lib.hid hb;clear hb))
   go_ret
   exact ⟨rfl,H2.out⟩
 obtain ⟨D,hD⟩ : ∃z,w.heap.size=z:=⟨_,rfl⟩
 rw [hD] at HR
 have HBR:=Lib.hid (show ∀a b,Below w.heap.size w a→a.grownBy b (some D)→Below w.heap.size w b from fun a b h hg=>below_row h (by rw [hD];exact hg))
 have HBD:=Lib.hid (show ∀b,Below D w b→Below w.heap.size w b from fun b h=>by rw [hD];exact h)
 have HBY:=Lib.hid (show ∀u,DiceOk u D→Calls Try.prog 26 #[.pointer (some ⟨D,0,none⟩),.int .i64 200] u (zaJ u D 200) from fun u h=>dice_bytes_Bb D 200 u (by decide) h)
 clear hD
 go_enter Try.func7,Try.ntmps7
 go_wp2_with (first
  | (go_at_call 9;((with_reducible refine HL.out.mono ?_);rintro e w1 ⟨rfl,hw1⟩);(have hw2:=hw1.symm;clear hw1;subst hw2))
  | (go_at_call 11;((with_reducible refine HR.out.mono ?_);rintro e w2 ⟨rfl,hd,hb⟩);have H2:=Lib.hid (show Below w.heap.size w w2∧DiceOk w2 D from ⟨HBD.out _ hb,hd⟩);clear hb hd)
  | (go_at_call 26;((with_reducible refine (HBY.out _ H2.out.2).mono ?_);rintro e w3 ⟨v,bA,bc,rfl,hv,hn,hc,hsee,hg,hd⟩);have H3:=Lib.hid (show Below w.heap.size w w3∧SeesP w3 (· < w3.heap.size) bA (Us v)∧v.length≤bc∧(bA=none→bc=0)∧v.length≤200 from ⟨HBR.out _ _ H2.out.1 hg,hsee.imp fun b h=>h.2,hc,hn,hv⟩);clear hv hn hc hsee hg hd)
  | ((with_reducible refine zai (d:=25) ?_);go_must (refine zag rfl 60 _ rfl (pe012 rfl rfl rfl) (bldFB bA bc v) ?_))
  | ((with_reducible refine zai (d:=26) ?_);go_must (refine zaD rfl 22 60 1 _ rfl Try.underlying22 (pe1v rfl) (bsFB bA bc v) ?_);intro g4 w4 hf hr;have H4:=Lib.hid (show Below w.heap.size w w4∧SeesW w4 (· < w4.heap.size) (gB g4 bA bc v)∧SeesP w4 (· < w4.heap.size) bA (Us v) from ⟨hf.bl H3.out.1,gB_sees H3.out.2.1 H3.out.2.2.1 H3.out.2.2.2.1 hf hr,(H3.out.2.1.keep fun _ hq=>hf.bw.cell hq).imp fun _ h2=>Nat.lt_of_lt_of_le h2 hf.bw.size⟩);clear hf hr)
  | ((with_reducible refine zai (d:=27) ?_);go_must (refine zag rfl 25 _ rfl (pe1v rfl) (bldGB g4 bA bc v) ?_))
  | ((with_reducible refine zal (d:=7) ?_);refine zaf (op:=⟨some 7,_,_,_,_,_⟩) rfl 25 rfl gwZ info_gwz ?_;intro g5 w5 hf hr;have H5:=Lib.hid (show Below w.heap.size w w5∧RowV w5 g5 gwZ∧w.heap.size≤g5∧Below w4.heap.size w4 w5∧w4.heap.size≤g5 from ⟨hf.bl H4.out.1,hr,hf.ge H4.out.1,hf.bw,by rw [hf.1];exact Nat.le_refl _⟩);clear hf hr)
  | ((with_reducible refine zak (i:=7) ?_);go_must (refine zae rfl 25 (.tmp 7) _ rfl g5 gwZ (gB g4 bA bc v).cs rfl rfl H5.out.2.1 rfl (Gw.cs_one _) zan ?_);intro w6 hw hr;have H6:=Lib.hid (show Below w.heap.size w w6∧Below w4.heap.size w4 w6∧RowV w6 g5 (gB g4 bA bc v).cs from ⟨Wr.bl H5.out.1 hw H5.out.2.2.1,Wr.bl H5.out.2.2.2.1 hw H5.out.2.2.2.2,hr⟩);clear hw hr)
  | (go_at_call 27;((with_reducible refine (HMD.out _).mono ?_);rintro e w7 ⟨rfl,hw1⟩);(have hw2:=hw1.symm;clear hw1;subst hw2))
  | ((with_reducible refine zai (d:=30) ?_);go_must (refine zaC (by rfl) .add 3 _ (.const (.int .i64 1)) (.tmp 29) rfl rfl rfl (HAD.out _ _ _) ?_))
  | ((with_reducible refine zad (d:=32) ?_);go_must (refine zaa rfl 25 (.tmp 7) rfl g5 rfl (gB g4 bA bc v).cs _ H6.out.2.2 Try.underlying25 rfl zan ?_))
  | ((with_reducible refine zai (d:=33) ?_);go_must (refine zag rfl 27 _ rfl (pe2v rfl rfl) (zaK (-1) (-1)) ?_))
  | (go_at_call 28;(have hsh:=gB_short H3.out.2.2.2.2 (H4.out.2.1.on H6.out.2.1));unfold ShB at hsh;((with_reducible refine hsh.mono ?_);clear hsh;rintro e w8 ⟨rfl,h⟩);have H8:=Lib.hid (show Below w.heap.size w w8∧Below w4.heap.size w4 w8∧RowV w8 g5 (gB g4 bA bc v).cs from ⟨zac H6.out.1 h,zac H6.out.2.1 h,H6.out.2.2.on h⟩);clear h)
  | ((with_reducible refine zal (d:=9) ?_);refine zaf (op:=⟨some 9,_,_,_,_,_⟩) rfl 27 rfl (plV 0 0) zau ?_;intro g9 w9 hf hr;have H9:=Lib.hid (show Below w.heap.size w w9∧Below w4.heap.size w4 w9∧RowV w9 g5 (gB g4 bA bc v).cs∧RowV w9 g9 (plV 0 0)∧w.heap.size≤g9∧w4.heap.size≤g9∧g5≠g9 from ⟨hf.bl H8.out.1,hf.bl H8.out.2.1,H8.out.2.2.fresh hf,hr,hf.ge H8.out.1,hf.ge H8.out.2.1,H8.out.2.2.ne hf⟩);clear hf hr)
  | ((with_reducible refine zak (i:=9) ?_);go_must (refine zae rfl 27 (.tmp 9) _ rfl g9 (plV 0 0) (plV (-1) 0) rfl rfl H9.out.2.2.2.1 rfl (zaA _ _) zaj ?_);intro w10 hw hr;have H10:=Lib.hid (show Below w.heap.size w w10∧Below w4.heap.size w4 w10∧RowV w10 g5 (gB g4 bA bc v).cs∧RowV w10 g9 (plV (-1) 0) from ⟨Wr.bl H9.out.1 hw H9.out.2.2.2.2.1,Wr.bl H9.out.2.1 hw H9.out.2.2.2.2.2.1,H9.out.2.2.1.wr hw H9.out.2.2.2.2.2.2,hr⟩);clear hw hr)
  | (go_at_call 10;((with_reducible refine (awake17 _).mono ?_);rintro e w11 ⟨rfl,hb⟩);have H11:=Lib.hid (show Below w.heap.size w w11∧SeesW w11 (· < w11.heap.size) (gB g4 bA bc v)∧SeesP w11 (· < w11.heap.size) bA (Us v)∧RowV w11 g5 (gB g4 bA bc v).cs∧RowV w11 g9 (plV (-1) 0) from ⟨zac H10.out.1 hb,(H4.out.2.1.on H10.out.2.1).on hb,(H4.out.2.2.keep fun _ hq=>(zac H10.out.2.1 hb).cell hq).imp fun _ h2=>Nat.lt_of_lt_of_le h2 (zac H10.out.2.1 hb).size,H10.out.2.2.1.on hb,H10.out.2.2.2.on hb⟩);clear hb))
 have H12:=Lib.hid (RdR.start w11 v)
 go_loopw [11,12] (fun a i wr=>∃k j:Nat,i=.int .i64 (j:Int)∧j≤k∧k≤200∧Hid (RdR w11 v a k wr∧(k < v.length∨k=0))) (fun _ i _=>300 - (intOf i).toNat)
 case atStart=>exact ⟨0,0,rfl,Nat.le_refl _,by decide,Lib.hid ⟨H12.out,.inr rfl⟩⟩
 case round =>
  clear H12
  obtain ⟨k,j,rfl,hj,hk,HK⟩:=hrel
  obtain ⟨B,cB,rfl⟩:=own_len HK.out.1.1
  have d1:decide ((j:Int)≤200)=true:=by simp;omega
  have hvl:=H3.out.2.2.2.2
  have hkv:k≤v.length:=by rcases HK.out.2 with h | h <;> omega
  have HS:=Lib.hid (show SeesW wr (· < wr.heap.size) (gB g4 bA bc v)∧SeesP wr (· < wr.heap.size) bA (Us v)∧RowV wr g5 (gB g4 bA bc v).cs∧RowV wr g9 (plV (-1) 0) from ⟨H11.out.2.1.on HK.out.1.2,(H11.out.2.2.1.keep fun _ hq=>HK.out.1.2.cell hq).imp fun _ h2=>Nat.lt_of_lt_of_le h2 HK.out.1.2.size,H11.out.2.2.2.1.on HK.out.1.2,H11.out.2.2.2.2.on HK.out.1.2⟩)
  have hrd:=fun u (hs:SeesW u (· < u.heap.size) (gB g4 bA bc v))=>gB_read hvl k n hkv hnb.1 (by omega) hs
  unfold RdB at hrd
  obtain ⟨x,hx⟩ : ∃x,(v.drop k).take n=x:=⟨_,rfl⟩
  obtain ⟨m,hm⟩ : ∃m,x.length=m:=⟨_,rfl⟩
  have hml:m=min n (v.length - k):=by rw [←hm,←hx,List.length_take,List.length_drop]
  rw [hx,hm] at hrd
  by_cases hend:v.length≤k+n
  · have hkm : k + m = v.length := by omega
    rw [decide_eq_true hend] at hrd
    have HRD:=Lib.hid hrd
    have HX:=Lib.hid (show x=(v.drop k).take n∧x.length=m∧k+m≤v.length from ⟨hx.symm,hm,by omega⟩)
    have HKM:=Lib.hid hkm
    have hmb:m≤200:=by omega
    clear hrd hx hm hml hvl hkv hend hkm
    go_wp2_with (first
     | ((with_reducible refine zad (d:=48) ?_);go_must (refine zaa rfl 25 (.tmp 7) rfl g5 rfl (gB g4 bA bc v).cs _ HS.out.2.2.1 Try.underlying25 rfl zan ?_))
     | ((with_reducible refine zad (d:=49) ?_);go_must (refine zaa rfl 27 (.tmp 9) rfl g9 rfl (plV (-1) 0) _ HS.out.2.2.2 Try.underlying27 rfl zaj ?_))
     | ((with_reducible refine zai (d:=50) ?_);go_must (refine zag rfl 29 _ rfl pe0 bld_st0 ?_))
     | (go_at_call 20;((with_reducible refine (HRD.out _ HS.out.1).mono ?_);rintro e w12 ⟨A2,c2,rfl,hc,hsee,hb⟩);have H13:=Lib.hid (show (A2=none→c2=0)∧SeesP w12 (newB wr w12) A2 (Us x)∧RdR w11 v (.slice B k cB) k w12∧SeesP w12 (· < w12.heap.size) bA (Us v) from ⟨hc.1,hsee,HK.out.1.on hb,(HS.out.2.1.keep fun _ hq=>hb.cell hq).imp fun _ h2=>Nat.lt_of_lt_of_le h2 hb.size⟩);clear hc hsee hb)
     | (at_builtin;refine app_bytes rfl (.tmp 70) (.tmp 71) 45 rfl w11.heap.size 5 i0 (.int .u8 0) Try.underlying45 hi0 hz0 hz1 hz2 rfl (.slice B k cB) k _ rfl H13.out.2.2.1.1 A2 c2 x _ (by rw [HX.out.2.1];rfl) H13.out.1 H13.out.2.1 (by unfold maxLen;rw [HX.out.2.1];omega) (by rw [HX.out.2.1];omega) H13.out.2.2.1.2.size ?_;rw [HX.out.2.1];intro v3 w13 ho hg;have H14:=Lib.hid (show RdR w11 v v3 (k+m) w13∧Below w11.heap.size w11 w13 from ⟨H13.out.2.2.1.next HX.out.1 HX.out.2.1.symm HX.out.2.2 ho hg,zaY H13.out.2.2.1.2 H13.out.2.2.1.1 hg⟩);clear ho hg;obtain ⟨B3,c3,rfl⟩:=own_len H14.out.1.1)
     | (go_at_call 22;((with_reducible refine (r_same17 B3 bA c3 bc (k+m) v.length (v.take (k+m)) v _ H14.out.1.all ((H11.out.2.2.1.keep fun _ hq=>H14.out.2.cell hq).imp fun _ h2=>Nat.lt_of_lt_of_le h2 H14.out.2.size) (by rw [HKM.out,List.take_length]) rfl (by omega)).mono ?_);rintro e w14 ⟨rfl,hb⟩);have H16:=Lib.hid (show Below w.heap.size w w14 from zac (zac H11.out.1 H14.out.2) hb);clear hb))
    go_ret
    have hsb:zax (v.take (k+m)) v=true:=by rw [HKM.out,List.take_length];exact zbd rfl
    exact ⟨by rw [hsb];rfl,H16.out⟩
  · have hkm : m = n := by omega
    rw [decide_eq_false hend] at hrd
    have HRD:=Lib.hid hrd
    have HX:=Lib.hid (show x=(v.drop k).take n∧x.length=m∧k+m≤v.length from ⟨hx.symm,hm,by omega⟩)
    have HKM:=Lib.hid (show k+m < v.length from by omega)
    have hmb:k+m≤200:=by omega
    clear hrd hx hm hml hvl hkv hend
    subst hkm
    go_wp2_with (first
     | ((with_reducible refine zad (d:=48) ?_);go_must (refine zaa rfl 25 (.tmp 7) rfl g5 rfl (gB g4 bA bc v).cs _ HS.out.2.2.1 Try.underlying25 rfl zan ?_))
     | ((with_reducible refine zad (d:=49) ?_);go_must (refine zaa rfl 27 (.tmp 9) rfl g9 rfl (plV (-1) 0) _ HS.out.2.2.2 Try.underlying27 rfl zaj ?_))
     | ((with_reducible refine zai (d:=50) ?_);go_must (refine zag rfl 29 _ rfl pe0 bld_st0 ?_))
     | (go_at_call 20;((with_reducible refine (HRD.out _ HS.out.1).mono ?_);rintro e w12 ⟨A2,c2,rfl,hc,hsee,hb⟩);have H13:=Lib.hid (show (A2=none→c2=0)∧SeesP w12 (newB wr w12) A2 (Us x)∧RdR w11 v (.slice B k cB) k w12∧SeesP w12 (· < w12.heap.size) bA (Us v) from ⟨hc.1,hsee,HK.out.1.on hb,(HS.out.2.1.keep fun _ hq=>hb.cell hq).imp fun _ h2=>Nat.lt_of_lt_of_le h2 hb.size⟩);clear hc hsee hb)
     | (at_builtin;refine app_bytes rfl (.tmp 70) (.tmp 71) 45 rfl w11.heap.size 5 i0 (.int .u8 0) Try.underlying45 hi0 hz0 hz1 hz2 rfl (.slice B k cB) k _ rfl H13.out.2.2.1.1 A2 c2 x _ (by rw [HX.out.2.1];rfl) H13.out.1 H13.out.2.1 (by unfold maxLen;rw [HX.out.2.1];omega) (by rw [HX.out.2.1];omega) H13.out.2.2.1.2.size ?_;rw [HX.out.2.1];intro v3 w13 ho hg;have H14:=Lib.hid (show RdR w11 v v3 (k+m) w13∧Below w11.heap.size w11 w13 from ⟨H13.out.2.2.1.next HX.out.1 HX.out.2.1.symm HX.out.2.2 ho hg,zaY H13.out.2.2.1.2 H13.out.2.2.1.1 hg⟩);clear ho hg))
    go_roundw
    case rel=>exact ⟨k+m,j+1,by go_num,by omega,by omega,Lib.hid ⟨H14.out.1,.inl HKM.out⟩⟩
    case measure=>simp [intOf];omega
end Go.Proofs.Ytkdlfbggddllhaa
