/-
  What is proved here: the files that the makers give: each holds nothing, or one object with the tag of a group, strictly encoded.
-/
import Derived.Test.YtnlhbknajdpnbaaGreatDoorF22
import Derived.Test.YtnlhbknajdpnbaaGreatDoorF32
import Derived.Test.YtnlhbknajdpnbaaGreatDoorF34
import Derived.Test.YtnlhbknajdpnbaaGreatDoorF19
import Derived.Test.YtnlhbknajdpnbaaGreatDoorF31
import Derived.Test.YtnlhbknajdpnbaaGreatDoorF41
import Derived.Test.YtnlhbknajdpnbaaGreatDoorF21
import Derived.Test.YtnlhbknajdpnbaaGreatDoorF7
import Derived.Test.YtnlhbknajdpnbaaGreatDoorF9
import Derived.Deep.RegionWith
import Derived.Deep.Draws
set_option linter.unusedVariables false
set_option linter.unusedSimpArgs false
namespace Go.Proofs.YtnlhbknajdpnbaaGreatDoor
open Go.RowKit
set_option maxRecDepth 8000
def zbn (bs:List UInt8):Prop:=bs=[]∨∃(n:Int) (f:F),gtE n=0∧encE (wrF n f)=0∧bs=enc (wrF n f)
theorem zcL (n : Int) (f : F) : zbn (wrB n f) := by
 unfold wrB
 split
 · unfold encB
   split
   · exact .inr ⟨n,f,by assumption,by assumption,rfl⟩
   · exact .inl rfl
 · exact .inl rfl
theorem fileOk_zn (z : Zn) : zbn (znB z) := by
 unfold znB
 split
 · exact zcL _ _
 · exact .inl rfl
theorem zeK (n : Int) (l : List Tm) : zbn (bioB n l) := by
 unfold bioB
 split
 · exact .inl rfl
 · split
   · split
     · exact zcL _ _
     · exact .inl rfl
   · exact .inl rfl
theorem fileOk_ds (n : Int) (l : List Dtl) : zbn (dsB n l) := by
 unfold dsB
 split
 · exact zcL _ _
 · exact .inl rfl
theorem fileOk_ifs (l : List Im) : zbn (ifsB l) := by
 unfold ifsB
 split
 · exact zcL _ _
 · exact .inl rfl
theorem fileOk_ac (x : Int) : zbn (acB x) := by
 unfold acB
 split
 · exact zcL _ _
 · exact .inl rfl
def FilIs (w:World) (D:Nat) (e:Ending) (w':World):Prop:=∃bs A c,e=.returned (.slice A bs.length c)∧zbn bs∧SeesP w' (newB w w') A (Us bs)∧bs.length≤c∧(A=none→c=0)∧w.grownBy w' (some D)∧DiceOk w' D
theorem FilIs.of {w w1 w2 : World} {D : Nat} {bs : List UInt8} {A : Option Addr} {c : Nat} (hg : w.grownBy w1 (some D)) (hd : DiceOk w1 D) (hf : zbn bs) (h1 : SeesP w2 (newB w1 w2) A (Us bs)) (h2 : Below w1.heap.size w1 w2) (h3 : bs.length ≤ c) (h4 : A = none → c = 0) : FilIs w D (.returned (.slice A bs.length c)) w2 :=
 ⟨bs,A,c,rfl,hf,h1.imp fun b hb=>zaH hb hg.size (Nat.le_refl _),h3,h4,zae hg (zaD h2),hd.below h2⟩
theorem TabG.grown {w w' : World} {D : Nat} (h : TabG w) (hg : w.grownBy w' (some D)) (hD : 1 < D) : TabG w' :=
 ⟨Nat.lt_of_lt_of_le h.1 hg.size,fun k hk=>(zau hg (p:=⟨1,k,none⟩) h.1 (Nat.ne_of_lt hD)).trans (h.2 k hk)⟩
theorem own_dts15 {w0 w : World} {v : Value} {L : List Dtl} (h : w.ownsRow w0.heap.size 88 2 v L.length (Dcs L)) : ∃ A c, v = .slice A L.length c ∧ SeesP w (· < w.heap.size) A (Dcs L) := by
 rcases h.2 with ⟨rfl,h0⟩ | ⟨g,c,cur,rfl,_⟩
 · have e : L = [] := List.eq_nil_of_length_eq_zero h0
   subst e
   exact ⟨none,0,rfl,.inl rfl⟩
 · exact ⟨_,c,rfl,zgL h⟩
set_option maxHeartbeats 6400000 in
set_option maxRecDepth 20000 in
theorem dice_file (D : Nat) (n : Int) (hn : 1 ≤ n ∧ n ≤ 16) (w : World) (h : DiceOk w D) (ht : TabG w) (hgD : 1 < D) : Calls Tryz.prog 7 #[.pointer (some ⟨D, 0, none⟩), .int .i64 n] w (FilIs w D) := by
 have HD:=Lib.hid h
 have HT:=Lib.hid ht
 have HGD:=Lib.hid hgD
 have HN:=Lib.hid hn
 have N30:=Lib.hid (show Calls Tryz.prog 8 #[.pointer (some ⟨D,0,none⟩),.int .i64 1073741824] w (zbj w D 1073741824) from zar D 1073741824 w (by decide) (by decide) h)
 have ND2:=Lib.hid (show Calls Tryz.prog 26 #[.pointer (some ⟨D,0,none⟩),.int .i64 2] w (NodesIs w D 2) from dice_nodes 4 (by decide) D 2 w (by decide) (by decide) h)
 clear h ht hgD hn
 by_cases n1:n=1
 · subst n1
   go_enter Tryz.func7,Tryz.ntmps7
   go_wp2_with (first
    | (go_at_call 16;((with_reducible refine (dice_zone D _ HD.out).mono ?_);rintro e w1 ⟨z,rfl,hv,hbz,hg,hd⟩);generalize hus:zV z=us;obtain ⟨bs,er,hfk,hcl⟩ : ∃bs er,zbn bs∧Calls Tryz.prog 15 #[.agg us.toArray] w1 (zaU w1 bs er):=⟨_,_,fileOk_zn z,r15_zone z us hbz hus w1 (HT.out.grown hg HGD.out)⟩;have HZ:=Lib.hid (show w.grownBy w1 (some D)∧DiceOk w1 D∧zbn bs∧_ from ⟨hg,hd,hfk,hcl⟩);clear hg hd hfk hcl)
    | (go_at_call 15;((with_reducible refine (HZ.out.2.2.2).mono ?_);rintro e w2 ⟨A2,c2,rfl,h1,h2,h3,h4⟩);have HF:=Lib.hid (FilIs.of HZ.out.1 HZ.out.2.1 HZ.out.2.2.1 h1 h2 h3 h4);clear h1 h2 h3 h4))
   go_ret
   exact HF.out
 by_cases n2:n=2
 · subst n2
   go_enter Tryz.func7,Tryz.ntmps7
   go_wp2_with (first
    | (go_at_call 18;((with_reducible refine (zcG D 1 (by decide) _ HD.out).mono ?_);rintro e w1 ⟨v,L,rfl,hl1,hl3,hv,hh,hg,hd⟩);obtain ⟨A1,c1,rfl,hs⟩:=hh.slice;obtain ⟨m,hm⟩ : ∃z,L.length=z:=⟨_,rfl⟩;rw [hm] at hl3;rw [hm];obtain ⟨bs,er,hfk,hcl⟩ : ∃bs er,zbn bs∧Calls Tryz.prog 17 #[.int .i64 2,.slice A1 m c1] w1 (zaU w1 bs er):=⟨_,_,zeK _ _,zcZ 2 (by decide) (by decide) L m hm (by omega) A1 c1 w1 (HT.out.grown hg HGD.out) (hs.imp fun b hb=>hb.2)⟩;have HZ:=Lib.hid (show w.grownBy w1 (some D)∧DiceOk w1 D∧zbn bs∧_ from ⟨hg,hd,hfk,hcl⟩);clear hg hd hfk hcl)
    | (go_at_call 17;((with_reducible refine (HZ.out.2.2.2).mono ?_);rintro e w2 ⟨A2,c2,rfl,h1,h2,h3,h4⟩);have HF:=Lib.hid (FilIs.of HZ.out.1 HZ.out.2.1 HZ.out.2.2.1 h1 h2 h3 h4);clear h1 h2 h3 h4))
   go_ret
   exact HF.out
 by_cases n3:n=3
 · subst n3
   go_enter Tryz.func7,Tryz.ntmps7
   go_wp2_with (first
    | (go_at_call 18;((with_reducible refine (zcG D 2 (by decide) _ HD.out).mono ?_);rintro e w1 ⟨v,L,rfl,hl1,hl3,hv,hh,hg,hd⟩);obtain ⟨A1,c1,rfl,hs⟩:=hh.slice;obtain ⟨m,hm⟩ : ∃z,L.length=z:=⟨_,rfl⟩;rw [hm] at hl3;rw [hm];obtain ⟨bs,er,hfk,hcl⟩ : ∃bs er,zbn bs∧Calls Tryz.prog 17 #[.int .i64 3,.slice A1 m c1] w1 (zaU w1 bs er):=⟨_,_,zeK _ _,zcZ 3 (by decide) (by decide) L m hm (by omega) A1 c1 w1 (HT.out.grown hg HGD.out) (hs.imp fun b hb=>hb.2)⟩;have HZ:=Lib.hid (show w.grownBy w1 (some D)∧DiceOk w1 D∧zbn bs∧_ from ⟨hg,hd,hfk,hcl⟩);clear hg hd hfk hcl)
    | (go_at_call 17;((with_reducible refine (HZ.out.2.2.2).mono ?_);rintro e w2 ⟨A2,c2,rfl,h1,h2,h3,h4⟩);have HF:=Lib.hid (FilIs.of HZ.out.1 HZ.out.2.1 HZ.out.2.2.1 h1 h2 h3 h4);clear h1 h2 h3 h4))
   go_ret
   exact HF.out
 by_cases n4:n=4
 · subst n4
   go_enter Tryz.func7,Tryz.ntmps7
   go_wp2_with (first
    | (go_at_call 18;((with_reducible refine (zcG D 3 (by decide) _ HD.out).mono ?_);rintro e w1 ⟨v,L,rfl,hl1,hl3,hv,hh,hg,hd⟩);obtain ⟨A1,c1,rfl,hs⟩:=hh.slice;obtain ⟨m,hm⟩ : ∃z,L.length=z:=⟨_,rfl⟩;rw [hm] at hl3;rw [hm];obtain ⟨bs,er,hfk,hcl⟩ : ∃bs er,zbn bs∧Calls Tryz.prog 17 #[.int .i64 4,.slice A1 m c1] w1 (zaU w1 bs er):=⟨_,_,zeK _ _,zcZ 4 (by decide) (by decide) L m hm (by omega) A1 c1 w1 (HT.out.grown hg HGD.out) (hs.imp fun b hb=>hb.2)⟩;have HZ:=Lib.hid (show w.grownBy w1 (some D)∧DiceOk w1 D∧zbn bs∧_ from ⟨hg,hd,hfk,hcl⟩);clear hg hd hfk hcl)
    | (go_at_call 17;((with_reducible refine (HZ.out.2.2.2).mono ?_);rintro e w2 ⟨A2,c2,rfl,h1,h2,h3,h4⟩);have HF:=Lib.hid (FilIs.of HZ.out.1 HZ.out.2.1 HZ.out.2.2.1 h1 h2 h3 h4);clear h1 h2 h3 h4))
   go_ret
   exact HF.out
 by_cases n11:n=11
 · subst n11
   go_enter Tryz.func7,Tryz.ntmps7
   go_wp2_with (first
    | (go_at_call 20;((with_reducible refine (zeU D 11 (by decide) _ HD.out).mono ?_);rintro e w1 ⟨v,L,rfl,hl8,hbd,hh,hg,hd⟩);obtain ⟨A1,c1,rfl,hs⟩:=own_dts15 hh;obtain ⟨m,hm⟩ : ∃z,L.length=z:=⟨_,rfl⟩;rw [hm] at hl8;rw [hm];obtain ⟨bs,er,hfk,hcl⟩ : ∃bs er,zbn bs∧Calls Tryz.prog 19 #[.int .i64 11,.slice A1 m c1] w1 (zaU w1 bs er):=⟨_,_,fileOk_ds _ _,r_details 11 L m hm (by omega) A1 c1 w1 (HT.out.grown hg HGD.out) hs (by decide) (by decide)⟩;have HZ:=Lib.hid (show w.grownBy w1 (some D)∧DiceOk w1 D∧zbn bs∧_ from ⟨hg,hd,hfk,hcl⟩);clear hg hd hfk hcl)
    | (go_at_call 19;((with_reducible refine (HZ.out.2.2.2).mono ?_);rintro e w2 ⟨A2,c2,rfl,h1,h2,h3,h4⟩);have HF:=Lib.hid (FilIs.of HZ.out.1 HZ.out.2.1 HZ.out.2.2.1 h1 h2 h3 h4);clear h1 h2 h3 h4))
   go_ret
   exact HF.out
 by_cases n12:n=12
 · subst n12
   go_enter Tryz.func7,Tryz.ntmps7
   go_wp2_with (first
    | (go_at_call 20;((with_reducible refine (zeU D 12 (by decide) _ HD.out).mono ?_);rintro e w1 ⟨v,L,rfl,hl8,hbd,hh,hg,hd⟩);obtain ⟨A1,c1,rfl,hs⟩:=own_dts15 hh;obtain ⟨m,hm⟩ : ∃z,L.length=z:=⟨_,rfl⟩;rw [hm] at hl8;rw [hm];obtain ⟨bs,er,hfk,hcl⟩ : ∃bs er,zbn bs∧Calls Tryz.prog 19 #[.int .i64 12,.slice A1 m c1] w1 (zaU w1 bs er):=⟨_,_,fileOk_ds _ _,r_details 12 L m hm (by omega) A1 c1 w1 (HT.out.grown hg HGD.out) hs (by decide) (by decide)⟩;have HZ:=Lib.hid (show w.grownBy w1 (some D)∧DiceOk w1 D∧zbn bs∧_ from ⟨hg,hd,hfk,hcl⟩);clear hg hd hfk hcl)
    | (go_at_call 19;((with_reducible refine (HZ.out.2.2.2).mono ?_);rintro e w2 ⟨A2,c2,rfl,h1,h2,h3,h4⟩);have HF:=Lib.hid (FilIs.of HZ.out.1 HZ.out.2.1 HZ.out.2.2.1 h1 h2 h3 h4);clear h1 h2 h3 h4))
   go_ret
   exact HF.out
 by_cases n14:n=14
 · subst n14
   go_enter Tryz.func7,Tryz.ntmps7
   go_wp2_with (first
    | (go_at_call 22;((with_reducible refine (dice_infos D _ HD.out).mono ?_);rintro e w1 ⟨v,L,rfl,hv,hl15,hh,hg,hd⟩);obtain ⟨A1,c1,rfl,_,hs⟩:=hh.slice;obtain ⟨m,hm⟩ : ∃z,L.length=z:=⟨_,rfl⟩;rw [hm] at hl15;rw [hm];obtain ⟨bs,er,hfk,hcl⟩ : ∃bs er,zbn bs∧Calls Tryz.prog 21 #[.slice A1 m c1] w1 (zaU w1 bs er):=⟨_,_,fileOk_ifs _,r15_infos L m hm (by omega) A1 c1 w1 (HT.out.grown hg HGD.out) (hs.imp fun b hb=>hb.2)⟩;have HZ:=Lib.hid (show w.grownBy w1 (some D)∧DiceOk w1 D∧zbn bs∧_ from ⟨hg,hd,hfk,hcl⟩);clear hg hd hfk hcl)
    | (go_at_call 21;((with_reducible refine (HZ.out.2.2.2).mono ?_);rintro e w2 ⟨A2,c2,rfl,h1,h2,h3,h4⟩);have HF:=Lib.hid (FilIs.of HZ.out.1 HZ.out.2.1 HZ.out.2.2.1 h1 h2 h3 h4);clear h1 h2 h3 h4))
   go_ret
   exact HF.out
 by_cases n15:n=15
 · subst n15
   go_enter Tryz.func7,Tryz.ntmps7
   go_wp2_with (first
    | (go_at_call 8;((with_reducible refine (N30.out).mono ?_);rintro e w1 ⟨r,hr,rfl,hg,hd⟩);obtain ⟨bs,er,hfk,hcl⟩ : ∃bs er,zbn bs∧Calls Tryz.prog 23 #[.int .i64 (zbE (r:Int))] w1 (zaU w1 bs er):=⟨_,_,fileOk_ac _,r_active (zbE (r:Int)) w1 (HT.out.grown hg HGD.out)⟩;have HZ:=Lib.hid (show w.grownBy w1 (some D)∧DiceOk w1 D∧zbn bs∧_ from ⟨hg,hd,hfk,hcl⟩);clear hg hd hfk hcl;have HPT:=Lib.hid (zfX (r:Int) w1);generalize zbE (r:Int)=pz at HZ HPT)
    | (go_at_call 24;((with_reducible refine HPT.out.mono ?_);rintro e wq ⟨rfl,hw⟩);(have hw2:=hw.symm;clear hw;subst hw2))
    | (go_at_call 23;((with_reducible refine (HZ.out.2.2.2).mono ?_);rintro e w2 ⟨A2,c2,rfl,h1,h2,h3,h4⟩);have HF:=Lib.hid (FilIs.of HZ.out.1 HZ.out.2.1 HZ.out.2.2.1 h1 h2 h3 h4);clear h1 h2 h3 h4))
   go_ret
   exact HF.out
 have b1:(n==1)=false:=by simpa using n1
 have b2:(n==2)=false:=by simpa using n2
 have b3:(n==3)=false:=by simpa using n3
 have b4:(n==4)=false:=by simpa using n4
 have b11:(n==11)=false:=by simpa using n11
 have b12:(n==12)=false:=by simpa using n12
 have b14:(n==14)=false:=by simpa using n14
 have b15:(n==15)=false:=by simpa using n15
 clear n1 n2 n3 n4 n11 n12 n14 n15
 go_enter Tryz.func7,Tryz.ntmps7
 go_wp2_with (first
  | (go_at_call 26;((with_reducible refine (ND2.out).mono ?_);rintro e w1 ⟨f,A1,c1,rfl,hgf,hl3,hs,hg,hd⟩);obtain ⟨m,hm⟩ : ∃z,f.len=z:=⟨_,rfl⟩;rw [hm];obtain ⟨bs,er,hfk,hcl⟩ : ∃bs er,zbn bs∧Calls Tryz.prog 25 #[.int .i64 n,.slice A1 m c1] w1 (zaU w1 bs er):=⟨_,_,zcL _ _,zgG n f m hm A1 c1 w1 (HT.out.grown hg HGD.out) (by have:=HN.out;omega) (by have:=HN.out;omega) (by have hz:=F.gd_size hgf;have hz2:f.len*4 ^ 2≤3*4 ^ 2:=Nat.mul_le_mul_right _ hl3;omega) (F.gd_ok hgf) (F.sm_sq (F.gd_sm hgf)) ((hs.imp fun b hb=>hb.2).small (F.gd_sm hgf))⟩;have HZ:=Lib.hid (show w.grownBy w1 (some D)∧DiceOk w1 D∧zbn bs∧_ from ⟨hg,hd,hfk,hcl⟩);clear hg hd hfk hcl)
  | (go_at_call 25;((with_reducible refine (HZ.out.2.2.2).mono ?_);rintro e w2 ⟨A2,c2,rfl,h1,h2,h3,h4⟩);have HF:=Lib.hid (FilIs.of HZ.out.1 HZ.out.2.1 HZ.out.2.2.1 h1 h2 h3 h4);clear h1 h2 h3 h4))
 go_ret
 exact HF.out
end Go.Proofs.YtnlhbknajdpnbaaGreatDoor
namespace Go.Proofs.YtnlhbknajdpnbaaGreatDoor
open Go.RowKit
set_option maxRecDepth 8000
def LooIsV (w:World) (D:Nat) (f:F) (e:Ending) (w':World):Prop:=∃(b:List UInt8) (A:Option Addr) (c:Nat),e=.returned (.slice A b.length c)∧b.length≤c∧(A=none→c=0)∧SeesP w' (newB w w') A (Us b)∧(b.length≤4096→LooseOf false f b)∧b.length≤f.size*5000∧w.grownBy w' (some D)∧DiceOk w' D
def LRelV (w : World) (D : Nat) (p : Nat → Prop) (cs : List Value) (f : F) (v : Value) (j : Nat) (g : F) (l : List UInt8) (wr : World) : Prop :=
 St2 w D l v wr∧HoldsP w p g (cs.drop (3*j))∧∃df:F,df.app g=f∧(l.length≤4096→LooseOf false df l)∧l.length≤df.size*5000∧df.size+g.size=f.size
theorem LRelV.step {w w2 : World} {D : Nat} {p : Nat → Prop} {cs : List Value} {f : F} {v2 : Value} {j : Nat} {t : Int} {v ck : List UInt8} {kk r : F} {l hd tl L : List UInt8}
 (hh:HoldsP w p r (cs.drop (3*(j+1)))) (hx:∃df:F,df.app (.cons t v kk r)=f∧(l.length≤4096→LooseOf false df l)∧l.length≤df.size*5000∧df.size+(F.cons t v kk r).size=f.size)
 (hL:L=l++tagL t.toNat++hd++(v++ck)++tl) (hst:St2 w D L v2 w2) (hck:ck.length≤4096→LooseOf false kk ck) (hcl:ck.length≤kk.size*5000) (hvl:v.length≤4096) (hhl:hd.length+tl.length≤5)
 (hok:v.length+ck.length≤4096→HdOk false t (v.length+ck.length) hd tl):LRelV w D p cs f v2 (j+1) r L w2:=by
 obtain ⟨df,d1,d2,d3,d4⟩:=hx
 have hlen:L.length=l.length+(tagL t.toNat).length+hd.length+(v.length+ck.length)+tl.length:=by rw [hL];simp only [List.length_append]
 have hT:(tagL t.toNat).length≤2:=by unfold tagL;split <;> simp
 refine ⟨hst,hh,df.app (.cons t v kk .nil),by rw [F.app_assoc];exact d1,fun h=>?_,?_,?_⟩
 · have h1 : LooseOf false (.cons t v kk .nil) (tagL t.toNat ++ (hd ++ (v ++ ck ++ (tl ++ [])))) := ⟨ck, [], hd, tl, hck (by omega), rfl, hok (by omega), rfl⟩
   have h2:=LooseOf.app h1 (d2 (by omega))
   rw [hL]
   simp only [List.append_assoc,List.append_nil] at h2 ⊢
   exact h2
 · rw [F.size_app];simp only [F.size];omega
 · rw [F.size_app];simp only [F.size] at d4 ⊢; omega
theorem LRelV.step2 {w w2 : World} {D : Nat} {p : Nat → Prop} {cs : List Value} {f : F} {v2 : Value} {j T : Nat} {v ck cb : List UInt8} {kk r : F} {l L2 hd tl L : List UInt8}
 (hh:HoldsP w p r (cs.drop (3*(j+1)))) (hx:∃df:F,df.app (.cons (T:Int) v kk r)=f∧(l.length≤4096→LooseOf false df l)∧l.length≤df.size*5000∧df.size+(F.cons (T:Int) v kk r).size=f.size)
 (h2:L2=l++tagL T) (he:cb=v++ck) (hL:L=L2++hd++cb++tl) (hst:St2 w D L v2 w2) (hck:ck.length≤4096→LooseOf false kk ck) (hcl:ck.length≤kk.size*5000) (hvl:v.length≤4096) (hhl:hd.length+tl.length≤5)
 (hok:cb.length≤4096→HdOk false (T:Int) cb.length hd tl):LRelV w D p cs f v2 (j+1) r L w2:=by
 subst he h2
 refine LRelV.step hh hx (hd:=hd) (tl:=tl) ?_ hst hck hcl hvl hhl (fun h=>?_)
 · rw [hL,Int.toNat_natCast]
 · have := hok (by rw [List.length_append]; exact h)
   rwa [List.length_append] at this
def LooAllV (n : Nat) : Prop := ∀ (f : F) (m : Nat) (A : Option Addr) (c D : Nat) (w : World), f.size < n → f.fit m → SeesF w (fun b => b < w.heap.size ∧ b ≠ D) A f → DiceOk w D →
 Calls Tryz.prog 10 #[.pointer (some ⟨D,0,none⟩),.slice A f.len c] w (LooIsV w D f)
set_option maxRecDepth 20000 in
set_option maxHeartbeats 8000000 in
theorem made_looseV (n : Nat) (hn : n ≤ 1000) : LooAllV n := by
 induction n with
 | zero=>intro f m A c D w h;omega
 | succ n ih =>
   intro f m A c D w hsz hgd hs hdo
   obtain ⟨i0,hi,hz0,hz1,hz2⟩:=info_parts zaW
   obtain ⟨cs,s1,k1⟩:=hs
   have hDw:=hdo.lt
   have hlen:=f.len_le_size
   have IH:=Lib.hid (ih (by omega))
   have HS:=Lib.hid (show SeesP w (fun b=>b < w.heap.size∧b≠D) A cs from s1)
   have H0:=Lib.hid (show LRelV w D (fun b=>b < w.heap.size∧b≠D) cs f (.slice none 0 0) 0 f [] w from ⟨⟨⟨rfl,.inl ⟨rfl,rfl⟩⟩,World.grownBy.refl _ _,hdo⟩,k1,.nil,rfl,fun _=>rfl,by simp,by simp [F.size]⟩)
   have HGD:=Lib.hid hgd
   clear ih s1 k1 hdo hgd
   go_enter Tryz.func10,Tryz.ntmps10
   go_wp2_with fail
   go_loopw [5,6] (fun v i wr=>∃(j:Nat) (g:F) (l:List UInt8),j+g.len=f.len∧i=.int .i64 (j:Int)∧g.size≤f.size∧Hid (LRelV w D (fun b=>b < w.heap.size∧b≠D) cs f v j g l wr∧g.fit m)) (fun _ i _=>f.len - (intOf i).toNat)
   case atStart=>exact ⟨0,f,[],by omega,rfl,Nat.le_refl _,Lib.hid ⟨H0.out,HGD.out⟩⟩
   case round =>
    clear H0 HGD
    obtain ⟨j,g,l,hj,rfl,hgs,HG⟩:=hrel
    cases g with
    | nil =>
      have hb : LooIsV w D f (.returned u5) wr := by
       obtain ⟨⟨st,_,df,d1,d2,d3,d4⟩,_⟩:=HG.out
       rw [F.app_nil] at d1
       subst d1
       rcases st.1.2 with ⟨e,h0⟩ | ⟨g,cap,cur,e,hb,hh,hn,hmx,hs,ht⟩
       · have : l = [] := List.eq_nil_of_length_eq_zero h0
         subst this
         exact ⟨[],none,0,by rw [e];rfl,by simp,fun _=>rfl,.inl rfl,d2,d3,st.2.1,st.2.2⟩
       · refine ⟨l, some ⟨g, 0, none⟩, cap, by rw [e], hn, (fun e2 => by cases e2), Or.inr ⟨g, 0, rfl, ⟨hb, lt_of_block hh⟩, fun i hi => ?_⟩, d2, d3, st.2.1, st.2.2⟩
         rw [zat] at hi
         rw [Nat.zero_add,cell_of_row wr g i cur _ (0,0) hh,←ht,List.getElem?_take,if_pos (by omega),Array.getElem?_toList]
      have hj2:j=f.len:=hj
      have HF:=Lib.hid hb
      clear hb HG hj
      go_wp2_with fail
      go_ret
      exact HF.out
    | cons t v kk r =>
      have hj1:j+r.len+1=f.len:=hj
      have hgs1:kk.size+r.size+1≤f.size:=hgs
      obtain ⟨⟨st,hh,hx⟩,⟨g1,g2,g3,g4,g5,g7,g8⟩⟩:=HG.out
      have hvr:=zba g2
      obtain ⟨T,rfl⟩:=Int.eq_ofNat_of_zero_le (show 0≤t by omega)
      have hT:T≤65535:=by omega
      have hl4 : l.length ≤ 5000 * f.size := by
       obtain ⟨df,_,_,d3,d4⟩:=hx;omega
      obtain ⟨b,off,Av,cv,Ak,ck,rfl,hp,x0,x1,x2,sv,sk,hr,hnv⟩:=zdt HS.out hh
      have hlt:j < f.len:=by omega
      have y0:=(zau st.2.1 (p:=⟨b,off+j*3,none⟩) hp.1 hp.2).trans x0
      have HP:=Lib.hid (show b < w.heap.size∧b≠D from hp)
      have HX:=Lib.hid (show (∃df:F,df.app (.cons (T:Int) v kk r)=f∧(l.length≤4096→LooseOf false df l)∧l.length≤df.size*5000∧df.size+(F.cons (T:Int) v kk r).size=f.size)∧HoldsP w (fun b=>b < w.heap.size∧b≠D) r (cs.drop (3*(j+1)))∧SeesP w (fun b=>b < w.heap.size∧b≠D) Av (Us v)∧SeesF w (fun b=>b < w.heap.size∧b≠D) Ak kk∧(Av=none→cv=0)∧r.fit m from ⟨hx,hr,sv,sk,hnv,g8⟩)
      have HQ:=Lib.hid (show kk.fit (m - 1)∧(zaE (T:Int)=true→v=[])∧(zaE (T:Int)=false→kk=.nil)∧v.length≤4096∧w.cell? ⟨b,off+j*3+1,none⟩=some (.slice Av v.length cv)∧w.cell? ⟨b,off+j*3+2,none⟩=some (.slice Ak kk.len ck) from ⟨g7,g3,g4,g5,x1,x2⟩)
      have ST:=Lib.hid st
      have HK:=Lib.hid (fun u=>zcV (T:Int) (by omega) (by omega) u)
      have hown:=st.1
      have hwsz:=st.2.1.size
      clear hj hgs HG hh hx hr sv sk hnv g1 g2 g3 g4 g5 g7 g8 x0 x1 x2 hp st hvr
      go_upto_if 23 with fail
      go_cut [5] from 11 to 128 (fun v5 wx=>∃l1:List UInt8,Hid (St2 w D l1 v5 wx∧l1++[UInt8.ofNat T]=l++tagL T∧l1.length≤l.length+1))
      case first =>
       by_cases h255:255 < T
       · have d255 : decide ((255 : Int) < (T : Int)) = true := by simp; omega
         have eq1:#[Value.int .u8 ((T:Int) / 256)].toList=Us [UInt8.ofNat (T / 256)]:=by simp [Us,U];omega
         go_wp2_with (at_builtin;refine wpList_append_own _ rfl (.tmp 24) (.tmp 28) 27 rfl w.heap.size 5 i0 (.int .u8 0) 1 1 Tryz.underlying27 hi hz0 hz1 hz2 rfl (by decide) u5 (l.length) _ rfl (hown.alloc _) ⟨_,0,none⟩ 1 1 _ rfl rfl (World.news_of_block (heap_alloc_new _ _)) (zbi eq1) (by unfold maxLen;omega) (by omega) (by simp;omega) ?_;intro va wa ho hg _;have ST1:=Lib.hid (St2.app (xs:=[UInt8.ofNat (T / 256)]) ST.out hDw rfl eq1 ho hg))
         go_meet
         exact ⟨_,Lib.hid ⟨ST1.out,by unfold tagL;rw [if_pos h255];simp,by simp⟩⟩
       · have d255 : decide ((255 : Int) < (T : Int)) = false := by simp; omega
         go_wp2_with fail
         go_meet
         exact ⟨_,Lib.hid ⟨ST.out,by unfold tagL;rw [if_neg h255],by omega⟩⟩
      case rest =>
       obtain ⟨l1,HC⟩:=hcut
       clear hown hwsz ST y0
       have hown1:=HC.out.1.1
       have hsz1:=HC.out.1.2.1.size
       have hl1:=HC.out.2.2
       go_upto_if 42 with (first | (at_builtin;refine wpList_append_own _ rfl (.tmp 30) (.tmp 33) 27 rfl w.heap.size 5 i0 (.int .u8 0) 1 1 Tryz.underlying27 hi hz0 hz1 hz2 rfl (by decide) u5 (l1.length) _ rfl (hown1.alloc _) ⟨_,0,none⟩ 1 1 _ rfl rfl (World.news_of_block (heap_alloc_new _ _)) (zbi (t1 T)) (by unfold maxLen;omega) (by omega) (by simp;omega) ?_;intro vb wb ho hg _;have STX:=Lib.hid (St2.app (xs:=[UInt8.ofNat T]) HC.out.1 hDw rfl (t1 T) ho hg);have ST2:=Lib.hid (show St2 w D (l++tagL T) vb wb from HC.out.2.1 ▸ STX.out);have y1:=(zau ST2.out.2.1 (p:=⟨b,off+j*3+1,none⟩) HP.out.1 HP.out.2).trans HQ.out.2.2.2.2.1;have y2:=(zau ST2.out.2.1 (p:=⟨b,off+j*3+2,none⟩) HP.out.1 HP.out.2).trans HQ.out.2.2.2.2.2;have hsz2:=ST2.out.2.1.size;clear ho hg STX) | (go_at_call 29;refine (HK.out _).mono ?_;rintro e w' ⟨rfl,rfl⟩))
       clear hown1 hsz1 hl1 HC y1
       go_cut [8,9] from 11 to 128 (fun v8 v9 wx=>∃(A:Option Addr) (cn:Nat) (cb ckl L2:List UInt8),v9=.bool (zaE (T:Int))∧v8=.slice A cb.length cn∧Hid (St2 w D L2 vb wx∧L2=l++tagL T∧SeesP wx (fun q=>q < wx.heap.size∧vb.ownBlock≠some q∧q≠D) A (Us cb)∧(A=none→cn=0)∧cb=v++ckl∧(ckl.length≤4096→LooseOf false kk ckl)∧ckl.length≤kk.size*5000))
       case first =>
        cases hcb:zaE (T:Int)
        · go_wp2_with fail
          go_meet
          refine ⟨Av,cv,v,[],_,congrArg Value.bool hcb.symm,rfl,Lib.hid ⟨ST2.out,rfl,?_,HX.out.2.2.2.2.1,(List.append_nil _).symm,fun _=>?_,by simp⟩⟩
          · refine (HX.out.2.2.1.keep fun q hq => zau ST2.out.2.1 hq.1 hq.2).imp fun q hq => ⟨by omega, ?_, hq.2⟩
            intro e
            have:=zcX ST2.out.1 q e
            omega
          · rw [HQ.out.2.2.1 hcb];rfl
        · have hs2 : SeesF _ (fun q => q < _ ∧ q ≠ D) Ak kk := (HX.out.2.2.2.1.keep fun q hq => zau ST2.out.2.1 hq.1 hq.2).imp fun q hq => ⟨Nat.lt_of_lt_of_le hq.1 hsz2, hq.2⟩
          have HI:=Lib.hid (IH.out kk (m - 1) Ak ck D _ (by omega) HQ.out.1 hs2 ST2.out.2.2)
          clear hs2
          go_wp2_with fail
          refine HI.out.mono ?_
          rintro e w2 ⟨bb,A2,c2,rfl,hcl,hcn,hss,hlo,hbl,hgr,hdo⟩
          have HZ:=Lib.hid (show _∧_∧_∧_∧_∧_ from ⟨hcn,hss,hlo,hbl,hgr,hdo⟩)
          clear hcl hcn hss hlo hbl hgr hdo HI
          go_wp2_with fail
          go_meet
          obtain ⟨hcn,hss,hlo,hbl,hgr,hdo⟩:=HZ.out
          refine ⟨A2,c2,bb,bb,_,congrArg Value.bool hcb.symm,rfl,Lib.hid ⟨ST2.out.far hDw hgr hdo,rfl,hss.imp fun q hq=>⟨hq.2,?_,?_⟩,hcn,by rw [HQ.out.2.1 hcb];rfl,hlo,hbl⟩⟩
          · intro e
            have:=(ST2.out.1.lt q e).2
            have:=hq.1
            omega
          · have := hq.1
            omega
       case rest =>
        obtain ⟨A,cn,cb,ckl,L2,rfl,rfl,HC2⟩:=hcut
        clear ST2 y2 hsz2
        have hL2 : L2.length ≤ l.length + 2 := by
         obtain ⟨_,e,_⟩:=HC2.out
         have:(tagL T).length≤2:=(by unfold tagL;split <;> simp)
         rw [e,List.length_append];omega
        have hcbl:cb.length≤5004096:=by obtain ⟨_,_,_,_,e,_,h⟩:=HC2.out;have:=HQ.out.2.2.2.1;rw [e,List.length_append];omega
        have HN:=Lib.hid (zar D 6 wc (by decide) (by decide) HC2.out.1.2.2)
        go_wp2_with fail
        refine HN.out.mono ?_
        rintro e wy ⟨q,hq,rfl,hgy,hdy⟩
        have HY:=Lib.hid (show St2 w D L2 vb wy∧SeesP wy (fun q=>q < wy.heap.size∧vb.ownBlock≠some q∧q≠D) A (Us cb)∧(A=none→cb=[]) from ⟨HC2.out.1.far hDw hgy hdy,Con.grown HC2.out.2.2.1 hgy,fun e=>by have h:=HC2.out.2.2.1;rw [e] at h;have:=congrArg List.length h.none_nil;rw [zat] at this;exact List.eq_nil_of_length_eq_zero this⟩)
        have hown:=HY.out.1.1
        have hsz:=HY.out.1.2.1.size
        clear HN hgy hdy
        have hqs:q=0∨q=1∨q=2∨q=3∨q=4∨q=5:=by omega
        rcases hqs with rfl | rfl | rfl | rfl | rfl | rfl
        · have hdq : True := trivial
          by_cases h128:cb.length < 128
          · have d128 : decide ((cb.length : Int) < 128) = true := by simp; omega
            go_wp2_with (first | (at_builtin;refine wpList_append_own _ rfl (.tmp 56) (.tmp 59) 27 rfl w.heap.size 5 i0 (.int .u8 0) 1 1 Tryz.underlying27 hi hz0 hz1 hz2 rfl (by decide) vb (L2.length) _ rfl (hown.alloc _) ⟨_,0,none⟩ 1 1 _ rfl rfl (World.news_of_block (heap_alloc_new _ _)) (zbi (h00 (n:=cb.length) (by omega))) (by unfold maxLen;omega) (by omega) (by simp;omega) ?_;intro v3 w3 ho hg _;have ST3:=Lib.hid (St2.app (xs:=[UInt8.ofNat cb.length]) HY.out.1 hDw rfl (h00 (n:=cb.length) (by omega)) ho hg);have CON:=Lib.hid (zcH (HY.out.2.1.imp fun q hq=>⟨hq.1,hq.2.1⟩) hg);have hsz3:=ST3.out.2.1.size;have hln3:(L2++[UInt8.ofNat cb.length]).length≤L2.length+5:=(by simp);clear ho hg) | (at_builtin;refine zbe rfl (.tmp 126) (.tmp 127) 27 rfl w.heap.size 5 i0 (.int .u8 0) Tryz.underlying27 hi hz0 hz1 hz2 rfl v3 _ _ rfl ST3.out.1 A cn cb rfl HC2.out.2.2.2.1 HY.out.2.2 CON.out (by unfold maxLen;omega) (by omega) hsz3 ?_;intro v4 w4 ho4 hg4;have ST4:=Lib.hid (St2.src ST3.out hDw ho4 hg4);clear ho4 hg4))
            have HF:=Lib.hid (show LRelV w D (fun b=>b < w.heap.size∧b≠D) cs f _ (j+1) r _ _∧r.fit m from ⟨LRelV.step2 (tl:=[]) (hd:=[UInt8.ofNat cb.length]) HX.out.2.1 HX.out.1 HC2.out.2.1 HC2.out.2.2.2.2.1 (List.append_nil _).symm ST4.out HC2.out.2.2.2.2.2.1 HC2.out.2.2.2.2.2.2 HQ.out.2.2.2.1 (by simp) (fun h=>o00 (by omega)),HX.out.2.2.2.2.2⟩)
            clear ST4
            go_roundw
            case rel=>exact ⟨j+1,r,_,by omega,by go_num,by omega,HF⟩
            case measure=>simp [intOf];omega
          · have d128 : decide ((cb.length : Int) < 128) = false := by simp; omega
            go_wp2_with (first | (at_builtin;refine wpList_append_own _ rfl (.tmp 61) (.tmp 67) 27 rfl w.heap.size 5 i0 (.int .u8 0) 1 1 Tryz.underlying27 hi hz0 hz1 hz2 rfl (by decide) vb (L2.length) _ rfl (hown.alloc _) ⟨_,0,none⟩ 3 3 [.int .u8 130,.int .u8 ((cb.length:Int) / 256 % 256),.int .u8 ((cb.length:Int) % 256)] rfl rfl (World.news_of_block (heap_alloc_new _ _)) (zbi (h82 cb.length)) (by unfold maxLen;omega) (by omega) (by simp;omega) ?_;intro v3 w3 ho hg _;have ST3:=Lib.hid (St2.app (xs:=[130,UInt8.ofNat (cb.length / 256),UInt8.ofNat cb.length]) HY.out.1 hDw rfl (h82 cb.length) ho hg);have CON:=Lib.hid (zcH (HY.out.2.1.imp fun q hq=>⟨hq.1,hq.2.1⟩) hg);have hsz3:=ST3.out.2.1.size;have hln3:(L2++[130,UInt8.ofNat (cb.length / 256),UInt8.ofNat cb.length]).length≤L2.length+5:=(by simp);clear ho hg) | (at_builtin;refine zbe rfl (.tmp 126) (.tmp 127) 27 rfl w.heap.size 5 i0 (.int .u8 0) Tryz.underlying27 hi hz0 hz1 hz2 rfl v3 _ _ rfl ST3.out.1 A cn cb rfl HC2.out.2.2.2.1 HY.out.2.2 CON.out (by unfold maxLen;omega) (by omega) hsz3 ?_;intro v4 w4 ho4 hg4;have ST4:=Lib.hid (St2.src ST3.out hDw ho4 hg4);clear ho4 hg4))
            have HF:=Lib.hid (show LRelV w D (fun b=>b < w.heap.size∧b≠D) cs f _ (j+1) r _ _∧r.fit m from ⟨LRelV.step2 (tl:=[]) (hd:=[130,UInt8.ofNat (cb.length / 256),UInt8.ofNat cb.length]) HX.out.2.1 HX.out.1 HC2.out.2.1 HC2.out.2.2.2.2.1 (List.append_nil _).symm ST4.out HC2.out.2.2.2.2.2.1 HC2.out.2.2.2.2.2.2 HQ.out.2.2.2.1 (by simp) (fun h=>o82 (by omega)),HX.out.2.2.2.2.2⟩)
            clear ST4
            go_roundw
            case rel=>exact ⟨j+1,r,_,by omega,by go_num,by omega,HF⟩
            case measure=>simp [intOf];omega
        · have hdq : True := trivial
          go_wp2_with (first | (at_builtin;refine wpList_append_own _ rfl (.tmp 71) (.tmp 77) 27 rfl w.heap.size 5 i0 (.int .u8 0) 1 1 Tryz.underlying27 hi hz0 hz1 hz2 rfl (by decide) vb (L2.length) _ rfl (hown.alloc _) ⟨_,0,none⟩ 4 4 [.int .u8 131,.int .u8 0,.int .u8 ((cb.length:Int) / 256 % 256),.int .u8 ((cb.length:Int) % 256)] rfl rfl (World.news_of_block (heap_alloc_new _ _)) (zbi (h83 cb.length)) (by unfold maxLen;omega) (by omega) (by simp;omega) ?_;intro v3 w3 ho hg _;have ST3:=Lib.hid (St2.app (xs:=[131,0,UInt8.ofNat (cb.length / 256),UInt8.ofNat cb.length]) HY.out.1 hDw rfl (h83 cb.length) ho hg);have CON:=Lib.hid (zcH (HY.out.2.1.imp fun q hq=>⟨hq.1,hq.2.1⟩) hg);have hsz3:=ST3.out.2.1.size;have hln3:(L2++[131,0,UInt8.ofNat (cb.length / 256),UInt8.ofNat cb.length]).length≤L2.length+5:=(by simp);clear ho hg) | (at_builtin;refine zbe rfl (.tmp 126) (.tmp 127) 27 rfl w.heap.size 5 i0 (.int .u8 0) Tryz.underlying27 hi hz0 hz1 hz2 rfl v3 _ _ rfl ST3.out.1 A cn cb rfl HC2.out.2.2.2.1 HY.out.2.2 CON.out (by unfold maxLen;omega) (by omega) hsz3 ?_;intro v4 w4 ho4 hg4;have ST4:=Lib.hid (St2.src ST3.out hDw ho4 hg4);clear ho4 hg4))
          have HF:=Lib.hid (show LRelV w D (fun b=>b < w.heap.size∧b≠D) cs f _ (j+1) r _ _∧r.fit m from ⟨LRelV.step2 (tl:=[]) (hd:=[131,0,UInt8.ofNat (cb.length / 256),UInt8.ofNat cb.length]) HX.out.2.1 HX.out.1 HC2.out.2.1 HC2.out.2.2.2.2.1 (List.append_nil _).symm ST4.out HC2.out.2.2.2.2.2.1 HC2.out.2.2.2.2.2.2 HQ.out.2.2.2.1 (by simp) (fun h=>o83 (by omega)),HX.out.2.2.2.2.2⟩)
          clear ST4
          go_roundw
          case rel=>exact ⟨j+1,r,_,by omega,by go_num,by omega,HF⟩
          case measure=>simp [intOf];omega
        · have hdq : True := trivial
          go_wp2_with (first | (at_builtin;refine wpList_append_own _ rfl (.tmp 81) (.tmp 87) 27 rfl w.heap.size 5 i0 (.int .u8 0) 1 1 Tryz.underlying27 hi hz0 hz1 hz2 rfl (by decide) vb (L2.length) _ rfl (hown.alloc _) ⟨_,0,none⟩ 5 5 [.int .u8 132,.int .u8 0,.int .u8 0,.int .u8 ((cb.length:Int) / 256 % 256),.int .u8 ((cb.length:Int) % 256)] rfl rfl (World.news_of_block (heap_alloc_new _ _)) (zbi (h84 cb.length)) (by unfold maxLen;omega) (by omega) (by simp;omega) ?_;intro v3 w3 ho hg _;have ST3:=Lib.hid (St2.app (xs:=[132,0,0,UInt8.ofNat (cb.length / 256),UInt8.ofNat cb.length]) HY.out.1 hDw rfl (h84 cb.length) ho hg);have CON:=Lib.hid (zcH (HY.out.2.1.imp fun q hq=>⟨hq.1,hq.2.1⟩) hg);have hsz3:=ST3.out.2.1.size;have hln3:(L2++[132,0,0,UInt8.ofNat (cb.length / 256),UInt8.ofNat cb.length]).length≤L2.length+5:=(by simp);clear ho hg) | (at_builtin;refine zbe rfl (.tmp 126) (.tmp 127) 27 rfl w.heap.size 5 i0 (.int .u8 0) Tryz.underlying27 hi hz0 hz1 hz2 rfl v3 _ _ rfl ST3.out.1 A cn cb rfl HC2.out.2.2.2.1 HY.out.2.2 CON.out (by unfold maxLen;omega) (by omega) hsz3 ?_;intro v4 w4 ho4 hg4;have ST4:=Lib.hid (St2.src ST3.out hDw ho4 hg4);clear ho4 hg4))
          have HF:=Lib.hid (show LRelV w D (fun b=>b < w.heap.size∧b≠D) cs f _ (j+1) r _ _∧r.fit m from ⟨LRelV.step2 (tl:=[]) (hd:=[132,0,0,UInt8.ofNat (cb.length / 256),UInt8.ofNat cb.length]) HX.out.2.1 HX.out.1 HC2.out.2.1 HC2.out.2.2.2.2.1 (List.append_nil _).symm ST4.out HC2.out.2.2.2.2.2.1 HC2.out.2.2.2.2.2.2 HQ.out.2.2.2.1 (by simp) (fun h=>o84 (by omega)),HX.out.2.2.2.2.2⟩)
          clear ST4
          go_roundw
          case rel=>exact ⟨j+1,r,_,by omega,by go_num,by omega,HF⟩
          case measure=>simp [intOf];omega
        · have hdq : True := trivial
          cases hcb:zaE (T:Int)
          · have hdum : True := trivial
            go_wp2_with (first | (at_builtin;refine wpList_append_own _ rfl (.tmp 101) (.tmp 107) 27 rfl w.heap.size 5 i0 (.int .u8 0) 1 1 Tryz.underlying27 hi hz0 hz1 hz2 rfl (by decide) vb (L2.length) _ rfl (hown.alloc _) ⟨_,0,none⟩ 3 3 [.int .u8 130,.int .u8 ((cb.length:Int) / 256 % 256),.int .u8 ((cb.length:Int) % 256)] rfl rfl (World.news_of_block (heap_alloc_new _ _)) (zbi (h82 cb.length)) (by unfold maxLen;omega) (by omega) (by simp;omega) ?_;intro v3 w3 ho hg _;have ST3:=Lib.hid (St2.app (xs:=[130,UInt8.ofNat (cb.length / 256),UInt8.ofNat cb.length]) HY.out.1 hDw rfl (h82 cb.length) ho hg);have CON:=Lib.hid (zcH (HY.out.2.1.imp fun q hq=>⟨hq.1,hq.2.1⟩) hg);have hsz3:=ST3.out.2.1.size;have hln3:(L2++[130,UInt8.ofNat (cb.length / 256),UInt8.ofNat cb.length]).length≤L2.length+5:=(by simp);clear ho hg) | (at_builtin;refine zbe rfl (.tmp 126) (.tmp 127) 27 rfl w.heap.size 5 i0 (.int .u8 0) Tryz.underlying27 hi hz0 hz1 hz2 rfl v3 _ _ rfl ST3.out.1 A cn cb rfl HC2.out.2.2.2.1 HY.out.2.2 CON.out (by unfold maxLen;omega) (by omega) hsz3 ?_;intro v4 w4 ho4 hg4;have ST4:=Lib.hid (St2.src ST3.out hDw ho4 hg4);clear ho4 hg4))
            have HF:=Lib.hid (show LRelV w D (fun b=>b < w.heap.size∧b≠D) cs f _ (j+1) r _ _∧r.fit m from ⟨LRelV.step2 (tl:=[]) (hd:=[130,UInt8.ofNat (cb.length / 256),UInt8.ofNat cb.length]) HX.out.2.1 HX.out.1 HC2.out.2.1 HC2.out.2.2.2.2.1 (List.append_nil _).symm ST4.out HC2.out.2.2.2.2.2.1 HC2.out.2.2.2.2.2.2 HQ.out.2.2.2.1 (by simp) (fun h=>o82 (by omega)),HX.out.2.2.2.2.2⟩)
            clear ST4
            go_roundw
            case rel=>exact ⟨j+1,r,_,by omega,by go_num,by omega,HF⟩
            case measure=>simp [intOf];omega
          · have eq80 : #[Value.int .u8 128].toList = Us [128] := rfl
            have eq00:#[Value.int .u8 0,.int .u8 0].toList=Us [0,0]:=rfl
            go_wp2_with (first | (at_builtin;refine wpList_append_own _ rfl (.tmp 92) (.tmp 93) 27 rfl w.heap.size 5 i0 (.int .u8 0) 1 1 Tryz.underlying27 hi hz0 hz1 hz2 rfl (by decide) vb (L2.length) _ rfl (hown.alloc _) ⟨_,0,none⟩ 1 1 _ rfl rfl (World.news_of_block (heap_alloc_new _ _)) (zbi eq80) (by unfold maxLen;omega) (by omega) (by simp;omega) ?_;intro v3 w3 ho hg _;have ST3:=Lib.hid (St2.app (xs:=[128]) HY.out.1 hDw rfl eq80 ho hg);have CON:=Lib.hid (zcH (HY.out.2.1.imp fun q hq=>⟨hq.1,hq.2.1⟩) hg);have hsz3:=ST3.out.2.1.size;have hln3:(L2++[128]).length≤L2.length+5:=(by simp);clear ho hg) | (at_builtin;refine zbe rfl (.tmp 95) (.tmp 96) 27 rfl w.heap.size 5 i0 (.int .u8 0) Tryz.underlying27 hi hz0 hz1 hz2 rfl v3 _ _ rfl ST3.out.1 A cn cb rfl HC2.out.2.2.2.1 HY.out.2.2 CON.out (by unfold maxLen;omega) (by omega) hsz3 ?_;intro v4 w4 ho4 hg4;have ST4:=Lib.hid (St2.src ST3.out hDw ho4 hg4);clear ho4 hg4;have hown4:=ST4.out.1;have hsz4:=ST4.out.2.1.size;have hln4:(L2++[128]++cb).length=L2.length+1+cb.length:=(by simp;omega)) | (at_builtin;refine wpList_append_own _ rfl (.tmp 98) (.tmp 99) 27 rfl w.heap.size 5 i0 (.int .u8 0) 1 1 Tryz.underlying27 hi hz0 hz1 hz2 rfl (by decide) v4 ((L2++[128]++cb).length) _ rfl (hown4.alloc _) ⟨_,0,none⟩ 2 2 [.int .u8 0,.int .u8 0] rfl rfl (World.news_of_block (heap_alloc_new _ _)) (zbi eq00) (by unfold maxLen;omega) (by omega) (by simp;omega) ?_;intro v5 w5 ho hg _;have ST5:=Lib.hid (St2.app (xs:=[0,0]) ST4.out hDw rfl eq00 ho hg)))
            have HF:=Lib.hid (show LRelV w D (fun b=>b < w.heap.size∧b≠D) cs f _ (j+1) r _ _∧r.fit m from ⟨LRelV.step2 (tl:=[0,0]) (hd:=[128]) HX.out.2.1 HX.out.1 HC2.out.2.1 HC2.out.2.2.2.2.1 rfl ST5.out HC2.out.2.2.2.2.2.1 HC2.out.2.2.2.2.2.2 HQ.out.2.2.2.1 (by simp) (fun h=>o80 hcb),HX.out.2.2.2.2.2⟩)
            clear ST5
            go_roundw
            case rel=>exact ⟨j+1,r,_,by omega,by go_num,by omega,HF⟩
            case measure=>simp [intOf];omega
        · have hdq : True := trivial
          by_cases h256:cb.length < 256
          · have d256 : decide ((cb.length : Int) < 256) = true := by simp; omega
            go_wp2_with (first | (at_builtin;refine wpList_append_own _ rfl (.tmp 113) (.tmp 116) 27 rfl w.heap.size 5 i0 (.int .u8 0) 1 1 Tryz.underlying27 hi hz0 hz1 hz2 rfl (by decide) vb (L2.length) _ rfl (hown.alloc _) ⟨_,0,none⟩ 2 2 [.int .u8 129,.int .u8 (cb.length:Int)] rfl rfl (World.news_of_block (heap_alloc_new _ _)) (zbi (h81 (n:=cb.length) (by omega))) (by unfold maxLen;omega) (by omega) (by simp;omega) ?_;intro v3 w3 ho hg _;have ST3:=Lib.hid (St2.app (xs:=[129,UInt8.ofNat cb.length]) HY.out.1 hDw rfl (h81 (n:=cb.length) (by omega)) ho hg);have CON:=Lib.hid (zcH (HY.out.2.1.imp fun q hq=>⟨hq.1,hq.2.1⟩) hg);have hsz3:=ST3.out.2.1.size;have hln3:(L2++[129,UInt8.ofNat cb.length]).length≤L2.length+5:=(by simp);clear ho hg) | (at_builtin;refine zbe rfl (.tmp 126) (.tmp 127) 27 rfl w.heap.size 5 i0 (.int .u8 0) Tryz.underlying27 hi hz0 hz1 hz2 rfl v3 _ _ rfl ST3.out.1 A cn cb rfl HC2.out.2.2.2.1 HY.out.2.2 CON.out (by unfold maxLen;omega) (by omega) hsz3 ?_;intro v4 w4 ho4 hg4;have ST4:=Lib.hid (St2.src ST3.out hDw ho4 hg4);clear ho4 hg4))
            have HF:=Lib.hid (show LRelV w D (fun b=>b < w.heap.size∧b≠D) cs f _ (j+1) r _ _∧r.fit m from ⟨LRelV.step2 (tl:=[]) (hd:=[129,UInt8.ofNat cb.length]) HX.out.2.1 HX.out.1 HC2.out.2.1 HC2.out.2.2.2.2.1 (List.append_nil _).symm ST4.out HC2.out.2.2.2.2.2.1 HC2.out.2.2.2.2.2.2 HQ.out.2.2.2.1 (by simp) (fun h=>o81 (by omega)),HX.out.2.2.2.2.2⟩)
            clear ST4
            go_roundw
            case rel=>exact ⟨j+1,r,_,by omega,by go_num,by omega,HF⟩
            case measure=>simp [intOf];omega
          · have d256 : decide ((cb.length : Int) < 256) = false := by simp; omega
            go_wp2_with (first | (at_builtin;refine wpList_append_own _ rfl (.tmp 118) (.tmp 124) 27 rfl w.heap.size 5 i0 (.int .u8 0) 1 1 Tryz.underlying27 hi hz0 hz1 hz2 rfl (by decide) vb (L2.length) _ rfl (hown.alloc _) ⟨_,0,none⟩ 3 3 [.int .u8 130,.int .u8 ((cb.length:Int) / 256 % 256),.int .u8 ((cb.length:Int) % 256)] rfl rfl (World.news_of_block (heap_alloc_new _ _)) (zbi (h82 cb.length)) (by unfold maxLen;omega) (by omega) (by simp;omega) ?_;intro v3 w3 ho hg _;have ST3:=Lib.hid (St2.app (xs:=[130,UInt8.ofNat (cb.length / 256),UInt8.ofNat cb.length]) HY.out.1 hDw rfl (h82 cb.length) ho hg);have CON:=Lib.hid (zcH (HY.out.2.1.imp fun q hq=>⟨hq.1,hq.2.1⟩) hg);have hsz3:=ST3.out.2.1.size;have hln3:(L2++[130,UInt8.ofNat (cb.length / 256),UInt8.ofNat cb.length]).length≤L2.length+5:=(by simp);clear ho hg) | (at_builtin;refine zbe rfl (.tmp 126) (.tmp 127) 27 rfl w.heap.size 5 i0 (.int .u8 0) Tryz.underlying27 hi hz0 hz1 hz2 rfl v3 _ _ rfl ST3.out.1 A cn cb rfl HC2.out.2.2.2.1 HY.out.2.2 CON.out (by unfold maxLen;omega) (by omega) hsz3 ?_;intro v4 w4 ho4 hg4;have ST4:=Lib.hid (St2.src ST3.out hDw ho4 hg4);clear ho4 hg4))
            have HF:=Lib.hid (show LRelV w D (fun b=>b < w.heap.size∧b≠D) cs f _ (j+1) r _ _∧r.fit m from ⟨LRelV.step2 (tl:=[]) (hd:=[130,UInt8.ofNat (cb.length / 256),UInt8.ofNat cb.length]) HX.out.2.1 HX.out.1 HC2.out.2.1 HC2.out.2.2.2.2.1 (List.append_nil _).symm ST4.out HC2.out.2.2.2.2.2.1 HC2.out.2.2.2.2.2.2 HQ.out.2.2.2.1 (by simp) (fun h=>o82 (by omega)),HX.out.2.2.2.2.2⟩)
            clear ST4
            go_roundw
            case rel=>exact ⟨j+1,r,_,by omega,by go_num,by omega,HF⟩
            case measure=>simp [intOf];omega
        · have hdq : True := trivial
          by_cases h128:cb.length < 128
          · have d128 : decide ((cb.length : Int) < 128) = true := by simp; omega
            go_wp2_with (first | (at_builtin;refine wpList_append_own _ rfl (.tmp 56) (.tmp 59) 27 rfl w.heap.size 5 i0 (.int .u8 0) 1 1 Tryz.underlying27 hi hz0 hz1 hz2 rfl (by decide) vb (L2.length) _ rfl (hown.alloc _) ⟨_,0,none⟩ 1 1 _ rfl rfl (World.news_of_block (heap_alloc_new _ _)) (zbi (h00 (n:=cb.length) (by omega))) (by unfold maxLen;omega) (by omega) (by simp;omega) ?_;intro v3 w3 ho hg _;have ST3:=Lib.hid (St2.app (xs:=[UInt8.ofNat cb.length]) HY.out.1 hDw rfl (h00 (n:=cb.length) (by omega)) ho hg);have CON:=Lib.hid (zcH (HY.out.2.1.imp fun q hq=>⟨hq.1,hq.2.1⟩) hg);have hsz3:=ST3.out.2.1.size;have hln3:(L2++[UInt8.ofNat cb.length]).length≤L2.length+5:=(by simp);clear ho hg) | (at_builtin;refine zbe rfl (.tmp 126) (.tmp 127) 27 rfl w.heap.size 5 i0 (.int .u8 0) Tryz.underlying27 hi hz0 hz1 hz2 rfl v3 _ _ rfl ST3.out.1 A cn cb rfl HC2.out.2.2.2.1 HY.out.2.2 CON.out (by unfold maxLen;omega) (by omega) hsz3 ?_;intro v4 w4 ho4 hg4;have ST4:=Lib.hid (St2.src ST3.out hDw ho4 hg4);clear ho4 hg4))
            have HF:=Lib.hid (show LRelV w D (fun b=>b < w.heap.size∧b≠D) cs f _ (j+1) r _ _∧r.fit m from ⟨LRelV.step2 (tl:=[]) (hd:=[UInt8.ofNat cb.length]) HX.out.2.1 HX.out.1 HC2.out.2.1 HC2.out.2.2.2.2.1 (List.append_nil _).symm ST4.out HC2.out.2.2.2.2.2.1 HC2.out.2.2.2.2.2.2 HQ.out.2.2.2.1 (by simp) (fun h=>o00 (by omega)),HX.out.2.2.2.2.2⟩)
            clear ST4
            go_roundw
            case rel=>exact ⟨j+1,r,_,by omega,by go_num,by omega,HF⟩
            case measure=>simp [intOf];omega
          · have d128 : decide ((cb.length : Int) < 128) = false := by simp; omega
            go_wp2_with (first | (at_builtin;refine wpList_append_own _ rfl (.tmp 61) (.tmp 67) 27 rfl w.heap.size 5 i0 (.int .u8 0) 1 1 Tryz.underlying27 hi hz0 hz1 hz2 rfl (by decide) vb (L2.length) _ rfl (hown.alloc _) ⟨_,0,none⟩ 3 3 [.int .u8 130,.int .u8 ((cb.length:Int) / 256 % 256),.int .u8 ((cb.length:Int) % 256)] rfl rfl (World.news_of_block (heap_alloc_new _ _)) (zbi (h82 cb.length)) (by unfold maxLen;omega) (by omega) (by simp;omega) ?_;intro v3 w3 ho hg _;have ST3:=Lib.hid (St2.app (xs:=[130,UInt8.ofNat (cb.length / 256),UInt8.ofNat cb.length]) HY.out.1 hDw rfl (h82 cb.length) ho hg);have CON:=Lib.hid (zcH (HY.out.2.1.imp fun q hq=>⟨hq.1,hq.2.1⟩) hg);have hsz3:=ST3.out.2.1.size;have hln3:(L2++[130,UInt8.ofNat (cb.length / 256),UInt8.ofNat cb.length]).length≤L2.length+5:=(by simp);clear ho hg) | (at_builtin;refine zbe rfl (.tmp 126) (.tmp 127) 27 rfl w.heap.size 5 i0 (.int .u8 0) Tryz.underlying27 hi hz0 hz1 hz2 rfl v3 _ _ rfl ST3.out.1 A cn cb rfl HC2.out.2.2.2.1 HY.out.2.2 CON.out (by unfold maxLen;omega) (by omega) hsz3 ?_;intro v4 w4 ho4 hg4;have ST4:=Lib.hid (St2.src ST3.out hDw ho4 hg4);clear ho4 hg4))
            have HF:=Lib.hid (show LRelV w D (fun b=>b < w.heap.size∧b≠D) cs f _ (j+1) r _ _∧r.fit m from ⟨LRelV.step2 (tl:=[]) (hd:=[130,UInt8.ofNat (cb.length / 256),UInt8.ofNat cb.length]) HX.out.2.1 HX.out.1 HC2.out.2.1 HC2.out.2.2.2.2.1 (List.append_nil _).symm ST4.out HC2.out.2.2.2.2.2.1 HC2.out.2.2.2.2.2.2 HQ.out.2.2.2.1 (by simp) (fun h=>o82 (by omega)),HX.out.2.2.2.2.2⟩)
            clear ST4
            go_roundw
            case rel=>exact ⟨j+1,r,_,by omega,by go_num,by omega,HF⟩
            case measure=>simp [intOf];omega
end Go.Proofs.YtnlhbknajdpnbaaGreatDoor
