/-
  What is proved here: what the program's object returns behind the header's check; Values and Kids lie within their capacities.
-/
import Derived.Test.YtnlhbknajdpnbaaGreatDoorRows
import Derived.Test.YtnlhbknajdpnbaaGreatDoorF0
import Derived.Test.YtnlhbknajdpnbaaGreatDoorF8
import Derived.Test.YtnlhbknajdpnbaaGreatDoorF35
set_option linter.unusedVariables false
set_option linter.unusedSimpArgs false
namespace Go.Proofs.YtnlhbknajdpnbaaGreatDoor
open Go.RowKit
set_option maxRecDepth 8000
set_option maxHeartbeats 1000000 in
theorem obj_shortC (st : Bool) (d : Int) (c ll : Nat) (b0 o0 : Nat) (cap : Nat) (w : World) (R : Nat) (p : Nat → Prop) (t f n s : Nat) (hP : Pre w R st (some ⟨b0, o0, none⟩) ll cap d t f n s c 0) (hf : f ≠ 128) (hs : s ≤ ll) (hcap : ll ≤ cap) (hll : ll ≤ 4096) (hn : ll - s < n) (hn2 : n < 4294967296) :
 Calls Tryz.prog 83 #[.pointer (some ⟨R,0,none⟩),.slice (some ⟨b0,o0,none⟩) ll cap,.int .i64 d] w (zdq w R p st (.error 6)):=by
 have hR:=lt_of_block hP.2.2
 have HP:=Lib.hid hP
 have d1:((f:Int)==128)=false:=by simp;omega
 clear hP hf
 go_enter Tryz.func83,Tryz.ntmps83
 go_wp2_with fail
 refine (HP.out.1 _ ((Below.refl _ _).alloc (Nat.le_refl _) _)).mono ?_
 rintro e w1 ⟨rfl,hb1⟩
 go_wp2_with fail
 refine (HP.out.2.1 _ (zaw ((hb1.block R (by simp;omega)).trans (zaw HP.out.2.2 _)) _)).mono ?_
 rintro e w2 ⟨rfl,hg,c',hrd,hc'⟩
 have H:=Lib.hid (ObSt.mk' HP.out.2.2 hb1 hg hrd)
 have b6:=H.out.2.2.1
 have b9:=H.out.2.2.2.1
 have q0:=cell_of_row w2 w.heap.size 0 _ _ _ b6
 have q1:=cell_of_row w2 w.heap.size 1 _ _ _ b6
 have q2:=cell_of_row w2 w.heap.size 2 _ _ _ b6
 have r0:=frozen_of_row w2 w.heap.size 0 _ _ b6
 have r1:=frozen_of_row w2 w.heap.size 1 _ _ b6
 have r2:=frozen_of_row w2 w.heap.size 2 _ _ b6
 have c0:=cell_of_row w2 w1.heap.size 0 _ _ _ b9
 have c1:=cell_of_row w2 w1.heap.size 1 _ _ _ b9
 have c2:=cell_of_row w2 w1.heap.size 2 _ _ _ b9
 have c3:=cell_of_row w2 w1.heap.size 3 _ _ _ b9
 simp only [List.getElem?_toArray,List.getElem?_cons_succ,List.getElem?_cons_zero] at q0 q1 q2 c0 c1 c2 c3
 clear b6 b9 hb1 hg hrd hc'
 go_wp2_with fail
 all_goals
  refine bodyPost_ret (zaM rfl _ _ _ _ _ _ _ rfl (zai (zai (zai H.out.2.2.1 _) _) _) Tryz.underlying64 rfl zbf) rfl ?_
  exact zdc (by decide) (Fin.set w w2 _ _ _) H.out.1 H.out.2.1 hR
def MarkCC (R : Nat) (p : Nat → Prop) (st : Bool) (bs : List UInt8) (ll : Nat) (d : Int) (w2 : World) (r : Except Int (F × List UInt8 × Nat)) : Prop := ∀ (A : Option Addr) (cap : Nat), SeesP w2 p A (Us bs) → ll ≤ cap →
 Calls Tryz.prog 105 #[.pointer (some ⟨R,0,none⟩),.slice A ll cap,.int .i64 d] w2 (zfT w2 R p st r)
set_option maxHeartbeats 1000000 in
theorem obj_markC (st : Bool) (d : Int) (c ll : Nat) (b0 o0 : Nat) (cap : Nat) (w : World) (R : Nat) (p : Nat → Prop) (t f n s : Nat) (hP : Pre w R st (some ⟨b0, o0, none⟩) ll cap d t f n s c 0) (l : List UInt8) (hl : ll = l.length) (hd : 0 ≤ d ∧ d ≤ 9) (hf : f = 128) (hs : s ≤ ll) (hcap : ll ≤ cap) (hll : ll ≤ 4096) (hp : ∀ x, p x → oldB w R x) (hsee : SeesP w p (some ⟨b0, o0, none⟩) (Us l))
 (r:Except Int (F×List UInt8×Nat)) (hM:∀w2,w.grownBy w2 (some R)→Rd w2 R st (c+1)→MarkCC R p st (l.drop s) (ll - s) (d+1) w2 r) :
 Calls Tryz.prog 83 #[.pointer (some ⟨R,0,none⟩),.slice (some ⟨b0,o0,none⟩) ll cap,.int .i64 d] w (zdq w R p st (obM t r)):=by
 have hR:=lt_of_block hP.2.2
 have HP:=Lib.hid hP
 have d1:((f:Int)==128)=true:=by simp;omega
 obtain ⟨hd1,hd2⟩:=hd
 have HM:=Lib.hid hM
 have HS:=Lib.hid hsee
 have HL:=Lib.hid hl
 clear hP hf hM hsee hl
 go_enter Tryz.func83,Tryz.ntmps83
 go_wp2_with fail
 refine (HP.out.1 _ ((Below.refl _ _).alloc (Nat.le_refl _) _)).mono ?_
 rintro e w1 ⟨rfl,hb1⟩
 go_wp2_with fail
 refine (HP.out.2.1 _ (zaw ((hb1.block R (by simp;omega)).trans (zaw HP.out.2.2 _)) _)).mono ?_
 rintro e w2 ⟨rfl,hg,c',hrd,hc'⟩
 have H:=Lib.hid (ObSt.mk' HP.out.2.2 hb1 hg hrd)
 have b6:=H.out.2.2.1
 have b9:=H.out.2.2.2.1
 have q0:=cell_of_row w2 w.heap.size 0 _ _ _ b6
 have q1:=cell_of_row w2 w.heap.size 1 _ _ _ b6
 have q2:=cell_of_row w2 w.heap.size 2 _ _ _ b6
 have r0:=frozen_of_row w2 w.heap.size 0 _ _ b6
 have r1:=frozen_of_row w2 w.heap.size 1 _ _ b6
 have r2:=frozen_of_row w2 w.heap.size 2 _ _ b6
 have c0:=cell_of_row w2 w1.heap.size 0 _ _ _ b9
 have c1:=cell_of_row w2 w1.heap.size 1 _ _ _ b9
 have c2:=cell_of_row w2 w1.heap.size 2 _ _ _ b9
 have c3:=cell_of_row w2 w1.heap.size 3 _ _ _ b9
 simp only [List.getElem?_toArray,List.getElem?_cons_succ,List.getElem?_cons_zero] at q0 q1 q2 c0 c1 c2 c3
 have hs2:=HS.out.keep fun q hq=>zau H.out.1 (hp _ hq).1 (hp _ hq).2
 have HM2:=Lib.hid (HM.out w2 H.out.1 (by have:=hc' rfl;rw [←this];exact hrd))
 have HS2:=Lib.hid (show SeesP w2 p (some ⟨b0,o0+s,none⟩) (Us (l.drop s)) from zbs hs2 (by have:=HL.out;omega))
 clear b6 b9 hb1 hg hrd hc' hs2
 go_wp2_with fail
 · refine (HM2.out _ _ (zbU (by have := HL.out; omega)) (by omega)).mono ?_
   rintro e w3 ⟨hg3,hres⟩
   cases r with
   | error x =>
     obtain ⟨rfl,hx,c3',hrd3⟩:=hres
     have H3:=Lib.hid (H.out.grown hg3 hrd3)
     have b6:=H3.out.2.2.1
     have b9:=H3.out.2.2.2.1
     have q0:=cell_of_row w3 w.heap.size 0 _ _ _ b6
     have q1:=cell_of_row w3 w.heap.size 1 _ _ _ b6
     have q2:=cell_of_row w3 w.heap.size 2 _ _ _ b6
     have r0:=frozen_of_row w3 w.heap.size 0 _ _ b6
     have r1:=frozen_of_row w3 w.heap.size 1 _ _ b6
     have r2:=frozen_of_row w3 w.heap.size 2 _ _ b6
     have c0:=cell_of_row w3 w1.heap.size 0 _ _ _ b9
     simp only [List.getElem?_toArray,List.getElem?_cons_succ,List.getElem?_cons_zero] at q0 q1 q2 c0
     have HX:=Lib.hid hx
     clear b6 b9 hrd3 hg3 hx
     go_wp2_with fail
     refine bodyPost_ret (zaM rfl _ _ _ _ _ _ _ rfl (zai (zai (zai H3.out.2.2.1 _) _) _) Tryz.underlying64 rfl zbf) rfl ?_
     exact zdc HX.out (Fin.set w w3 _ _ _) H3.out.1 H3.out.2.1 hR
   | ok q =>
     obtain ⟨kf,rest,c3'⟩:=q
     obtain ⟨A2,n2,Ar,cr,rfl,hrd3,hkf,hrest,hcr⟩:=hres
     have H3:=Lib.hid (H.out.grown hg3 hrd3)
     have b6:=H3.out.2.2.1
     have b9:=H3.out.2.2.2.1
     have q0:=cell_of_row w3 w.heap.size 0 _ _ _ b6
     have q1:=cell_of_row w3 w.heap.size 1 _ _ _ b6
     have q2:=cell_of_row w3 w.heap.size 2 _ _ _ b6
     have r0:=frozen_of_row w3 w.heap.size 0 _ _ b6
     have r1:=frozen_of_row w3 w.heap.size 1 _ _ b6
     have r2:=frozen_of_row w3 w.heap.size 2 _ _ b6
     have c0:=cell_of_row w3 w1.heap.size 0 _ _ _ b9
     simp only [List.getElem?_toArray,List.getElem?_cons_succ,List.getElem?_cons_zero] at q0 q1 q2 c0
     have HX:=Lib.hid (show SeesC w3 (newB w2 w3) A2 n2 kf∧SeesP w3 p Ar (Us rest) from ⟨hkf,hrest⟩)
     have h62:=lt_of_block H.out.2.2.1
     clear b6 b9 hrd3 hg3 hkf hrest
     go_wp2_with fail
     refine bodyPost_ret (zaM rfl _ _ _ _ _ _ _ rfl (zai (zai (zai H3.out.2.2.1 _) _) _) Tryz.underlying64 rfl zbf) rfl ?_
     exact obj_okC (Av:=none) (v:=[]) (Fin.set w w3 _ _ _) H3.out.1 H3.out.2.1 hR h62 hp ⟨fun _=>rfl,Nat.zero_le _⟩ (.inl rfl) HX.out.1 HX.out.2 hcr
 · refine (HM2.out _ _ HS2.out (by omega)).mono ?_
   rintro e w3 ⟨hg3,hres⟩
   cases r with
   | error x =>
     obtain ⟨rfl,hx,c3',hrd3⟩:=hres
     have H3:=Lib.hid (H.out.grown hg3 hrd3)
     have b6:=H3.out.2.2.1
     have b9:=H3.out.2.2.2.1
     have q0:=cell_of_row w3 w.heap.size 0 _ _ _ b6
     have q1:=cell_of_row w3 w.heap.size 1 _ _ _ b6
     have q2:=cell_of_row w3 w.heap.size 2 _ _ _ b6
     have r0:=frozen_of_row w3 w.heap.size 0 _ _ b6
     have r1:=frozen_of_row w3 w.heap.size 1 _ _ b6
     have r2:=frozen_of_row w3 w.heap.size 2 _ _ b6
     have c0:=cell_of_row w3 w1.heap.size 0 _ _ _ b9
     simp only [List.getElem?_toArray,List.getElem?_cons_succ,List.getElem?_cons_zero] at q0 q1 q2 c0
     have HX:=Lib.hid hx
     clear b6 b9 hrd3 hg3 hx
     go_wp2_with fail
     refine bodyPost_ret (zaM rfl _ _ _ _ _ _ _ rfl (zai (zai (zai H3.out.2.2.1 _) _) _) Tryz.underlying64 rfl zbf) rfl ?_
     exact zdc HX.out (Fin.set w w3 _ _ _) H3.out.1 H3.out.2.1 hR
   | ok q =>
     obtain ⟨kf,rest,c3'⟩:=q
     obtain ⟨A2,n2,Ar,cr,rfl,hrd3,hkf,hrest,hcr⟩:=hres
     have H3:=Lib.hid (H.out.grown hg3 hrd3)
     have b6:=H3.out.2.2.1
     have b9:=H3.out.2.2.2.1
     have q0:=cell_of_row w3 w.heap.size 0 _ _ _ b6
     have q1:=cell_of_row w3 w.heap.size 1 _ _ _ b6
     have q2:=cell_of_row w3 w.heap.size 2 _ _ _ b6
     have r0:=frozen_of_row w3 w.heap.size 0 _ _ b6
     have r1:=frozen_of_row w3 w.heap.size 1 _ _ b6
     have r2:=frozen_of_row w3 w.heap.size 2 _ _ b6
     have c0:=cell_of_row w3 w1.heap.size 0 _ _ _ b9
     simp only [List.getElem?_toArray,List.getElem?_cons_succ,List.getElem?_cons_zero] at q0 q1 q2 c0
     have HX:=Lib.hid (show SeesC w3 (newB w2 w3) A2 n2 kf∧SeesP w3 p Ar (Us rest) from ⟨hkf,hrest⟩)
     have h62:=lt_of_block H.out.2.2.1
     clear b6 b9 hrd3 hg3 hkf hrest
     go_wp2_with fail
     refine bodyPost_ret (zaM rfl _ _ _ _ _ _ _ rfl (zai (zai (zai H3.out.2.2.1 _) _) _) Tryz.underlying64 rfl zbf) rfl ?_
     exact obj_okC (Av:=none) (v:=[]) (Fin.set w w3 _ _ _) H3.out.1 H3.out.2.1 hR h62 hp ⟨fun _=>rfl,Nat.zero_le _⟩ (.inl rfl) HX.out.1 HX.out.2 hcr
end Go.Proofs.YtnlhbknajdpnbaaGreatDoor
namespace Go.Proofs.YtnlhbknajdpnbaaGreatDoor
open Go.RowKit
set_option maxRecDepth 8000
def ListCC (R : Nat) (p : Nat → Prop) (st : Bool) (bs : List UInt8) (n : Nat) (d : Int) (w2 : World) (r : Except Int (F × Nat)) : Prop := ∀ (A : Option Addr) (cap : Nat), SeesP w2 p A (Us bs) → n ≤ cap →
 Calls Tryz.prog 62 #[.pointer (some ⟨R,0,none⟩),.slice A n cap,.int .i64 d] w2 (zga w2 R st r)
set_option maxHeartbeats 2000000 in
theorem obj_primC (st : Bool) (d : Int) (c ll : Nat) (b0 o0 : Nat) (cap : Nat) (w : World) (R : Nat) (p : Nat → Prop) (t f n s : Nat) (hP : Pre w R st (some ⟨b0, o0, none⟩) ll cap d t f n s c 0) (l : List UInt8) (hl : ll = l.length) (hf : f ≠ 128) (hs : s ≤ ll) (hcap : ll ≤ cap) (hll : ll ≤ 4096) (hn : n ≤ ll - s) (ht : t ≤ 65535) (hk : zaE t = false) (hp : ∀ x, p x → oldB w R x) (hsee : SeesP w p (some ⟨b0, o0, none⟩) (Us l)) :
 Calls Tryz.prog 83 #[.pointer (some ⟨R,0,none⟩),.slice (some ⟨b0,o0,none⟩) ll cap,.int .i64 d] w (zdq w R p st (.ok ((t:Int),(l.drop s).take n,.nil,(l.drop s).drop n,c+1))):=by
 have hR:=lt_of_block hP.2.2
 have HP:=Lib.hid hP
 have d1:((f:Int)==128)=false:=by simp;omega
 have HS:=Lib.hid hsee
 have HL:=Lib.hid hl
 have HK:=Lib.hid (show ∀u,Calls Tryz.prog 106 #[.int .i64 (t:Int)] u fun e w'=>e=.returned (.bool false)∧w'=u from fun u=>by have:=zeh (t:Int) (by omega) (by omega) u;rwa [hk] at this)
 obtain ⟨rr,hrr⟩ : ∃rr:Except Int ObR,rr=.ok ((t:Int),(l.drop s).take n,.nil,(l.drop s).drop n,c+1):=⟨_,rfl⟩
 rw [←hrr]
 have HRR:=Lib.hid hrr
 clear hP hf hsee hl hk hrr
 go_enter Tryz.func83,Tryz.ntmps83
 go_wp2_with fail
 refine (HP.out.1 _ ((Below.refl _ _).alloc (Nat.le_refl _) _)).mono ?_
 rintro e w1 ⟨rfl,hb1⟩
 go_wp2_with fail
 refine (HP.out.2.1 _ (zaw ((hb1.block R (by simp;omega)).trans (zaw HP.out.2.2 _)) _)).mono ?_
 rintro e w2 ⟨rfl,hg,c',hrd,hc'⟩
 have H:=Lib.hid (ObSt.mk' HP.out.2.2 hb1 hg hrd)
 have b6:=H.out.2.2.1
 have b9:=H.out.2.2.2.1
 have q0:=cell_of_row w2 w.heap.size 0 _ _ _ b6
 have q1:=cell_of_row w2 w.heap.size 1 _ _ _ b6
 have q2:=cell_of_row w2 w.heap.size 2 _ _ _ b6
 have r0:=frozen_of_row w2 w.heap.size 0 _ _ b6
 have r1:=frozen_of_row w2 w.heap.size 1 _ _ b6
 have r2:=frozen_of_row w2 w.heap.size 2 _ _ b6
 have c0:=cell_of_row w2 w1.heap.size 0 _ _ _ b9
 have c1:=cell_of_row w2 w1.heap.size 1 _ _ _ b9
 have c2:=cell_of_row w2 w1.heap.size 2 _ _ _ b9
 have c3:=cell_of_row w2 w1.heap.size 3 _ _ _ b9
 simp only [List.getElem?_toArray,List.getElem?_cons_succ,List.getElem?_cons_zero] at q0 q1 q2 c0 c1 c2 c3
 have hs2:=HS.out.keep fun q hq=>zau H.out.1 (hp _ hq).1 (hp _ hq).2
 have hs3:=zbs hs2 (show s≤l.length by have:=HL.out;omega)
 have HS2:=Lib.hid (show SeesP w2 p (some ⟨b0,o0+s,none⟩) (Us ((l.drop s).take n))∧SeesP w2 p (some ⟨b0,o0+s+n,none⟩) (Us ((l.drop s).drop n)) from ⟨zcx hs3,zbs hs3 (by rw [List.length_drop];have:=HL.out;omega)⟩)
 have HCL:=Lib.hid (cloneC (p:=p) (bs:=(l.drop s).take n) (n:=n) (w2:=w2) (by rw [List.length_take,List.length_drop];have:=HL.out;omega) (by omega) (fun x hx=>Nat.lt_of_lt_of_le (hp x hx).1 H.out.1.size))
 have HC:=Lib.hid (show Rd w2 R st (c+1) by have:=hc' rfl;rw [←this];exact hrd)
 have hN6:w.heap.size < w2.heap.size:=lt_of_block b6
 have hN9:w1.heap.size < w2.heap.size:=lt_of_block b9
 have HSE:=Lib.hid (show n=0→SeesP w2 p (some ⟨b0,o0,none⟩) (Us ((l.drop s).take n)) from fun h=>.inl (by rw [h];rfl))
 have HR:=Lib.hid (show ∀w3,Below w2.heap.size w2 w3→SeesP w3 p (some ⟨b0,o0+s+n,none⟩) (Us ((l.drop s).drop n)) from fun w3 hw=>HS2.out.2.keep fun q hq=>hw.cell (Nat.lt_of_lt_of_le (hp _ hq).1 H.out.1.size))
 have HR0:=Lib.hid (show ll - s≤n→∀(w3:World) (A:Option Addr),SeesP w3 p A (Us ((l.drop s).drop n)) from fun hn w3 A=>zbU (by rw [List.length_drop];have:=HL.out;omega))
 have HD := Lib.hid (show ∀ (w3 W : World) (g : Nat) (Ar : Option Addr) (cr : Nat), Fin w w3 W → Below w2.heap.size w2 w3 → ObSt w R st w1.heap.size t f n s (c + 1) w3 → SeesP w3 (newB w2 w3) (some ⟨g, 0, none⟩) (Us ((l.drop s).take n)) → SeesP w3 p Ar (Us ((l.drop s).drop n)) → ll - s - n ≤ cr →
  zdq w R p st rr (.returned (.tuple #[.agg #[.int .i64 t,.slice (some ⟨g,0,none⟩) n n,.slice none 0 0],.slice Ar (ll - s - n) cr,.int .i64 0])) W from fun w3 W g Ar cr hF hb h3 hv hr hcr=>by
  have e1:((l.drop s).take n).length=n:=by rw [List.length_take,List.length_drop];have:=HL.out;omega
  have e2:((l.drop s).drop n).length=ll - s - n:=by rw [List.length_drop,List.length_drop];have:=HL.out;omega
  have h:=obj_okC (w2:=w2) (t:=(t:Int)) (Av:=some ⟨g,0,none⟩) (v:=(l.drop s).take n) (cv:=n) (Ak:=none) (k:=.nil) (ck:=0) (Ar:=Ar) (rest:=(l.drop s).drop n) (cr:=cr) hF h3.1 h3.2.1 hR (lt_of_block H.out.2.2.1) hp ⟨fun e=>(by cases e),(by rw [e1];exact Nat.le_refl _)⟩ hv SeesC.nil_ hr (by rw [e2];exact hcr)
  rw [e1,e2] at h
  rw [HRR.out]
  exact h)
 have hN6:w.heap.size < w2.heap.size:=lt_of_block b6
 have hN9:w1.heap.size < w2.heap.size:=lt_of_block b9
 have HSE:=Lib.hid (show n=0→SeesP w2 p (some ⟨b0,o0,none⟩) (Us ((l.drop s).take n)) from fun h=>.inl (by rw [h];rfl))
 clear b6 b9 hb1 hg hrd hc' hs2 hs3
 go_wp2_with fail
 · have hn0 : n = 0 := by omega
   have HSE0:=Lib.hid (HSE.out hn0)
   clear HSE
   subst hn0
   go_quiet (fail)
   go_wp2_with (go_at_call 106;refine (HK.out _).mono ?_;rintro e w' ⟨rfl,rfl⟩)
   all_goals
    go_region_with (go_at_call 107;refine (HCL.out _ _ _ (by first | exact zbq (Below.refl _ _) _ | exact (zbq (Below.refl _ _) _).drew | exact Below.refl _ _ | exact (Below.refl _ _).drew) HSE0.out).mono ?_;rintro e w3 ⟨g,rfl,hsee,hb3⟩;have hb4:Below w2.heap.size w2 w3:=Below.trans (by first | exact zbq (Below.refl _ _) _ | exact (zbq (Below.refl _ _) _).drew | exact Below.refl _ _ | exact (Below.refl _ _).drew) (hb3.mono (Nat.le_refl _));have HV:Hid (SeesP w3 (newB w2 w3) (some ⟨g,0,none⟩) (Us ((l.drop s).take 0))):=Lib.hid hsee;have H3:=Lib.hid (H.out.grown (zaD hb4) (HC.out.grown hb4));have c0:=(hb4.cell (p:=⟨w1.heap.size,0,none⟩) hN9).trans c0;have q0:=(hb4.cell (p:=⟨w.heap.size,0,none⟩) hN6).trans q0;have q1:=(hb4.cell (p:=⟨w.heap.size,1,none⟩) hN6).trans q1;have q2:=(hb4.cell (p:=⟨w.heap.size,2,none⟩) hN6).trans q2;have r0:=(hb4.frozen (p:=⟨w.heap.size,0,none⟩) hN6).trans r0;have r1:=(hb4.frozen (p:=⟨w.heap.size,1,none⟩) hN6).trans r1;have r2:=(hb4.frozen (p:=⟨w.heap.size,2,none⟩) hN6).trans r2;clear hb3 hsee)
    all_goals
     go_wp2_with fail
     refine bodyPost_ret (zaM rfl _ _ _ _ _ _ _ rfl (zai (zai (zai H3.out.2.2.1 _) _) _) Tryz.underlying64 rfl zbf) rfl ?_
     exact HD.out w3 _ g _ _ (Fin.set w w3 _ _ _) hb4 H3.out HV.out (by first | exact HR.out _ hb4 | exact HR0.out (by omega) _ _) (by omega)
 · go_quiet (fail)
   go_wp2_with (go_at_call 106;refine (HK.out _).mono ?_;rintro e w' ⟨rfl,rfl⟩)
   all_goals
    go_region_with (go_at_call 107;refine (HCL.out _ _ _ (by first | exact zbq (Below.refl _ _) _ | exact (zbq (Below.refl _ _) _).drew | exact Below.refl _ _ | exact (Below.refl _ _).drew) HS2.out.1).mono ?_;rintro e w3 ⟨g,rfl,hsee,hb3⟩;have hb4:Below w2.heap.size w2 w3:=Below.trans (by first | exact zbq (Below.refl _ _) _ | exact (zbq (Below.refl _ _) _).drew | exact Below.refl _ _ | exact (Below.refl _ _).drew) (hb3.mono (Nat.le_refl _));have HV:Hid (SeesP w3 (newB w2 w3) (some ⟨g,0,none⟩) (Us ((l.drop s).take n))):=Lib.hid hsee;have H3:=Lib.hid (H.out.grown (zaD hb4) (HC.out.grown hb4));have c0:=(hb4.cell (p:=⟨w1.heap.size,0,none⟩) hN9).trans c0;have q0:=(hb4.cell (p:=⟨w.heap.size,0,none⟩) hN6).trans q0;have q1:=(hb4.cell (p:=⟨w.heap.size,1,none⟩) hN6).trans q1;have q2:=(hb4.cell (p:=⟨w.heap.size,2,none⟩) hN6).trans q2;have r0:=(hb4.frozen (p:=⟨w.heap.size,0,none⟩) hN6).trans r0;have r1:=(hb4.frozen (p:=⟨w.heap.size,1,none⟩) hN6).trans r1;have r2:=(hb4.frozen (p:=⟨w.heap.size,2,none⟩) hN6).trans r2;clear hb3 hsee)
    all_goals
     go_wp2_with fail
     refine bodyPost_ret (zaM rfl _ _ _ _ _ _ _ rfl (zai (zai (zai H3.out.2.2.1 _) _) _) Tryz.underlying64 rfl zbf) rfl ?_
     exact HD.out w3 _ g _ _ (Fin.set w w3 _ _ _) hb4 H3.out HV.out (by first | exact HR.out _ hb4 | exact HR0.out (by omega) _ _) (by omega)
end Go.Proofs.YtnlhbknajdpnbaaGreatDoor
namespace Go.Proofs.YtnlhbknajdpnbaaGreatDoor
open Go.RowKit
set_option maxRecDepth 8000
set_option maxHeartbeats 2000000 in
theorem obj_consC (st : Bool) (d : Int) (c ll : Nat) (b0 o0 : Nat) (cap : Nat) (w : World) (R : Nat) (p : Nat → Prop) (t f n s : Nat) (hP : Pre w R st (some ⟨b0, o0, none⟩) ll cap d t f n s c 0) (l : List UInt8) (hl : ll = l.length) (hd : 0 ≤ d ∧ d ≤ 9) (hf : f ≠ 128) (hs : s ≤ ll) (hcap : ll ≤ cap) (hll : ll ≤ 4096) (hn : n ≤ ll - s) (ht : t ≤ 65535) (hk : zaE t = true) (hp : ∀ x, p x → oldB w R x) (hsee : SeesP w p (some ⟨b0, o0, none⟩) (Us l))
 (r:Except Int (F×Nat)) (hM:∀w2,w.grownBy w2 (some R)→Rd w2 R st (c+1)→ListCC R p st ((l.drop s).take n) n (d+1) w2 r) :
 Calls Tryz.prog 83 #[.pointer (some ⟨R,0,none⟩),.slice (some ⟨b0,o0,none⟩) ll cap,.int .i64 d] w (zdq w R p st (obL t ((l.drop s).drop n) r)):=by
 have hR:=lt_of_block hP.2.2
 have HP:=Lib.hid hP
 have d1:((f:Int)==128)=false:=by simp;omega
 obtain ⟨hd1,hd2⟩:=hd
 have HM:=Lib.hid hM
 have HS:=Lib.hid hsee
 have HL:=Lib.hid hl
 have HK:=Lib.hid (show ∀u,Calls Tryz.prog 106 #[.int .i64 (t:Int)] u fun e w'=>e=.returned (.bool true)∧w'=u from fun u=>by have:=zeh (t:Int) (by omega) (by omega) u;rwa [hk] at this)
 obtain ⟨rest,hrest⟩ : ∃rest,rest=(l.drop s).drop n:=⟨_,rfl⟩
 have HRE:=Lib.hid hrest
 rw [←hrest]
 clear hP hf hM hsee hl hk hrest
 go_enter Tryz.func83,Tryz.ntmps83
 go_wp2_with fail
 refine (HP.out.1 _ ((Below.refl _ _).alloc (Nat.le_refl _) _)).mono ?_
 rintro e w1 ⟨rfl,hb1⟩
 go_wp2_with fail
 refine (HP.out.2.1 _ (zaw ((hb1.block R (by simp;omega)).trans (zaw HP.out.2.2 _)) _)).mono ?_
 rintro e w2 ⟨rfl,hg,c',hrd,hc'⟩
 have H:=Lib.hid (ObSt.mk' HP.out.2.2 hb1 hg hrd)
 have b6:=H.out.2.2.1
 have b9:=H.out.2.2.2.1
 have q0:=cell_of_row w2 w.heap.size 0 _ _ _ b6
 have q1:=cell_of_row w2 w.heap.size 1 _ _ _ b6
 have q2:=cell_of_row w2 w.heap.size 2 _ _ _ b6
 have r0:=frozen_of_row w2 w.heap.size 0 _ _ b6
 have r1:=frozen_of_row w2 w.heap.size 1 _ _ b6
 have r2:=frozen_of_row w2 w.heap.size 2 _ _ b6
 have c0:=cell_of_row w2 w1.heap.size 0 _ _ _ b9
 have c1:=cell_of_row w2 w1.heap.size 1 _ _ _ b9
 have c2:=cell_of_row w2 w1.heap.size 2 _ _ _ b9
 have c3:=cell_of_row w2 w1.heap.size 3 _ _ _ b9
 simp only [List.getElem?_toArray,List.getElem?_cons_succ,List.getElem?_cons_zero] at q0 q1 q2 c0 c1 c2 c3
 have hs2:=HS.out.keep fun q hq=>zau H.out.1 (hp _ hq).1 (hp _ hq).2
 have hs3:=zbs hs2 (show s≤l.length by have:=HL.out;omega)
 have HS2:=Lib.hid (show SeesP w2 p (some ⟨b0,o0+s,none⟩) (Us ((l.drop s).take n))∧SeesP w2 p (some ⟨b0,o0+s+n,none⟩) (Us ((l.drop s).drop n)) from ⟨zcx hs3,zbs hs3 (by rw [List.length_drop];have:=HL.out;omega)⟩)
 have HLC:=Lib.hid (show ∀k,ListCC R p st ((l.drop s).take n) n (d+1) (w2.drewN k) r from fun k=>HM.out _ (H.out.drewN k).1 (by have:=hc' rfl;rw [←this];exact (H.out.drewN k).2.1))
 have HSE:=Lib.hid (show n=0→∀(w2:World) (A:Option Addr),SeesP w2 p A (Us ((l.drop s).take n)) from fun h w2 A=>.inl (by rw [h];rfl))
 have HR := Lib.hid (show ∀ w3, w.grownBy w3 (some R) → SeesP w3 p (some ⟨b0, o0 + s + n, none⟩) (Us rest) from fun w3 hw => by
  rw [HRE.out]
  exact zbs (zbs (HS.out.keep fun q hq=>zau hw (hp _ hq).1 (hp _ hq).2) (by have:=HL.out;omega)) (by rw [List.length_drop];have:=HL.out;omega))
 have HR0:=Lib.hid (show ll - s≤n→∀(w3:World) (A:Option Addr),SeesP w3 p A (Us rest) from fun hn w3 A=>by rw [HRE.out];exact zbU (by rw [List.length_drop];have:=HL.out;omega))
 have HD := Lib.hid (show ∀ (w3 W : World) (A2 : Option Addr) (n2 : Nat) (kf : F) (c3 : Nat) (Ar : Option Addr) (cr : Nat), Fin w w3 W → ObSt w R st w1.heap.size t f n s c3 w3 → SeesC w3 (newB w2 w3) A2 n2 kf → SeesP w3 p Ar (Us rest) → ll - s - n ≤ cr →
  zdq w R p st (.ok ((t:Int),[],kf,rest,c3)) (.returned (.tuple #[.agg #[.int .i64 t,.slice none 0 0,.slice A2 kf.len n2],.slice Ar (ll - s - n) cr,.int .i64 0])) W from fun w3 W A2 n2 kf c3 Ar cr hF h3 hkf hr hcr=>by
  have e2:rest.length=ll - s - n:=by rw [HRE.out,List.length_drop,List.length_drop];have:=HL.out;omega
  have h:=obj_okC (w2:=w2) (t:=(t:Int)) (Av:=none) (v:=[]) (cv:=0) (Ak:=A2) (k:=kf) (ck:=n2) (Ar:=Ar) (rest:=rest) (cr:=cr) hF h3.1 h3.2.1 hR (lt_of_block H.out.2.2.1) hp ⟨fun _=>rfl,Nat.zero_le _⟩ (.inl rfl) hkf hr (by rw [e2];exact hcr)
  rw [e2] at h
  exact h)
 clear b6 b9 hb1 hg hrd hc' hs2 hs3
 go_wp2_with fail
 · have hn0 : n = 0 := by omega
   have HSE0:=Lib.hid (HSE.out hn0)
   clear HSE
   subst hn0
   go_quiet (fail)
   go_wp2_with (go_at_call 106;refine (HK.out _).mono ?_;rintro e w' ⟨rfl,rfl⟩)
   all_goals
    refine (HLC.out nq _ _ (HSE0.out _ _) (by omega)).mono ?_
    rintro e w3 ⟨hg3,hres⟩
    cases r with
    | error x =>
      obtain ⟨rfl,hx,c3',hrd3⟩:=hres
      have H3:=Lib.hid ((H.out.drewN nq).grown hg3 hrd3)
      have b6:=H3.out.2.2.1
      have b9:=H3.out.2.2.2.1
      have q0:=cell_of_row w3 w.heap.size 0 _ _ _ b6
      have q1:=cell_of_row w3 w.heap.size 1 _ _ _ b6
      have q2:=cell_of_row w3 w.heap.size 2 _ _ _ b6
      have r0:=frozen_of_row w3 w.heap.size 0 _ _ b6
      have r1:=frozen_of_row w3 w.heap.size 1 _ _ b6
      have r2:=frozen_of_row w3 w.heap.size 2 _ _ b6
      have c0:=cell_of_row w3 w1.heap.size 0 _ _ _ b9
      simp only [List.getElem?_toArray,List.getElem?_cons_succ,List.getElem?_cons_zero] at q0 q1 q2 c0
      have HX:=Lib.hid hx
      clear b6 b9 hrd3 hg3 hx
      go_wp2_with fail
      refine bodyPost_ret (zaM rfl _ _ _ _ _ _ _ rfl (zai (zai (zai H3.out.2.2.1 _) _) _) Tryz.underlying64 rfl zbf) rfl ?_
      exact zdc HX.out (Fin.set w w3 _ _ _) H3.out.1 H3.out.2.1 hR
    | ok q =>
      obtain ⟨kf,c3'⟩:=q
      obtain ⟨A2,n2,rfl,hrd3,hkf⟩:=hres
      have H3:=Lib.hid ((H.out.drewN nq).grown hg3 hrd3)
      have b6:=H3.out.2.2.1
      have b9:=H3.out.2.2.2.1
      have q0:=cell_of_row w3 w.heap.size 0 _ _ _ b6
      have q1:=cell_of_row w3 w.heap.size 1 _ _ _ b6
      have q2:=cell_of_row w3 w.heap.size 2 _ _ _ b6
      have r0:=frozen_of_row w3 w.heap.size 0 _ _ b6
      have r1:=frozen_of_row w3 w.heap.size 1 _ _ b6
      have r2:=frozen_of_row w3 w.heap.size 2 _ _ b6
      have c0:=cell_of_row w3 w1.heap.size 0 _ _ _ b9
      simp only [List.getElem?_toArray,List.getElem?_cons_succ,List.getElem?_cons_zero] at q0 q1 q2 c0
      have HX:=Lib.hid (show SeesC w3 (newB w2 w3) A2 n2 kf from hkf)
      have HRW:=Lib.hid (HR.out w3 (zae (H.out.drewN nq).1 hg3))
      have HRW0:=Lib.hid (fun h A=>HR0.out h w3 A)
      clear b6 b9 hrd3 hg3 hkf
      go_wp2_with fail
      refine bodyPost_ret (zaM rfl _ _ _ _ _ _ _ rfl (zai (zai (zai H3.out.2.2.1 _) _) _) Tryz.underlying64 rfl zbf) rfl ?_
      first | exact HD.out w3 _ A2 n2 kf c3' _ _ (Fin.set w w3 _ _ _) H3.out HX.out HRW.out (by omega) | exact HD.out w3 _ A2 n2 kf c3' _ _ (Fin.set w w3 _ _ _) H3.out HX.out (HRW0.out (by omega) _) (by omega)
 · go_quiet (fail)
   go_wp2_with (go_at_call 106;refine (HK.out _).mono ?_;rintro e w' ⟨rfl,rfl⟩)
   all_goals
    refine (HLC.out nq _ _ HS2.out.1 (by omega)).mono ?_
    rintro e w3 ⟨hg3,hres⟩
    cases r with
    | error x =>
      obtain ⟨rfl,hx,c3',hrd3⟩:=hres
      have H3:=Lib.hid ((H.out.drewN nq).grown hg3 hrd3)
      have b6:=H3.out.2.2.1
      have b9:=H3.out.2.2.2.1
      have q0:=cell_of_row w3 w.heap.size 0 _ _ _ b6
      have q1:=cell_of_row w3 w.heap.size 1 _ _ _ b6
      have q2:=cell_of_row w3 w.heap.size 2 _ _ _ b6
      have r0:=frozen_of_row w3 w.heap.size 0 _ _ b6
      have r1:=frozen_of_row w3 w.heap.size 1 _ _ b6
      have r2:=frozen_of_row w3 w.heap.size 2 _ _ b6
      have c0:=cell_of_row w3 w1.heap.size 0 _ _ _ b9
      simp only [List.getElem?_toArray,List.getElem?_cons_succ,List.getElem?_cons_zero] at q0 q1 q2 c0
      have HX:=Lib.hid hx
      clear b6 b9 hrd3 hg3 hx
      go_wp2_with fail
      refine bodyPost_ret (zaM rfl _ _ _ _ _ _ _ rfl (zai (zai (zai H3.out.2.2.1 _) _) _) Tryz.underlying64 rfl zbf) rfl ?_
      exact zdc HX.out (Fin.set w w3 _ _ _) H3.out.1 H3.out.2.1 hR
    | ok q =>
      obtain ⟨kf,c3'⟩:=q
      obtain ⟨A2,n2,rfl,hrd3,hkf⟩:=hres
      have H3:=Lib.hid ((H.out.drewN nq).grown hg3 hrd3)
      have b6:=H3.out.2.2.1
      have b9:=H3.out.2.2.2.1
      have q0:=cell_of_row w3 w.heap.size 0 _ _ _ b6
      have q1:=cell_of_row w3 w.heap.size 1 _ _ _ b6
      have q2:=cell_of_row w3 w.heap.size 2 _ _ _ b6
      have r0:=frozen_of_row w3 w.heap.size 0 _ _ b6
      have r1:=frozen_of_row w3 w.heap.size 1 _ _ b6
      have r2:=frozen_of_row w3 w.heap.size 2 _ _ b6
      have c0:=cell_of_row w3 w1.heap.size 0 _ _ _ b9
      simp only [List.getElem?_toArray,List.getElem?_cons_succ,List.getElem?_cons_zero] at q0 q1 q2 c0
      have HX:=Lib.hid (show SeesC w3 (newB w2 w3) A2 n2 kf from hkf)
      have HRW:=Lib.hid (HR.out w3 (zae (H.out.drewN nq).1 hg3))
      have HRW0:=Lib.hid (fun h A=>HR0.out h w3 A)
      clear b6 b9 hrd3 hg3 hkf
      go_wp2_with fail
      refine bodyPost_ret (zaM rfl _ _ _ _ _ _ _ rfl (zai (zai (zai H3.out.2.2.1 _) _) _) Tryz.underlying64 rfl zbf) rfl ?_
      first | exact HD.out w3 _ A2 n2 kf c3' _ _ (Fin.set w w3 _ _ _) H3.out HX.out HRW.out (by omega) | exact HD.out w3 _ A2 n2 kf c3' _ _ (Fin.set w w3 _ _ _) H3.out HX.out (HRW0.out (by omega) _) (by omega)
end Go.Proofs.YtnlhbknajdpnbaaGreatDoor
namespace Go.Proofs.YtnlhbknajdpnbaaGreatDoor
open Go.RowKit
set_option maxRecDepth 8000
theorem obj_allC (st : Bool) : ∀ k, k ≤ 8 → ObjAllC st k
 | 0, _ => by
   intro c l A cap w R p hp hc hl hcap hr hs
   by_cases hE:hdrE l=0
   · have e : pObj st 0 c l = .error (admE st (tagV l) (hdrF l) (hdrN l) 9 c) := by unfold pObj; rw [if_neg (by omega)]
     rw [e]
     exact zeR st _ c l.length A cap w R p _ _ _ _ _ (pre_of hp hl hc hr hs hE rfl rfl rfl rfl rfl) adm_nine
   · have e : pObj st 0 c l = .error (hdrE l) := by unfold pObj; rw [if_pos hE]
     rw [e]
     exact zfa st _ c l A cap w R p hp hl hr hs hE
 | k + 1, hk => by
   intro c l A cap w R p hp hc hl hcap hr hs
   have hO:=obj_allC st k (by omega)
   have hL:=rd_listC st k hO
   have hM:=rd_markC st k hO
   have ed:(9:Int) - ((k+1:Nat):Int)=8 - (k:Int):=by omega
   rw [ed]
   by_cases hE:hdrE l=0
   · have hsz := zfH hE
     have hra:=zfJ hE
     obtain ⟨b0,o0,rfl⟩:=sees_some hs (by omega)
     have hP:=pre_of (cap:=cap) (d:=8 - (k:Int)) hp hl hc hr hs hE rfl rfl rfl rfl rfl
     by_cases hA:admE st (tagV l) (hdrF l) (hdrN l) (8 - (k:Int)) c=0
     · rw [hA] at hP
       have hc1:=adm_ok hA
       have ed2:(8:Int) - (k:Int)+1=9 - (k:Int):=by omega
       by_cases hF:hdrF l=128
       · have e : pObj st (k + 1) c l = obM (tagV l) (zbF (pObj st k) (l.drop (hdrS l)).length (c + 1) (l.drop (hdrS l))) := by
          simp only [pObj]
          rw [if_neg (by omega),if_neg (by omega),if_pos hF]
          cases zbF (pObj st k) (l.drop (hdrS l)).length (c+1) (l.drop (hdrS l)) with
          | error x=>rfl
          | ok q=>obtain ⟨f,r,c'⟩:=q;rfl
         rw [e]
         refine obj_markC st _ c l.length b0 o0 cap w R p _ _ _ _ hP l rfl (by omega) hF hsz.2 hcap hl hp hs _ ?_
         intro w2 hg hr2 A2 cap2 hs2 hc2
         have h:=hM (c+1) (l.drop (hdrS l)) A2 cap2 w2 R p (fun x hx=>⟨Nat.lt_of_lt_of_le (hp x hx).1 hg.size,(hp x hx).2⟩) hc1 (by rw [List.length_drop];omega) (by rw [List.length_drop];exact hc2) hr2 hs2
         rw [ed2]
         rw [List.length_drop] at h ⊢
         exact h
       · by_cases hN : (l.drop (hdrS l)).length < hdrN l
         · have e : pObj st (k + 1) c l = .error 6 := by
            simp only [pObj]
            rw [if_neg (by omega),if_neg (by omega),if_neg hF,if_pos hN]
           rw [e]
           rw [List.length_drop] at hN
           exact obj_shortC st _ c l.length b0 o0 cap w R p _ _ _ _ hP hF hsz.2 hcap hl hN hra.2.2
         · cases hK : zaE (tagV l)
           · have e : pObj st (k + 1) c l = .ok (tagV l, (l.drop (hdrS l)).take (hdrN l), .nil, (l.drop (hdrS l)).drop (hdrN l), c + 1) := by
              simp only [pObj]
              rw [if_neg (by omega),if_neg (by omega),if_neg hF,if_neg hN,if_pos hK]
             rw [e]
             rw [List.length_drop] at hN
             exact obj_primC st _ c l.length b0 o0 cap w R p _ _ _ _ hP l rfl hF hsz.2 hcap hl (by omega) hra.1 hK hp hs
           · have e : pObj st (k + 1) c l = obL (tagV l) ((l.drop (hdrS l)).drop (hdrN l)) (zbH (pObj st k) (hdrN l) (c + 1) ((l.drop (hdrS l)).take (hdrN l))) := by
              simp only [pObj]
              rw [if_neg (by omega),if_neg (by omega),if_neg hF,if_neg hN,if_neg (by rw [hK];decide)]
              cases zbH (pObj st k) (hdrN l) (c+1) ((l.drop (hdrS l)).take (hdrN l)) with
              | error x=>rfl
              | ok q=>obtain ⟨f,c'⟩:=q;rfl
             rw [e]
             rw [List.length_drop] at hN
             refine obj_consC st _ c l.length b0 o0 cap w R p _ _ _ _ hP l rfl (by omega) hF hsz.2 hcap hl (by omega) hra.1 hK hp hs _ ?_
             intro w2 hg hr2 A2 cap2 hs2 hc2
             have el:((l.drop (hdrS l)).take (hdrN l)).length=hdrN l:=by rw [List.length_take,List.length_drop];omega
             have h:=hL (c+1) ((l.drop (hdrS l)).take (hdrN l)) A2 cap2 w2 R hc1 (by omega) (by omega) hr2 (hs2.imp fun x hx=>⟨Nat.lt_of_lt_of_le (hp x hx).1 hg.size,(hp x hx).2⟩)
             rw [ed2]
             rw [el] at h
             exact h
     · have e : pObj st (k + 1) c l = .error (admE st (tagV l) (hdrF l) (hdrN l) (8 - (k : Int)) c) := by
        simp only [pObj]
        rw [if_neg (by omega),if_pos hA]
       rw [e]
       exact zeR st _ c l.length _ cap w R p _ _ _ _ _ hP hA
   · have e : pObj st (k + 1) c l = .error (hdrE l) := by simp only [pObj]; rw [if_pos hE]
     rw [e]
     exact zfa st _ c l A cap w R p hp hl hr hs hE
def ParIsC (w : World) (r : Except Int (F × Nat)) (e : Ending) (w' : World) : Prop :=
 Below w.heap.size w w'∧match r with
 | .error x=>e=.returned (.tuple #[.slice none 0 0,.int .i64 x])∧x≠0
 | .ok (f,_)=>∃A c,e=.returned (.tuple #[.slice A f.len c,.int .i64 0])∧SeesC w' (newB w w') A c f
theorem par_ofC {w : World} {st : Bool} {r : Except Int (F × Nat)} {e : Ending} {w' : World} (h : zga (w.alloc (.cells #[.bool st, .int .i64 0] 102)) w.heap.size st r e w') : ParIsC w r e w' := by
 obtain ⟨hg,hr⟩:=h
 have hs:=hg.size
 simp only [World.size_alloc] at hs
 have hb : Below w.heap.size w w' := by
  refine ⟨hg.os,hg.tape,hg.output,by omega,fun k hk=>?_⟩
  exact (hg.block k (by simp;omega) (by intro e;injection e with e;omega)).trans (Below.heap_alloc w _ k hk)
 refine ⟨hb,?_⟩
 cases r with
 | error x=>exact ⟨hr.1,hr.2.1⟩
 | ok q =>
   obtain ⟨f,c'⟩:=q
   obtain ⟨A,c,he,_,hk⟩:=hr
   exact ⟨A,c,he,hk.imp fun b hb=>⟨by have:=hb.1;simp only [World.size_alloc] at this;omega,hb.2⟩⟩
theorem tlv_parseC (st : Bool) (l : List UInt8) (A : Option Addr) (cap : Nat) (w : World) (hl : l.length ≤ 140737488351232) (hcap : l.length ≤ cap) (hs : SeesP w (· < w.heap.size) A (Us l)) :
 Calls Tryz.prog 30 #[.slice A l.length cap,.bool st] w (ParIsC w (zcu st l)):=by
 by_cases h:4096 < l.length
 · have e : zcu st l = .error 2 := by unfold zcu; rw [if_pos h]
   rw [e]
   have d:decide ((4096:Int) < (l.length:Int))=true:=by simp;omega
   clear h hs e
   go_enter Tryz.func30,Tryz.ntmps30
   go_wp2_with fail
   go_ret2
   exact ⟨Below.refl _ _,rfl,by decide⟩
 · have e : zcu st l = zbH (pObj st 8) l.length 0 l := by unfold zcu; rw [if_neg h]
   rw [e]
   have d:decide ((4096:Int) < (l.length:Int))=false:=by simp;omega
   have hL := rd_listC st 8 (obj_allC st 8 (Nat.le_refl _)) 0 l A cap (w.alloc (.cells #[.bool st, .int .i64 0] 102)) w.heap.size (by omega) (by omega) hcap (heap_alloc_new w _)
    ((hs.keep fun q hq=>World.cell?_alloc_lt w _ q hq).imp fun x hx=>⟨by simp;omega,by omega⟩)
   obtain ⟨r,hr⟩ : ∃r,r=zbH (pObj st 8) l.length 0 l:=⟨_,rfl⟩
   rw [←hr] at hL ⊢
   have HL:=Lib.hid (show Calls Tryz.prog 62 #[.pointer (some ⟨w.heap.size,0,none⟩),.slice A l.length cap,.int .i64 1] _ _ from hL.mono fun e w' h=>par_ofC h)
   clear hL h hs e hr
   go_enter Tryz.func30,Tryz.ntmps30
   go_wp2_with fail
   refine HL.out.mono ?_
   rintro e w1 ⟨hb,hres⟩
   cases r with
   | error x =>
     obtain ⟨rfl,hx⟩:=hres
     have HX:=Lib.hid (show _∧_ from ⟨hb,hx⟩)
     clear hb hx
     go_wp2_with fail
     go_ret2
     exact ⟨HX.out.1,rfl,HX.out.2⟩
   | ok q =>
     obtain ⟨f,c'⟩:=q
     obtain ⟨A2,c2,rfl,hk⟩:=hres
     have HX:=Lib.hid (show _∧_ from ⟨hb,hk⟩)
     clear hb hk
     go_wp2_with fail
     go_ret2
     exact ⟨HX.out.1,A2,c2,rfl,HX.out.2⟩
end Go.Proofs.YtnlhbknajdpnbaaGreatDoor
