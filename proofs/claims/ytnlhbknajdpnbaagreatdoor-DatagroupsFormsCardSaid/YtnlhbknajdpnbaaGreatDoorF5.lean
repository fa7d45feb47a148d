/-
  What is proved here: what the program's shortest and admit return and how admit counts, for a header that was read; no condition of its own.
-/
import Derived.Test.YtnlhbknajdpnbaaGreatDoorRows
import Derived.Test.YtnlhbknajdpnbaaGreatDoorF0
import Derived.Test.YtnlhbknajdpnbaaGreatDoorF4
set_option linter.unusedVariables false
set_option linter.unusedSimpArgs false
namespace Go.Proofs.YtnlhbknajdpnbaaGreatDoor
open Go.RowKit
set_option maxRecDepth 8000
def zbp (f n:Nat):Bool:=if lb n=0 then decide (f≤127) else decide (f=128+lb n)
theorem hdr_shortest (t f n s : Nat) (hf : f < 256) (hn : n < 4294967296) (w : World) :
 Calls Tryz.prog 119 #[hdrV t f n s] w fun e w'=>e=.returned (.bool (zbp f n))∧Below w.heap.size w w':=by
 obtain ⟨y,hy⟩ : ∃y,y=lb n:=⟨_,rfl⟩
 have hL:∀u,Calls Tryz.prog 111 #[.int .i64 (n:Int)] u fun e w'=>e=.returned (.int .i64 (y:Int))∧w'=u:=fun u=>by rw [hy];exact zds n (by omega) u
 have HL:=Lib.hid hL
 have hy8:y≤8:=by rw [hy];exact lb_le8 n
 have hb:=(Below.refl w.heap.size w).alloc (Nat.le_refl _) (.cells #[.int .i64 t,.int .u8 f,.int .i64 n,.int .i64 s] 137)
 have HB:=Lib.hid hb
 clear hb hL
 unfold hdrV
 by_cases h:y=0
 · have e : zbp f n = decide ((f : Int) ≤ 127) := by unfold zbp; rw [← hy, if_pos h]; by_cases h2 : f ≤ 127 <;> simp [h2] <;> omega
   rw [e]
   clear hy e
   subst h
   go_enter Tryz.func119,Tryz.ntmps119
   go_wp2_with (go_at_call 111;refine (HL.out _).mono ?_;rintro e w' ⟨rfl,rfl⟩)
   go_ret
   exact ⟨rfl,HB.out⟩
 · have e : zbp f n = ((f : Int) == (128 : Int) + y) := by unfold zbp; rw [← hy, if_neg h]; by_cases h2 : f = 128 + y <;> simp [h2] <;> omega
   have d:((y:Int)==0)=false:=by simp;omega
   have d':(y==0)=false:=by simp;omega
   rw [e]
   clear hy e h
   go_enter Tryz.func119,Tryz.ntmps119
   go_wp2_with (go_at_call 111;refine (HL.out _).mono ?_;rintro e w' ⟨rfl,rfl⟩)
   go_ret
   exact ⟨rfl,HB.out⟩
def Rd (w:World) (R:Nat) (st:Bool) (c:Nat):Prop:=w.heap[R]? = some (.cells #[.bool st,.int .i64 (c:Int)] 102 (0,0))
def admE (st : Bool) (t f n : Nat) (d : Int) (c : Nat) : Int :=
 if (f=128∧zaE t=false)∨(st=true∧zbp f n=false) then 5 else if 8 < d then 7 else if 256 < c+1 then 2 else 0
def AdmIs (w : World) (R : Nat) (st : Bool) (x : Int) (c : Nat) (e : Ending) (w' : World) : Prop :=
 e=.returned (.int .i64 x)∧w.grownBy w' (some R)∧∃c',Rd w' R st c'∧(x=0→c'=c+1)
theorem Rd.grown {w w' : World} {R : Nat} {st : Bool} {c : Nat} (h : Rd w R st c) (hg : Below w.heap.size w w') : Rd w' R st c :=
 (hg.block R (lt_of_block h)).trans h
theorem zea {w w' : World} {R : Nat} {st : Bool} {c : Nat} {x : Int} (hx : x ≠ 0) (h : Rd w R st c) (hb : Below w.heap.size w w') : AdmIs w R st x c (.returned (.int .i64 x)) w' :=
 ⟨rfl,zaD hb,c,h.grown hb,fun e=>absurd e hx⟩
theorem Rd.count {w : World} {R : Nat} {st : Bool} {c : Nat} (h : Rd w R st c) : Rd (w.setCell ⟨R, 1, none⟩ (.int .i64 ((c : Int) + 1))) R st (c + 1) := by
 have:=zai (i:=1) h (.int .i64 ((c:Int)+1))
 unfold Rd
 rw [this]
 rfl
theorem zeu {w w' : World} {R : Nat} {st : Bool} {c : Nat} {x : Int} (h : Rd w R st c) (hb : Below w.heap.size w w') : AdmIs w R st x c (.returned (.int .i64 x)) (w'.setCell ⟨R, 1, none⟩ (.int .i64 ((c : Int) + 1))) := by
 refine ⟨rfl,?_,c+1,(h.grown hb).count,fun _=>rfl⟩
 refine zae (zaD hb) ⟨rfl,rfl,rfl,Nat.le_of_eq (by simp),fun k _ hk=>Below.heap_setCell w' _ _ k (by simpa using fun e=>hk (by rw [e]))⟩
theorem zdy {w : World} {R : Nat} {st : Bool} {c : Nat} {x : Int} (h : Rd w R st c) (o : Obj) : AdmIs w R st x c (.returned (.int .i64 x)) ((w.setCell ⟨R, 1, none⟩ (.int .i64 ((c : Int) + 1))).alloc o) := by
 refine ⟨rfl,?_,c+1,h.count.grown ((Below.refl _ _).alloc (Nat.le_refl _) o),fun _=>rfl⟩
 refine zae (b:=w.setCell ⟨R,1,none⟩ (.int .i64 ((c:Int)+1))) ⟨rfl,rfl,rfl,Nat.le_of_eq (by simp),fun k _ hk=>Below.heap_setCell w _ _ k (by simpa using fun e=>hk (by rw [e]))⟩ (zaB _ o _)
set_option maxHeartbeats 1000000 in
theorem rd_admit (R : Nat) (st : Bool) (c : Nat) (t f n s : Nat) (d : Int) (ht : t ≤ 65535) (hf : f < 256) (hn : n < 4294967296) (hc : c ≤ 256) (w : World) (hr : Rd w R st c) :
 Calls Tryz.prog 104 #[.pointer (some ⟨R,0,none⟩),hdrV t f n s,.int .i64 d] w (AdmIs w R st (admE st t f n d c) c):=by
 have HRD:=Lib.hid hr
 have HK:=Lib.hid (fun u=>zeh (t:Int) (by omega) (by omega) u)
 have HS:=Lib.hid (fun u=>hdr_shortest t f n s hf hn u)
 have hb:=(Below.refl w.heap.size w).alloc (Nat.le_refl _) (.cells #[.int .i64 t,.int .u8 f,.int .i64 n,.int .i64 s] 137)
 have HB:=Lib.hid hb
 have hlt:=lt_of_block hr
 have q0:=cell_of_row w R 0 _ _ _ hr
 have q1:=cell_of_row w R 1 _ _ _ hr
 have f1:=frozen_of_row w R 1 _ _ hr
 simp only [List.getElem?_toArray,List.getElem?_cons_succ,List.getElem?_cons_zero] at q0 q1
 have hne:R≠w.heap.size:=by omega
 clear hb hr
 unfold hdrV
 by_cases h1:f=128
 · have d1 : ((f : Int) == 128) = true := by simp; omega
   cases hk:zaE t
   · have HK2 := Lib.hid (show ∀ u, Calls Tryz.prog 106 #[.int .i64 (t : Int)] u fun e w' => e = .returned (.bool false) ∧ w' = u from fun u => by have := HK.out u; rwa [hk] at this)
     have hx:admE st t f n d c=5:=by unfold admE;rw [if_pos (.inl ⟨h1,hk⟩)]
     rw [hx]
     clear hx hk h1
     go_enter Tryz.func104,Tryz.ntmps104
     go_wp2_with (first | (go_at_call 106;refine (HK2.out _).mono ?_;rintro e w' ⟨rfl,rfl⟩))
     go_ret
     exact zea (by decide) HRD.out HB.out
   · have HK2 := Lib.hid (show ∀ u, Calls Tryz.prog 106 #[.int .i64 (t : Int)] u fun e w' => e = .returned (.bool true) ∧ w' = u from fun u => by have := HK.out u; rwa [hk] at this)
     cases st
     · have hp : ¬ ((f = 128 ∧ zaE t = false) ∨ (false = true ∧ zbp f n = false)) := by rw [hk]; simp
       by_cases h8:8 < d
       · have d8 : decide (8 < d) = true := by simpa using h8
         have hx:admE false t f n d c=7:=by unfold admE;rw [if_neg (hp),if_pos h8]
         rw [hx]
         clear hx hk h1 hp h8
         go_enter Tryz.func104,Tryz.ntmps104
         go_wp2_with (first | (go_at_call 106;refine (HK2.out _).mono ?_;rintro e w' ⟨rfl,rfl⟩))
         go_ret
         exact zea (by decide) HRD.out HB.out
       · have d8 : decide (8 < d) = false := by simpa using h8
         by_cases h9:256 < c+1
         · have d9 : decide ((256 : Int) < (c : Int) + 1) = true := by simp; omega
           have hx:admE false t f n d c=2:=by unfold admE;rw [if_neg (hp),if_neg h8,if_pos h9]
           rw [hx]
           clear hx hk h1 hp h8 h9
           go_enter Tryz.func104,Tryz.ntmps104
           go_wp2_with (first | (go_at_call 106;refine (HK2.out _).mono ?_;rintro e w' ⟨rfl,rfl⟩))
           go_ret
           exact zdy HRD.out _
         · have d9 : decide ((256 : Int) < (c : Int) + 1) = false := by simp; omega
           have hx:admE false t f n d c=0:=by unfold admE;rw [if_neg (hp),if_neg h8,if_neg h9]
           rw [hx]
           clear hx hk h1 hp h8 h9
           go_enter Tryz.func104,Tryz.ntmps104
           go_wp2_with (first | (go_at_call 106;refine (HK2.out _).mono ?_;rintro e w' ⟨rfl,rfl⟩))
           go_ret
           exact zdy HRD.out _
     · cases hs : zbp f n
       · have HS2 := Lib.hid (show ∀ u, Calls Tryz.prog 119 #[hdrV t f n s] u fun e w' => e = .returned (.bool false) ∧ Below u.heap.size u w' from fun u => by have := HS.out u; rwa [hs] at this)
         unfold hdrV at HS2
         have hx:admE true t f n d c=5:=by unfold admE;rw [if_pos (.inr ⟨rfl,hs⟩)]
         rw [hx]
         clear hx hk h1 hs
         go_enter Tryz.func104,Tryz.ntmps104
         go_wp2_with (first | (go_at_call 106;refine (HK2.out _).mono ?_;rintro e w' ⟨rfl,rfl⟩) | (go_at_call 119;refine (HS2.out _).mono ?_;rintro e w2 ⟨rfl,hb2⟩;have HB2:=Lib.hid (HB.out.trans (hb2.mono HB.out.size));have q1:=(hb2.cell (p:=⟨R,1,none⟩) (by simp;omega)).trans ((HB.out.cell (p:=⟨R,1,none⟩) hlt).trans q1);have f1:=(hb2.frozen (p:=⟨R,1,none⟩) (by simp;omega)).trans ((HB.out.frozen (p:=⟨R,1,none⟩) hlt).trans f1);clear hb2))
         go_ret
         exact zea (by decide) HRD.out HB2.out
       · have HS2 := Lib.hid (show ∀ u, Calls Tryz.prog 119 #[hdrV t f n s] u fun e w' => e = .returned (.bool true) ∧ Below u.heap.size u w' from fun u => by have := HS.out u; rwa [hs] at this)
         unfold hdrV at HS2
         have hp:¬((f=128∧zaE t=false)∨(true=true∧zbp f n=false)):=by rw [hs];rw [hk];simp
         by_cases h8:8 < d
         · have d8 : decide (8 < d) = true := by simpa using h8
           have hx:admE true t f n d c=7:=by unfold admE;rw [if_neg (hp),if_pos h8]
           rw [hx]
           clear hx hk h1 hp hs h8
           go_enter Tryz.func104,Tryz.ntmps104
           go_wp2_with (first | (go_at_call 106;refine (HK2.out _).mono ?_;rintro e w' ⟨rfl,rfl⟩) | (go_at_call 119;refine (HS2.out _).mono ?_;rintro e w2 ⟨rfl,hb2⟩;have HB2:=Lib.hid (HB.out.trans (hb2.mono HB.out.size));have q1:=(hb2.cell (p:=⟨R,1,none⟩) (by simp;omega)).trans ((HB.out.cell (p:=⟨R,1,none⟩) hlt).trans q1);have f1:=(hb2.frozen (p:=⟨R,1,none⟩) (by simp;omega)).trans ((HB.out.frozen (p:=⟨R,1,none⟩) hlt).trans f1);clear hb2))
           go_ret
           exact zea (by decide) HRD.out HB2.out
         · have d8 : decide (8 < d) = false := by simpa using h8
           by_cases h9:256 < c+1
           · have d9 : decide ((256 : Int) < (c : Int) + 1) = true := by simp; omega
             have hx:admE true t f n d c=2:=by unfold admE;rw [if_neg (hp),if_neg h8,if_pos h9]
             rw [hx]
             clear hx hk h1 hp hs h8 h9
             go_enter Tryz.func104,Tryz.ntmps104
             go_wp2_with (first | (go_at_call 106;refine (HK2.out _).mono ?_;rintro e w' ⟨rfl,rfl⟩) | (go_at_call 119;refine (HS2.out _).mono ?_;rintro e w2 ⟨rfl,hb2⟩;have HB2:=Lib.hid (HB.out.trans (hb2.mono HB.out.size));have q1:=(hb2.cell (p:=⟨R,1,none⟩) (by simp;omega)).trans ((HB.out.cell (p:=⟨R,1,none⟩) hlt).trans q1);have f1:=(hb2.frozen (p:=⟨R,1,none⟩) (by simp;omega)).trans ((HB.out.frozen (p:=⟨R,1,none⟩) hlt).trans f1);clear hb2))
             go_ret
             exact zeu HRD.out HB2.out
           · have d9 : decide ((256 : Int) < (c : Int) + 1) = false := by simp; omega
             have hx:admE true t f n d c=0:=by unfold admE;rw [if_neg (hp),if_neg h8,if_neg h9]
             rw [hx]
             clear hx hk h1 hp hs h8 h9
             go_enter Tryz.func104,Tryz.ntmps104
             go_wp2_with (first | (go_at_call 106;refine (HK2.out _).mono ?_;rintro e w' ⟨rfl,rfl⟩) | (go_at_call 119;refine (HS2.out _).mono ?_;rintro e w2 ⟨rfl,hb2⟩;have HB2:=Lib.hid (HB.out.trans (hb2.mono HB.out.size));have q1:=(hb2.cell (p:=⟨R,1,none⟩) (by simp;omega)).trans ((HB.out.cell (p:=⟨R,1,none⟩) hlt).trans q1);have f1:=(hb2.frozen (p:=⟨R,1,none⟩) (by simp;omega)).trans ((HB.out.frozen (p:=⟨R,1,none⟩) hlt).trans f1);clear hb2))
             go_ret
             exact zeu HRD.out HB2.out
 · have d1 : ((f : Int) == 128) = false := by simp; omega
   cases st
   · have hp : ¬ ((f = 128 ∧ zaE t = false) ∨ (false = true ∧ zbp f n = false)) := by simp [h1]
     by_cases h8:8 < d
     · have d8 : decide (8 < d) = true := by simpa using h8
       have hx:admE false t f n d c=7:=by unfold admE;rw [if_neg (hp),if_pos h8]
       rw [hx]
       clear hx h1 hp h8
       go_enter Tryz.func104,Tryz.ntmps104
       go_wp2_with (fail)
       go_ret
       exact zea (by decide) HRD.out HB.out
     · have d8 : decide (8 < d) = false := by simpa using h8
       by_cases h9:256 < c+1
       · have d9 : decide ((256 : Int) < (c : Int) + 1) = true := by simp; omega
         have hx:admE false t f n d c=2:=by unfold admE;rw [if_neg (hp),if_neg h8,if_pos h9]
         rw [hx]
         clear hx h1 hp h8 h9
         go_enter Tryz.func104,Tryz.ntmps104
         go_wp2_with (fail)
         go_ret
         exact zdy HRD.out _
       · have d9 : decide ((256 : Int) < (c : Int) + 1) = false := by simp; omega
         have hx:admE false t f n d c=0:=by unfold admE;rw [if_neg (hp),if_neg h8,if_neg h9]
         rw [hx]
         clear hx h1 hp h8 h9
         go_enter Tryz.func104,Tryz.ntmps104
         go_wp2_with (fail)
         go_ret
         exact zdy HRD.out _
   · cases hs : zbp f n
     · have HS2 := Lib.hid (show ∀ u, Calls Tryz.prog 119 #[hdrV t f n s] u fun e w' => e = .returned (.bool false) ∧ Below u.heap.size u w' from fun u => by have := HS.out u; rwa [hs] at this)
       unfold hdrV at HS2
       have hx:admE true t f n d c=5:=by unfold admE;rw [if_pos (.inr ⟨rfl,hs⟩)]
       rw [hx]
       clear hx h1 hs
       go_enter Tryz.func104,Tryz.ntmps104
       go_wp2_with (first | (go_at_call 119;refine (HS2.out _).mono ?_;rintro e w2 ⟨rfl,hb2⟩;have HB2:=Lib.hid (HB.out.trans (hb2.mono HB.out.size));have q1:=(hb2.cell (p:=⟨R,1,none⟩) (by simp;omega)).trans ((HB.out.cell (p:=⟨R,1,none⟩) hlt).trans q1);have f1:=(hb2.frozen (p:=⟨R,1,none⟩) (by simp;omega)).trans ((HB.out.frozen (p:=⟨R,1,none⟩) hlt).trans f1);clear hb2))
       go_ret
       exact zea (by decide) HRD.out HB2.out
     · have HS2 := Lib.hid (show ∀ u, Calls Tryz.prog 119 #[hdrV t f n s] u fun e w' => e = .returned (.bool true) ∧ Below u.heap.size u w' from fun u => by have := HS.out u; rwa [hs] at this)
       unfold hdrV at HS2
       have hp:¬((f=128∧zaE t=false)∨(true=true∧zbp f n=false)):=by rw [hs];simp [h1]
       by_cases h8:8 < d
       · have d8 : decide (8 < d) = true := by simpa using h8
         have hx:admE true t f n d c=7:=by unfold admE;rw [if_neg (hp),if_pos h8]
         rw [hx]
         clear hx h1 hp hs h8
         go_enter Tryz.func104,Tryz.ntmps104
         go_wp2_with (first | (go_at_call 119;refine (HS2.out _).mono ?_;rintro e w2 ⟨rfl,hb2⟩;have HB2:=Lib.hid (HB.out.trans (hb2.mono HB.out.size));have q1:=(hb2.cell (p:=⟨R,1,none⟩) (by simp;omega)).trans ((HB.out.cell (p:=⟨R,1,none⟩) hlt).trans q1);have f1:=(hb2.frozen (p:=⟨R,1,none⟩) (by simp;omega)).trans ((HB.out.frozen (p:=⟨R,1,none⟩) hlt).trans f1);clear hb2))
         go_ret
         exact zea (by decide) HRD.out HB2.out
       · have d8 : decide (8 < d) = false := by simpa using h8
         by_cases h9:256 < c+1
         · have d9 : decide ((256 : Int) < (c : Int) + 1) = true := by simp; omega
           have hx:admE true t f n d c=2:=by unfold admE;rw [if_neg (hp),if_neg h8,if_pos h9]
           rw [hx]
           clear hx h1 hp hs h8 h9
           go_enter Tryz.func104,Tryz.ntmps104
           go_wp2_with (first | (go_at_call 119;refine (HS2.out _).mono ?_;rintro e w2 ⟨rfl,hb2⟩;have HB2:=Lib.hid (HB.out.trans (hb2.mono HB.out.size));have q1:=(hb2.cell (p:=⟨R,1,none⟩) (by simp;omega)).trans ((HB.out.cell (p:=⟨R,1,none⟩) hlt).trans q1);have f1:=(hb2.frozen (p:=⟨R,1,none⟩) (by simp;omega)).trans ((HB.out.frozen (p:=⟨R,1,none⟩) hlt).trans f1);clear hb2))
           go_ret
           exact zeu HRD.out HB2.out
         · have d9 : decide ((256 : Int) < (c : Int) + 1) = false := by simp; omega
           have hx:admE true t f n d c=0:=by unfold admE;rw [if_neg (hp),if_neg h8,if_neg h9]
           rw [hx]
           clear hx h1 hp hs h8 h9
           go_enter Tryz.func104,Tryz.ntmps104
           go_wp2_with (first | (go_at_call 119;refine (HS2.out _).mono ?_;rintro e w2 ⟨rfl,hb2⟩;have HB2:=Lib.hid (HB.out.trans (hb2.mono HB.out.size));have q1:=(hb2.cell (p:=⟨R,1,none⟩) (by simp;omega)).trans ((HB.out.cell (p:=⟨R,1,none⟩) hlt).trans q1);have f1:=(hb2.frozen (p:=⟨R,1,none⟩) (by simp;omega)).trans ((HB.out.frozen (p:=⟨R,1,none⟩) hlt).trans f1);clear hb2))
           go_ret
           exact zeu HRD.out HB2.out
end Go.Proofs.YtnlhbknajdpnbaaGreatDoor
namespace Go.Proofs.YtnlhbknajdpnbaaGreatDoor
open Go.RowKit
set_option maxRecDepth 8000
abbrev ObR:=Int×List UInt8×F×List UInt8×Nat
def zbH (ob : Nat → List UInt8 → Except Int ObR) : Nat → Nat → List UInt8 → Except Int (F × Nat)
 | 0,c,_=>.ok (.nil,c)
 | _+1,c,[]=>.ok (.nil,c)
 | m + 1, c, a :: l => match ob c (a :: l) with
   | .error e=>.error e
   | .ok (t, v, k, rest, c') => match zbH ob m c' rest with
     | .error e=>.error e
     | .ok (f,c'')=>.ok (.cons t v k f,c'')
def zbF (ob : Nat → List UInt8 → Except Int ObR) : Nat → Nat → List UInt8 → Except Int (F × List UInt8 × Nat)
 | 0,_,_=>.error 6
 | m + 1, c, l => if l.length < 2 then .error 6 else if l.take 2 = [0, 0] then .ok (.nil, l.drop 2, c) else match ob c l with
   | .error e=>.error e
   | .ok (t, v, k, rest, c') => match zbF ob m c' rest with
     | .error e=>.error e
     | .ok (f,r,c'')=>.ok (.cons t v k f,r,c'')
def pObj (st : Bool) : Nat → Nat → List UInt8 → Except Int ObR
 | 0,c,l=>if hdrE l≠0 then .error (hdrE l) else .error (admE st (tagV l) (hdrF l) (hdrN l) 9 c)
 | k + 1, c, l =>
   if hdrE l≠0 then .error (hdrE l) else if admE st (tagV l) (hdrF l) (hdrN l) (8 - (k:Int)) c≠0 then .error (admE st (tagV l) (hdrF l) (hdrN l) (8 - (k:Int)) c)
   else if hdrF l = 128 then
    match zbF (pObj st k) (l.drop (hdrS l)).length (c+1) (l.drop (hdrS l)) with
    | .error e=>.error e
    | .ok (f,rest,c')=>.ok (tagV l,[],f,rest,c')
   else if (l.drop (hdrS l)).length < hdrN l then .error 6
   else if zaE (tagV l)=false then .ok (tagV l,(l.drop (hdrS l)).take (hdrN l),.nil,(l.drop (hdrS l)).drop (hdrN l),c+1)
   else match zbH (pObj st k) (hdrN l) (c + 1) ((l.drop (hdrS l)).take (hdrN l)) with
    | .error e=>.error e
    | .ok (f,c')=>.ok (tagV l,[],f,(l.drop (hdrS l)).drop (hdrN l),c')
theorem zfH {l : List UInt8} (h : hdrE l = 0) : 2 ≤ hdrS l ∧ hdrS l ≤ l.length := by
 unfold hdrE at h
 split at h
 · omega
 · split at h
   · omega
   · have hz : 2 ≤ hdrZ l := by unfold hdrZ tagN; split <;> omega
     unfold hdrS
     split
     · omega
     · split at h
       · omega
       · split at h
         · omega
         · omega
theorem numL_4 (l : List UInt8) (h : l.length ≤ 4) : numL_Hdr l < 4294967296 :=
 Nat.lt_of_lt_of_le (zeP l) (Nat.le_trans (Nat.pow_le_pow_right (by decide) h) (by decide))
theorem zfJ {l : List UInt8} (h : hdrE l = 0) : tagV l ≤ 65535 ∧ hdrF l < 256 ∧ hdrN l < 4294967296 := by
 have hf:hdrF l < 256:=by unfold hdrF;exact UInt8.toNat_lt _
 have hf2 : hdrF l ≤ 132 := by
  unfold hdrE at h
  split at h
  · omega
  · split at h
    · omega
    · split at h <;> omega
 refine ⟨?_,hf,?_⟩
 · cases l with
   | nil=>simp [tagV]
   | cons a r =>
     have ha:=UInt8.toNat_lt a
     cases r with
     | nil=>simp only [tagV];omega
     | cons b r =>
       have hb:=UInt8.toNat_lt b
       simp only [tagV]
       split <;> omega
 · unfold hdrN
   split
   · omega
   · refine numL_4 _ ?_
     rw [List.length_take];omega
theorem adm_nine {st : Bool} {t f n c : Nat} : admE st t f n 9 c ≠ 0 := by
 unfold admE
 split
 · decide
 · rw [if_pos (by decide)];decide
theorem adm_ok {st : Bool} {t f n c : Nat} {d : Int} (h : admE st t f n d c = 0) : c + 1 ≤ 256 := by
 unfold admE at h
 split at h
 · omega
 · split at h
   · omega
   · split at h <;> omega
theorem zgP {ob : Nat → List UInt8 → Except Int ObR} (hob : ∀ c l t v k rest c', ob c l = .ok (t, v, k, rest, c') → rest.length + 2 ≤ l.length ∧ c' ≤ 256) :
 ∀(m c:Nat) (l:List UInt8) {f:F} {rest:List UInt8} {c':Nat},c≤256→zbF ob m c l=.ok (f,rest,c')→rest.length≤l.length∧c'≤256
 | 0,_,_,_,_,_,_,h=>by simp [zbF] at h
 | m + 1, c, l, f, rest, c', hc, h => by
   unfold zbF at h
   split at h
   · cases h
   · split at h
     · injection h with h
       injection h with _ h
       injection h with h1 h2
       subst h1 h2
       exact ⟨by rw [List.length_drop];omega,hc⟩
     · split at h
       · cases h
       · rename_i t v k r2 c2 heq
         have h1:=hob _ _ _ _ _ _ _ heq
         split at h
         · cases h
         · rename_i f2 r3 c3 heq2
           have h2:=zgP hob m c2 r2 h1.2 heq2
           injection h with h
           injection h with _ h
           injection h with h3 h4
           subst h3 h4
           exact ⟨by omega,h2.2⟩
theorem zdV {ob : Nat → List UInt8 → Except Int ObR} (hob : ∀ c l t v k rest c', ob c l = .ok (t, v, k, rest, c') → rest.length + 2 ≤ l.length ∧ c' ≤ 256) :
 ∀(m c:Nat) (l:List UInt8) {f:F} {c':Nat},c≤256→zbH ob m c l=.ok (f,c')→c'≤256
 | 0,_,_,_,_,hc,h=>by simp only [zbH,Except.ok.injEq,Prod.mk.injEq] at h;omega
 | m+1,c,[],_,_,hc,h=>by simp only [zbH,Except.ok.injEq,Prod.mk.injEq] at h;omega
 | m + 1, c, a :: l, f, c', hc, h => by
   unfold zbH at h
   split at h
   · cases h
   · rename_i t v k r2 c2 heq
     have h1:=hob _ _ _ _ _ _ _ heq
     split at h
     · cases h
     · rename_i f2 c3 heq2
       have h2:=zdV hob m c2 r2 h1.2 heq2
       injection h with h
       injection h with _ h
       subst h
       exact h2
theorem zcb (st : Bool) : ∀ (k c : Nat) (l : List UInt8) (t : Int) (v : List UInt8) (kf : F) (rest : List UInt8) (c' : Nat), pObj st k c l = .ok (t, v, kf, rest, c') → rest.length + 2 ≤ l.length ∧ c' ≤ 256
 | 0,c,l,_,_,_,_,_,h=>by unfold pObj at h;split at h <;> cases h
 | k + 1, c, l, t, v, kf, rest, c', h => by
   unfold pObj at h
   split at h
   · cases h
   · rename_i hE
     have hE:hdrE l=0:=by omega
     have hs:=zfH hE
     split at h
     · cases h
     · rename_i hA
       have hA:=adm_ok (by omega:admE st (tagV l) (hdrF l) (hdrN l) (8 - (k:Int)) c=0)
       split at h
       · split at h
         · cases h
         · rename_i f2 r2 c2 heq
           have h2:=zgP (zcb st k) _ _ _ hA heq
           simp only [Except.ok.injEq,Prod.mk.injEq] at h
           obtain ⟨_,_,_,h3,h4⟩:=h
           subst h3 h4
           rw [List.length_drop] at h2
           exact ⟨by omega,h2.2⟩
       · split at h
         · cases h
         · split at h
           · simp only [Except.ok.injEq, Prod.mk.injEq] at h
             obtain ⟨_,_,_,h3,h4⟩:=h
             subst h3 h4
             refine ⟨?_,hA⟩
             rw [List.length_drop,List.length_drop];omega
           · split at h
             · cases h
             · rename_i f2 c2 heq
               have h2:=zdV (zcb st k) _ _ _ hA heq
               simp only [Except.ok.injEq,Prod.mk.injEq] at h
               obtain ⟨_,_,_,h3,h4⟩:=h
               subst h3 h4
               refine ⟨?_,h2⟩
               rw [List.length_drop,List.length_drop];omega
def newB (w w':World) (b:Nat):Prop:=w.heap.size≤b∧b < w'.heap.size
def oldB (w:World) (R b:Nat):Prop:=b < w.heap.size∧b≠R
end Go.Proofs.YtnlhbknajdpnbaaGreatDoor
namespace Go.Proofs.YtnlhbknajdpnbaaGreatDoor
open Go.RowKit
set_option maxRecDepth 8000
theorem zcq:(Tryz.prog.info? 64).map (fun i=>(i.zero,i.size,i.bytes))=some (some (.agg #[.int .i64 0,.slice none 0 0,.slice none 0 0]),3,56):=by kernel_rfl
def Held (w wr:World) (v:Value) (f:F):Prop:=∃cs,wr.ownsRow w.heap.size 64 3 v f.len cs∧HoldsP wr (fun b=>newB w wr b∧v.ownBlock≠some b) f cs
theorem Held.start (w wr:World):Held w wr (.slice none 0 0) .nil:=⟨[],⟨rfl,.inl ⟨rfl,rfl⟩⟩,rfl⟩
theorem zbP {w : World} {base : Nat} {e : TypeId} {v : Value} {n : Nat} {xs : List Value} (h : w.ownsRow base e 3 v n xs) : v.ownBlock = none ∨ ∃ g, v.ownBlock = some g ∧ base ≤ g ∧ g < w.heap.size := by
 rcases h.2 with ⟨rfl,_⟩ | ⟨g,cap,cur,rfl,hb,hh,_⟩
 · left;rfl
 · right;exact ⟨g,rfl,hb,lt_of_block hh⟩
theorem Held.grown {w wr w' : World} {R : Nat} {v : Value} {f : F} (h : Held w wr v f) (hR : R < w.heap.size) (hg : wr.grownBy w' (some R)) : Held w w' v f := by
 obtain ⟨cs,h1,h2⟩:=h
 refine ⟨cs,zbm h1 hg ?_,?_⟩
 · rcases zbP h1 with e | ⟨g, e, hb, _⟩
   · rw [e];simp
   · rw [e];intro h;injection h with h;omega
 · refine HoldsP.imp (fun _ hb=>⟨⟨hb.1.1,Nat.lt_of_lt_of_le hb.1.2 hg.size⟩,hb.2⟩) (HoldsP.keep (fun _ hq=>zau hg hq.1.2 (by have:=hq.1.1;omega)) h2)
theorem Held.slice {w wr : World} {v : Value} {f : F} (h : Held w wr v f) : ∃ A c, v = .slice A f.len c ∧ SeesF wr (newB w wr) A f := by
 obtain ⟨cs,h1,h2⟩:=h
 rcases h1.2 with ⟨rfl,h0⟩ | ⟨g,cap,cur,rfl,hb,hh,hn,hm,hs,ht⟩
 · have : f = .nil := F.len_zero h0
   subst this
   exact ⟨none,0,rfl,SeesF.nil_⟩
 · refine ⟨_, cap, rfl, cs, .inr ⟨g, 0, rfl, ⟨hb, lt_of_block hh⟩, fun j hj => ?_⟩, HoldsP.imp (fun _ hb => hb.1) h2⟩
   have hl:=h1.1
   rw [Nat.zero_add,cell_of_row wr g j cur _ (0,0) hh,←ht,List.getElem?_take,if_pos (by omega),Array.getElem?_toList]
theorem Held.carry {w wr w' : World} {R : Nat} {v : Value} {f : F} {cs : List Value} (hR : R < w.heap.size) (hg : wr.grownBy w' (some R)) (h1 : wr.ownsRow w.heap.size 64 3 v f.len cs) (h2 : HoldsP wr (fun b => newB w wr b ∧ v.ownBlock ≠ some b) f cs) :
 w'.ownsRow w.heap.size 64 3 v f.len cs∧HoldsP w' (fun b=>newB w wr b∧v.ownBlock≠some b) f cs:=by
 refine ⟨zbm h1 hg ?_,HoldsP.keep (fun _ hq=>zau hg hq.1.2 (by have:=hq.1.1;omega)) h2⟩
 rcases zbP h1 with e | ⟨g,e,hb,_⟩
 · rw [e];simp
 · rw [e];intro h;injection h with h;omega
theorem Held.snoc {w wr w1 wa w2 : World} {v : Value} {f : F} {t : Int} {x : List UInt8} {k : F} {Av Ak : Option Addr} {cv ck g cap : Nat} (h01 : wr.heap.size ≤ w1.heap.size) (ha : Below w1.heap.size w1 wa)
 (hn0:Av=none→cv=0) (hv:SeesP w1 (newB wr w1) Av (Us x)) (hk:SeesF w1 (newB wr w1) Ak k) (hww:w.heap.size≤wr.heap.size)
 (hold:v.ownBlock=none∨∃g,v.ownBlock=some g∧w.heap.size≤g∧g < wr.heap.size) (cs:List Value) (hc2:HoldsP w1 (fun b=>newB w wr b∧v.ownBlock≠some b) f cs)
 (ho:w2.ownsRow w.heap.size 64 3 (.slice (some ⟨g,0,none⟩) (f.len+1) cap) (f.len+1) (cs++[.int .i64 t,.slice Av x.length cv,.slice Ak k.len ck])) (hg:wa.grownBy w2 v.ownBlock)
 (hl:v.ownBlock=some g∨g=wa.heap.size):Held w w2 (.slice (some ⟨g,0,none⟩) (f.len+1) cap) (f.app (.cons t x k .nil)):=by
 have keep : ∀ q : Addr, q.block < w1.heap.size → v.ownBlock ≠ some q.block → w2.cell? q = w1.cell? q := fun q h1 h2 =>
  (World.cell?_of_block (w:=wa) (hg.block q.block (Nat.lt_of_lt_of_le h1 ha.size) (fun e=>h2 e.symm))).trans (ha.cell h1)
 have hsz:w1.heap.size≤w2.heap.size:=Nat.le_trans ha.size hg.size
 have hwa:=ha.size
 refine ⟨_,by rw [F.len_app];exact ho,HoldsP.app ?_ ?_⟩
 · refine HoldsP.imp ?_ (HoldsP.keep (w' := w2) (fun q hq => keep q (Nat.lt_of_lt_of_le hq.1.2 h01) hq.2) hc2)
   intro b hb
   have h4:=hb.1.2
   refine ⟨⟨hb.1.1,by omega⟩,?_⟩
   intro e
   injection e with e
   simp only at e
   rcases hl with h3 | h3
   · exact hb.2 (h3.trans (by rw [e]))
   · omega
 · have hp : ∀ b, newB wr w1 b → newB w w2 b ∧ (Value.slice (some ⟨g, 0, none⟩) (f.len + 1) cap).ownBlock ≠ some b := by
    intro b hb
    have h5:=hb.1
    have h6:=hb.2
    refine ⟨⟨by omega,by omega⟩,?_⟩
    intro e
    injection e with e
    simp only at e
    rcases hl with h3 | h3
    · rcases hold with h4 | ⟨g2, h4, _, h7⟩
      · rw [h4] at h3;cases h3
      · rw [h4] at h3;injection h3 with h3;omega
    · omega
   have kp : ∀ q : Addr, newB wr w1 q.block → w2.cell? q = w1.cell? q := by
    intro q hq
    refine keep q hq.2 ?_
    have h5:=hq.1
    rcases hold with h4 | ⟨g2,h4,_,h7⟩
    · rw [h4];simp
    · rw [h4];intro e;injection e with e;omega
   obtain ⟨ks,hk1,hk2⟩:=hk
   exact ⟨Av,cv,Ak,ck,ks,[],rfl,hn0,(hv.keep kp).imp hp,(hk1.keep kp).imp hp,HoldsP.imp hp (HoldsP.keep kp hk2),rfl⟩
def joinL (acc : F) : Except Int (F × Nat) → Except Int (F × Nat)
 | .error e=>.error e
 | .ok (f,c)=>.ok (acc.app f,c)
theorem loopL_err {ob : Nat → List UInt8 → Except Int ObR} {m c : Nat} {l : List UInt8} (hl : l ≠ []) {x : Int} (h : ob c l = .error x) : zbH ob (m + 1) c l = .error x := by
 cases l with
 | nil=>exact absurd rfl hl
 | cons a l=>simp only [zbH,h]
theorem loopL_ok {ob : Nat → List UInt8 → Except Int ObR} {m c : Nat} {l : List UInt8} (hl : l ≠ []) {t : Int} {v : List UInt8} {k : F} {rest : List UInt8} {c' : Nat} (h : ob c l = .ok (t, v, k, rest, c')) :
 zbH ob (m+1) c l=joinL (.cons t v k .nil) (zbH ob m c' rest):=by
 cases l with
 | nil=>exact absurd rfl hl
 | cons a l =>
   simp only [zbH,h]
   cases zbH ob m c' rest with
   | error e=>rfl
   | ok q2=>obtain ⟨f,c2⟩:=q2;rfl
theorem joinL_join (a b : F) (r : Except Int (F × Nat)) : joinL a (joinL b r) = joinL (a.app b) r := by
 cases r with
 | error e=>rfl
 | ok q=>obtain ⟨f,c⟩:=q;simp only [joinL];rw [F.app_assoc]
theorem joinL_nil (r : Except Int (F × Nat)) : joinL .nil r = r := by
 cases r with
 | error e=>rfl
 | ok q=>obtain ⟨f,c⟩:=q;rfl
theorem zfw (ob:Nat→List UInt8→Except Int ObR) (m c:Nat):zbH ob m c []=.ok (.nil,c):=by cases m <;> rfl
def lenOf : Value → Nat
 | .slice _ n _=>n
 | _=>0
theorem zbW (t : Int) (Av : Option Addr) (lv cv : Nat) (Ak : Option Addr) (lk ck : Nat) : ∀ u ∈ [Value.int .i64 t, .slice Av lv cv, .slice Ak lk ck], u.oneCell' = true := by
 intro u hu
 simp only [List.mem_cons,List.not_mem_nil,or_false] at hu
 rcases hu with rfl | rfl | rfl <;> rfl
end Go.Proofs.YtnlhbknajdpnbaaGreatDoor
