/-
  What is proved here: what the reference's letters, plain, pair, birth, extra and room answer, for all texts.
-/
import Derived.Test.YtnlhbknajdpnbaaGreatDoorF25
import Derived.Test.YtnlhbknajdpnbaaGreatDoorF24
set_option linter.unusedVariables false
set_option linter.unusedSimpArgs false
namespace Go.Proofs.YtnlhbknajdpnbaaGreatDoor
open Go.RowKit Go.Maps
theorem ix_at {s : ByteArray} {x : List UInt8} (hx : s = S x) {k : Nat} (hk : k < s.size) {c : Int} (hc : cB x k = c) (w : World) : (Instr.index 9 (.string s) (.int .i64 (k : Int))).run Tryz.prog w = .ok (.int .u8 c) w := by
 subst hx
 rw [←hc,←S_get x k hk]
 exact str_at_Zb (S x) k hk w
theorem code_bad {x : List UInt8} {n k : Nat} (hk : k < x.length) (h : ltrB (cB x k) = false) : zbw x n = false := by
 have e:zfl x=false:=decide_eq_false (fun h2=>by rw [h2 k hk] at h;cases h)
 unfold zbw
 rw [e,Bool.and_false]
set_option maxHeartbeats 800000 in
theorem r_letters (s : ByteArray) (x : List UInt8) (hx : s = S x) (n : Nat) (hn : n ≤ 3) (b : Bool) (hb : zbw x n = b) (w : World) (hm : s.size ≤ 140737488355328) :
 Calls Tryz.prog 88 #[.string s,.int .i64 (n:Int)] w fun e w'=>e=.returned (.bool b)∧w=w':=by
 have hl:s.size=x.length:=by rw [hx,zao]
 have HX:=Lib.hid hx
 have HL:=Lib.hid hl
 have HB:=Lib.hid hb
 by_cases h1:s.size < 1
 · have HR : Hid (b = false) := Lib.hid (by rw [← hb]; unfold zbw; rw [decide_eq_false (by omega), Bool.false_and])
   have d1:((s.size:Nat):Int) < 1:=by omega
   clear hx hb hl
   go_enter Tryz.func88,Tryz.ntmps88
   go_wp2
   go_ret
   exact ⟨by rw [HR.out];rfl,rfl⟩
 · by_cases h2 : n < s.size
   · have HR : Hid (b = false) := Lib.hid (by rw [← hb]; unfold zbw; rw [decide_eq_false (by omega), Bool.false_and])
     have d1:¬((s.size:Nat):Int) < 1:=by omega
     have d2:(n:Int) < ((s.size:Nat):Int):=by omega
     clear hx hb hl
     go_enter Tryz.func88,Tryz.ntmps88
     go_wp2
     go_ret
     exact ⟨by rw [HR.out];rfl,rfl⟩
   · have d1 : ¬ ((s.size : Nat) : Int) < 1 := by omega
     have d2:¬(n:Int) < ((s.size:Nat):Int):=by omega
     have HN:=Lib.hid (show 1≤x.length∧x.length≤n by omega)
     clear hx hb hl
     go_enter Tryz.func88,Tryz.ntmps88
     go_wp2
     go_loop [5] (fun i=>∃k:Nat,k≤s.size∧i=.int .i64 k∧Hid (∀j,j < k→ltrB (cB x j)=true)) (fun i=>s.size - (intOf i).toNat)
     case atStart=>exact ⟨0,Nat.zero_le _,rfl,Lib.hid (fun j h=>by omega)⟩
     case round =>
      obtain ⟨k,hk,rfl,HG⟩:=hrel
      by_cases hlt:k < s.size
      · obtain ⟨c, hc⟩ : ∃ c, cB x k = c := ⟨_, rfl⟩
        have hix:=fun w=>ix_at HX.out hlt hc w
        have hc0:0≤c:=by rw [←hc];exact cB_nn x k
        have hc1:c≤255:=by rw [←hc];exact cB_le x k
        have HC:=Lib.hid hc
        clear hc
        by_cases a1:c < 65
        · go_wp2
          go_ret
          exact ⟨by rw [←HB.out,code_bad (k:=k) (by have:=HL.out;omega) (by rw [HC.out];unfold ltrB;simp;omega)];rfl,rfl⟩
        · by_cases a2 : 90 < c
          · go_wp2
            go_ret
            exact ⟨by rw [←HB.out,code_bad (k:=k) (by have:=HL.out;omega) (by rw [HC.out];unfold ltrB;simp;omega)];rfl,rfl⟩
          · go_wp2
            go_round
            case rel =>
             refine ⟨k+1,by omega,by go_num,Lib.hid (fun j hj=>?_)⟩
             rcases Nat.lt_or_ge j k with h | h
             · exact HG.out j h
             · obtain rfl : j = k := by omega
               rw [HC.out];unfold ltrB;simp;omega
            case measure=>simp [intOf];omega
      · go_wp2
        go_ret
        refine ⟨?_,rfl⟩
        have hr : zbw x n = true := by
         unfold zbw zfl
         rw [decide_eq_true HN.out,decide_eq_true (fun i hi=>HG.out i (by have:=HL.out;omega))]
         rfl
        rw [←HB.out,hr];rfl
theorem plain_bad {x : List UInt8} {k : Nat} (hk : k < x.length) (h : cB x k = 60 ∨ vI (cB x k) < 0) : zbL x = false := by
 unfold zbL noFill
 rcases h with h | h
 · rw [decide_eq_false (fun h2=>h2 k hk h),Bool.false_and]
 · rw [zgI hk h,Bool.and_false]
set_option maxHeartbeats 800000 in
theorem r_plain (s : ByteArray) (x : List UInt8) (hx : s = S x) (b : Bool) (hb : zbL x = b) (w : World) (hm : s.size ≤ 140737488355328) :
 Calls Tryz.prog 90 #[.string s] w fun e w'=>e=.returned (.bool b)∧w=w':=by
 have hl:s.size=x.length:=by rw [hx,zao]
 have HX:=Lib.hid hx
 have HL:=Lib.hid hl
 have HB:=Lib.hid hb
 clear hx hb hl
 go_enter Tryz.func90,Tryz.ntmps90
 go_wp2
 go_loop [3] (fun i=>∃k:Nat,k≤s.size∧i=.int .i64 k∧Hid (∀j,j < k→cB x j≠60∧0≤vI (cB x j))) (fun i=>s.size - (intOf i).toNat)
 case atStart=>exact ⟨0,Nat.zero_le _,rfl,Lib.hid (fun j h=>by omega)⟩
 case round =>
  obtain ⟨k,hk,rfl,HG⟩:=hrel
  by_cases hlt:k < s.size
  · obtain ⟨c, hc⟩ : ∃ c, cB x k = c := ⟨_, rfl⟩
    have hix:=fun w=>ix_at HX.out hlt hc w
    have hc0:0≤c:=by rw [←hc];exact cB_nn x k
    have hc1:c≤255:=by rw [←hc];exact cB_le x k
    have HC:=Lib.hid hc
    clear hc
    by_cases a1:c=60
    · have e1 : (c == 60) = true := by rw [a1]; rfl
      go_wp2
      go_ret
      exact ⟨by rw [←HB.out,plain_bad (k:=k) (by have:=HL.out;omega) (.inl (by rw [HC.out];exact a1))];rfl,rfl⟩
    · have e1 : (c == 60) = false := by simpa using a1
      obtain ⟨v,hv⟩ : ∃v,vI c=v:=⟨_,rfl⟩
      have HV:=Lib.hid hv
      have HR:=Lib.hid (fun w=>r_value c v hv hc0 hc1 w)
      clear hv
      by_cases a2:v < 0
      · go_wp2_with (go_at_call 97; ((with_reducible refine (HR.out _).mono ?_); rintro e w' ⟨rfl, rfl⟩))
        go_ret
        exact ⟨by rw [←HB.out,plain_bad (k:=k) (by have:=HL.out;omega) (.inr (by rw [HC.out,HV.out];exact a2))];rfl,rfl⟩
      · go_wp2_with (go_at_call 97; ((with_reducible refine (HR.out _).mono ?_); rintro e w' ⟨rfl, rfl⟩))
        go_round
        case rel =>
         refine ⟨k+1,by omega,by go_num,Lib.hid (fun j hj=>?_)⟩
         rcases Nat.lt_or_ge j k with h | h
         · exact HG.out j h
         · obtain rfl : j = k := by omega
           rw [HC.out,HV.out];exact ⟨a1,by omega⟩
        case measure=>simp [intOf];omega
  · go_wp2
    go_ret
    refine ⟨?_,rfl⟩
    have hr : zbL x = true := by
     unfold zbL noFill
     rw [decide_eq_true (fun i hi=>(HG.out i (by have:=HL.out;omega)).1),zck (fun i hi=>(HG.out i (by have:=HL.out;omega)).2)]
     rfl
    rw [←HB.out,hr];rfl
theorem zcI (x : List UInt8) (b : Bool) (hb : zaO x = b) (w : World) (hm : (S x).size ≤ 140737488355328) : Calls Tryz.prog 89 #[.string (S x)] w fun e w' => e = .returned (.bool b) ∧ w = w' := by
 rw [←hb];exact (zdg (S x) x rfl w hm).mono fun e w' h=>⟨h.1,h.2.symm⟩
theorem ix_lit0 {s:ByteArray} {x:List UInt8} (hx:s=S x) (hk:0 < s.size) {c:Int} (hc:cB x 0=c) (w:World):(Instr.index 9 (.string s) (.int .i64 0)).run Tryz.prog w=.ok (.int .u8 c) w:=ix_at hx hk hc w
theorem ix_lit1 {s:ByteArray} {x:List UInt8} (hx:s=S x) (hk:1 < s.size) {c:Int} (hc:cB x 1=c) (w:World):(Instr.index 9 (.string s) (.int .i64 1)).run Tryz.prog w=.ok (.int .u8 c) w:=ix_at hx hk hc w
set_option maxHeartbeats 1600000 in
theorem r_pair (s : ByteArray) (x : List UInt8) (hx : s = S x) (h2 : s.size = 2) (v : Int) (hv : zcA x 0 = v) (w : World) :
 Calls Tryz.prog 115 #[.string s] w fun e w'=>e=.returned (.int .i64 v)∧Below w.heap.size w w':=by
 have hl:s.size=x.length:=by rw [hx,zao]
 obtain ⟨c,hc⟩ : ∃c,cB x 0=c:=⟨_,rfl⟩
 obtain ⟨d,hd⟩ : ∃d,cB x 1=d:=⟨_,rfl⟩
 have hc0:0≤c∧c≤255:=by rw [←hc];exact ⟨cB_nn x 0,cB_le x 0⟩
 have hd0:0≤d∧d≤255:=by rw [←hd];exact ⟨cB_nn x 1,cB_le x 1⟩
 have i0:=fun w=>ix_lit0 hx (by omega) hc w
 have i1:=fun w=>ix_lit1 hx (by omega) hd w
 have hff : (s.toList == [60, 60]) = decide (c = 60 ∧ d = 60) := by
  rw [hx,zcB,Bool.eq_iff_iff,←hc,←hd]
  obtain ⟨a, b, e⟩ : ∃ a b, x = [a, b] := by
   rcases x with _ | ⟨a,_ | ⟨b,_ | ⟨e,r⟩⟩⟩
   · have : s.size = 0 := hl
     omega
   · have : s.size = 1 := hl
     omega
   · exact ⟨a,b,rfl⟩
   · have : s.size = r.length + 3 := hl
     omega
  subst e
  show ([a,b]==[60,60])=true↔decide (((a.toNat:Nat):Int)=60∧((b.toNat:Nat):Int)=60)=true
  rw [beq_iff_eq,decide_eq_true_eq]
  constructor
  · intro h;injection h with h3 h4;injection h4 with h4 _;rw [h3,h4];exact ⟨rfl,rfl⟩
  · rintro ⟨h3, h4⟩
    have e1:a=60:=UInt8.toNat_inj.1 (by show a.toNat=60;omega)
    have e2:b=60:=UInt8.toNat_inj.1 (by show b.toNat=60;omega)
    rw [e1,e2]
 have HV:Hid (v=if c=60∧d=60 then -1 else if c < 48∨57 < c∨d < 48∨57 < d then -2 else 10*(c - 48)+(d - 48)):=Lib.hid (by rw [←hv];unfold zcA;rw [hc];show _=_;rw [show cB x (0+1)=d from hd])
 obtain ⟨c0,c1⟩:=hc0
 obtain ⟨d0,d1⟩:=hd0
 clear hx hl hc hd hv h2
 by_cases hf:c=60∧d=60
 · have e1 : (s.toList == [60, 60]) = true := by rw [hff]; simpa using hf
   clear hff
   have HF:=Lib.hid hf
   clear hf
   go_enter Tryz.func115,Tryz.ntmps115
   go_wp2
   go_ret
   exact ⟨by rw [HV.out,if_pos HF.out];rfl,Below.refl _ _⟩
 · have e1 : (s.toList == [60, 60]) = false := by rw [hff]; simpa using hf
   clear hff
   have HF:=Lib.hid hf
   clear hf
   by_cases a1:c < 48
   · go_enter Tryz.func115, Tryz.ntmps115
     go_wp2
     go_ret
     exact ⟨by rw [HV.out,if_neg HF.out,if_pos (by omega)];rfl,Below.refl _ _⟩
   by_cases a2:57 < c
   · go_enter Tryz.func115, Tryz.ntmps115
     go_wp2
     go_ret
     exact ⟨by rw [HV.out,if_neg HF.out,if_pos (by omega)];rfl,Below.refl _ _⟩
   by_cases a3:d < 48
   · go_enter Tryz.func115, Tryz.ntmps115
     go_wp2
     go_ret
     exact ⟨by rw [HV.out,if_neg HF.out,if_pos (by omega)];rfl,Below.refl _ _⟩
   by_cases a4:57 < d
   · go_enter Tryz.func115, Tryz.ntmps115
     go_wp2
     go_ret
     exact ⟨by rw [HV.out,if_neg HF.out,if_pos (by omega)];rfl,Below.refl _ _⟩
   · go_enter Tryz.func115, Tryz.ntmps115
     go_wp2_with fail
     refine wp_region_quiet_below (by kernel_rfl) (by kernel_rfl) ?_
     repeat (first | go_big_quiet_skip | (go_big_quiet_want;go_big_quiet_op;go_big_quiet_on))
     refine wpQuiet_nil ?_
     intro w3 hw3
     have H3:=Lib.hid (zag hw3)
     clear hw3
     go_wp2
     go_ret
     exact ⟨by rw [HV.out,if_neg HF.out,if_neg (by omega)];rfl,H3.out⟩
theorem zfk {x : List UInt8} {i n : Nat} (hn : i + 2 ≤ x.length) (h2 : 2 ≤ n) : zcA ((x.drop i).take n) 0 = zcA x i := by
 have e0:cB ((x.drop i).take n) 0=cB x i:=by rw [zcg (by omega),zcJ];rfl
 have e1:cB ((x.drop i).take n) (0+1)=cB x (i+1):=by rw [zcg (by omega),zcJ]
 unfold zcA
 rw [e0,e1]
theorem zfq (m:Int) (hi:Int) (h:1≤hi):m=-1∨(m≠-1∧¬1≤m)∨(m≠-1∧1≤m∧m≤hi)∨(m≠-1∧1≤m∧¬m≤hi):=by omega
set_option maxHeartbeats 1600000 in
theorem zbr (s : ByteArray) (x : List UInt8) (hx : s = S x) (b : Bool) (hb : zbO x = b) (w : World) (hm : s.size ≤ 140737488355328) :
 Calls Tryz.prog 91 #[.string s] w fun e w'=>e=.returned (.bool b)∧Below w.heap.size w w':=by
 have hl:s.size=x.length:=by rw [hx,zao]
 by_cases h6:s.size=6
 · obtain ⟨y, hy⟩ : ∃ y, zcA x 0 = y := ⟨_, rfl⟩
   obtain ⟨m,hmm⟩ : ∃m,zcA x 2=m:=⟨_,rfl⟩
   obtain ⟨d,hd⟩ : ∃d,zcA x 4=d:=⟨_,rfl⟩
   have HB : Hid (b = (decide (-2 < y) && (decide (m = -1 ∨ (1 ≤ m ∧ m ≤ 12)) && decide (d = -1 ∨ (1 ≤ d ∧ d ≤ 31))))) := Lib.hid (by
    rw [←hb];unfold zbO
    rw [hy,hmm,hd,decide_eq_true (show x.length=6 by omega),Bool.true_and])
   have q0:=zen (w:=w) fun w' _=>r_pair (s.extract 0 2) (x.take 2) (by rw [hx,zbI];rfl) (by rw [ByteArray.size_extract];omega) y (by rw [←hy];exact zfk (i:=0) (by omega) (by omega)) w'
   have q1:=zen (w:=w) fun w' _=>r_pair (s.extract 2 4) ((x.drop 2).take 2) (by rw [hx,zbI]) (by rw [ByteArray.size_extract];omega) m (by rw [←hmm];exact zfk (i:=2) (by omega) (by omega)) w'
   have q2:=zen (w:=w) fun w' _=>r_pair (s.extract 4 s.size) ((x.drop 4).take (x.length - 4)) (by rw [hx,zbI,zao]) (by rw [ByteArray.size_extract];omega) d (by rw [←hd];exact zfk (i:=4) (by omega) (by omega)) w'
   have q3:=zen (w:=w) fun w' _=>r_pair (s.extract 4 6) ((x.drop 4).take 2) (by rw [hx,zbI]) (by rw [ByteArray.size_extract];omega) d (by rw [←hd];exact zfk (i:=4) (by omega) (by omega)) w'
   have d6:((s.size:Int) != 6)=false:=by simp;omega
   have z1:s.size≤6:=by omega
   have z2:6≤s.size:=by omega
   clear hx hb hl hy hmm hd h6
   go_enter Tryz.func91,Tryz.ntmps91
   go_wp2_with fail
   refine wp_region_quiet_below (by kernel_rfl) (by kernel_rfl) ?_
   repeat (first | go_big_quiet_skip | (go_big_quiet_want;go_big_quiet_op;go_big_quiet_on) | quiet_step (first | with_reducible exact q0 _ _ | with_reducible exact q1 _ _ | with_reducible exact q2 _ _ | with_reducible exact q3 _ _))
   refine wpQuiet_nil ?_
   intro w3 hw3
   have H3:=Lib.hid (zag hw3)
   clear hw3 q0 q1 q2 q3
   by_cases a1:-2 < y
   · rcases zfq m 12 (by decide) with b1 | ⟨b1, b2⟩ | ⟨b1, b2, b3⟩ | ⟨b1, b2, b3⟩
     · have eb : (m == -1) = true := by rw [b1]; rfl
       rcases zfq d 31 (by decide) with c1 | ⟨c1,c2⟩ | ⟨c1,c2,c3⟩ | ⟨c1,c2,c3⟩
       · have ec : (d == -1) = true := by rw [c1]; rfl
         go_wp2
         go_ret
         exact ⟨by rw [HB.out,decide_eq_true a1,decide_eq_true (by omega),decide_eq_true (by omega)];rfl,H3.out⟩
       · have ec : (d == -1) = false := by simpa using c1
         go_wp2
         go_ret
         exact ⟨by rw [HB.out,decide_eq_true a1,decide_eq_true (by omega),decide_eq_false (by omega)];rfl,H3.out⟩
       · have ec : (d == -1) = false := by simpa using c1
         go_wp2
         go_ret
         exact ⟨by rw [HB.out,decide_eq_true a1,decide_eq_true (by omega),decide_eq_true (by omega)];rfl,H3.out⟩
       · have ec : (d == -1) = false := by simpa using c1
         go_wp2
         go_ret
         exact ⟨by rw [HB.out,decide_eq_true a1,decide_eq_true (by omega),decide_eq_false (by omega)];rfl,H3.out⟩
     · have eb : (m == -1) = false := by simpa using b1
       go_wp2
       go_ret
       exact ⟨by rw [HB.out,decide_eq_true a1,decide_eq_false (show ¬(m=-1∨(1≤m∧m≤12)) by omega)];rfl,H3.out⟩
     · have eb : (m == -1) = false := by simpa using b1
       rcases zfq d 31 (by decide) with c1 | ⟨c1,c2⟩ | ⟨c1,c2,c3⟩ | ⟨c1,c2,c3⟩
       · have ec : (d == -1) = true := by rw [c1]; rfl
         go_wp2
         go_ret
         exact ⟨by rw [HB.out,decide_eq_true a1,decide_eq_true (by omega),decide_eq_true (by omega)];rfl,H3.out⟩
       · have ec : (d == -1) = false := by simpa using c1
         go_wp2
         go_ret
         exact ⟨by rw [HB.out,decide_eq_true a1,decide_eq_true (by omega),decide_eq_false (by omega)];rfl,H3.out⟩
       · have ec : (d == -1) = false := by simpa using c1
         go_wp2
         go_ret
         exact ⟨by rw [HB.out,decide_eq_true a1,decide_eq_true (by omega),decide_eq_true (by omega)];rfl,H3.out⟩
       · have ec : (d == -1) = false := by simpa using c1
         go_wp2
         go_ret
         exact ⟨by rw [HB.out,decide_eq_true a1,decide_eq_true (by omega),decide_eq_false (by omega)];rfl,H3.out⟩
     · have eb : (m == -1) = false := by simpa using b1
       go_wp2
       go_ret
       exact ⟨by rw [HB.out,decide_eq_true a1,decide_eq_false (show ¬(m=-1∨(1≤m∧m≤12)) by omega)];rfl,H3.out⟩
   · go_wp2
     go_ret
     exact ⟨by rw [HB.out,decide_eq_false (show ¬-2 < y by omega)];rfl,H3.out⟩
 · have HR : Hid (b = false) := Lib.hid (by rw [← hb]; unfold zbO; rw [decide_eq_false (by omega), Bool.false_and])
   have d6:((s.size:Int) != 6)=true:=by simp;omega
   clear hx hb hl
   go_enter Tryz.func91,Tryz.ntmps91
   go_wp2
   go_ret
   exact ⟨by rw [HR.out];rfl,Below.refl _ _⟩
end Go.Proofs.YtnlhbknajdpnbaaGreatDoor
namespace Go.Proofs.YtnlhbknajdpnbaaGreatDoor
open Go.RowKit Go.Maps
theorem r_validB (x : List UInt8) (b : Bool) (hb : zaC x = b) (w : World) (hm : (S x).size ≤ 140737488355328) : Calls Tryz.prog 96 #[.string (S x)] w fun e w' => e = .returned (.bool b) ∧ w = w' := by
 rw [←hb];exact (r_valid (S x) x rfl w (by unfold maxLen;omega)).mono fun e w' h=>⟨h.1,h.2.symm⟩
set_option maxHeartbeats 1600000 in
theorem zaV (x : List UInt8) (b : Bool) (hb : zaN x = b) (w : World) (hm : (S x).size ≤ 140737488355328) :
 Calls Tryz.prog 93 #[.string (S x)] w fun e w'=>e=.returned (.bool b)∧w=w':=by
 have HM:=Lib.hid hm
 have HB:=Lib.hid hb
 clear hb
 rcases hv:zaC x with _ | _
 · have HV := Lib.hid hv
   clear hv
   go_enter Tryz.func93,Tryz.ntmps93
   go_wp2_with (go_at_call 96;((with_reducible refine (r_validB x false HV.out _ HM.out).mono ?_);rintro e w' ⟨rfl,rfl⟩))
   go_ret
   exact ⟨by rw [←HB.out];unfold zaN;rw [HV.out];rfl,rfl⟩
 · have HV := Lib.hid hv
   clear hv
   by_cases hx:x=[]
   · have hs := zfE (s := S x) rfl hx
     have HX:=Lib.hid hx
     clear hx
     go_enter Tryz.func93,Tryz.ntmps93
     go_wp2_with (go_at_call 96;((with_reducible refine (r_validB x true HV.out _ HM.out).mono ?_);rintro e w' ⟨rfl,rfl⟩))
     go_ret
     exact ⟨by rw [←HB.out];unfold zaN;rw [HV.out,decide_eq_true (.inl HX.out)];rfl,rfl⟩
   · have hs := s_ne (s := S x) rfl hx
     have hpos:0 < (S x).size:=by rw [zao];exact List.length_pos_iff.2 hx
     have HX:=Lib.hid hx
     obtain ⟨T,hT⟩ : ∃T,S x=T:=⟨_,rfl⟩
     obtain ⟨c,hc⟩ : ∃c,cB x 0=c:=⟨_,rfl⟩
     obtain ⟨d,hd⟩ : ∃d,cB x (x.length - 1)=d:=⟨_,rfl⟩
     have i0:=fun w=>ix_lit0 (s:=T) hT.symm (by rw [←hT];exact hpos) hc w
     have i1 : ∀ w, (Instr.index 9 (.string T) (.int .i64 ((T.size : Int) - 1))).run Tryz.prog w = .ok (.int .u8 d) w := fun w => by
      have h1:=ix_at (s:=T) (x:=x) hT.symm (k:=x.length - 1) (by rw [←hT,zao];rw [zao] at hpos;omega) hd w
      have e:(T.size:Int) - 1=((x.length - 1:Nat):Int):=by rw [←hT,zao];rw [zao] at hpos;omega
      rw [e];exact h1
     have HVV:Hid (∀w,Calls Tryz.prog 96 #[.string T] w fun e w'=>e=.returned (.bool true)∧w=w'):=Lib.hid (fun w=>by rw [←hT];exact r_validB x true HV.out w hm)
     have HCD:=Lib.hid (show _∧_ from ⟨hc,hd⟩)
     rw [hT] at hs hpos hm ⊢
     clear hx hT hc hd
     by_cases a1:c=60
     · have e1 : (c != 60) = false := by rw [a1]; rfl
       have HA:=Lib.hid a1
       clear a1
       go_enter Tryz.func93,Tryz.ntmps93
       go_wp2_with (go_at_call 96;((with_reducible refine (HVV.out _).mono ?_);rintro e w' ⟨rfl,rfl⟩))
       go_ret
       exact ⟨by rw [←HB.out];unfold zaN;rw [HV.out,decide_eq_false (fun h=>h.elim HX.out (fun h2=>h2.1 (by rw [HCD.out.1];exact HA.out)))];rfl,rfl⟩
     · have e1 : (c != 60) = true := by simpa using a1
       have HA:=Lib.hid a1
       clear a1
       by_cases a2:d=60
       · have e2 : (d != 60) = false := by rw [a2]; rfl
         have HA2:=Lib.hid a2
         clear a2
         go_enter Tryz.func93,Tryz.ntmps93
         go_wp2_with (go_at_call 96;((with_reducible refine (HVV.out _).mono ?_);rintro e w' ⟨rfl,rfl⟩))
         go_ret
         exact ⟨by rw [←HB.out];unfold zaN;rw [HV.out,decide_eq_false (fun h=>h.elim HX.out (fun h2=>h2.2 (by rw [HCD.out.2];exact HA2.out)))];rfl,rfl⟩
       · have e2 : (d != 60) = true := by simpa using a2
         have HA2:=Lib.hid a2
         clear a2
         go_enter Tryz.func93,Tryz.ntmps93
         go_wp2_with (go_at_call 96;((with_reducible refine (HVV.out _).mono ?_);rintro e w' ⟨rfl,rfl⟩))
         go_ret
         exact ⟨by rw [←HB.out];unfold zaN;rw [HV.out,decide_eq_true (.inr ⟨by rw [HCD.out.1];exact HA.out,by rw [HCD.out.2];exact HA2.out⟩)];rfl,rfl⟩
def zfC (z:Zn):Int:=(optN z.fm:Int) - if 9 < z.nu.length then (z.nu.length:Int) - 7 else 0
theorem ix_op1 (w:World):(Instr.index 81 (.agg #[.int .i64 0,.int .i64 15,.int .i64 7,.int .i64 14]) (.int .i64 1)).run Tryz.prog w=.ok (.int .i64 15) w:=by kernel_rfl
theorem ix_op2 (w:World):(Instr.index 81 (.agg #[.int .i64 0,.int .i64 15,.int .i64 7,.int .i64 14]) (.int .i64 2)).run Tryz.prog w=.ok (.int .i64 7) w:=by kernel_rfl
theorem ix_op3 (w:World):(Instr.index 81 (.agg #[.int .i64 0,.int .i64 15,.int .i64 7,.int .i64 14]) (.int .i64 3)).run Tryz.prog w=.ok (.int .i64 14) w:=by kernel_rfl
theorem ix_mx1 (w:World):(Instr.index 81 (.agg #[.int .i64 0,.int .i64 20,.int .i64 14,.int .i64 9]) (.int .i64 1)).run Tryz.prog w=.ok (.int .i64 20) w:=by kernel_rfl
theorem ix_mx2 (w:World):(Instr.index 81 (.agg #[.int .i64 0,.int .i64 20,.int .i64 14,.int .i64 9]) (.int .i64 2)).run Tryz.prog w=.ok (.int .i64 14) w:=by kernel_rfl
theorem ix_mx3 (w:World):(Instr.index 81 (.agg #[.int .i64 0,.int .i64 20,.int .i64 14,.int .i64 9]) (.int .i64 3)).run Tryz.prog w=.ok (.int .i64 9) w:=by kernel_rfl
theorem ix_op {f : Int} (h : 1 ≤ f ∧ f ≤ 3) (w : World) : (Instr.index 81 (.agg #[.int .i64 0, .int .i64 15, .int .i64 7, .int .i64 14]) (.int .i64 f)).run Tryz.prog w = .ok (.int .i64 ((optN f : Nat) : Int)) w := by
 have h:f=1∨f=2∨f=3:=by omega
 rcases h with rfl | rfl | rfl
 · exact ix_op1 w
 · exact ix_op2 w
 · exact ix_op3 w
theorem ix_mx {f : Int} (h : 1 ≤ f ∧ f ≤ 3) (w : World) : (Instr.index 81 (.agg #[.int .i64 0, .int .i64 20, .int .i64 14, .int .i64 9]) (.int .i64 f)).run Tryz.prog w = .ok (.int .i64 ((maxN f : Nat) : Int)) w := by
 have h:f=1∨f=2∨f=3:=by omega
 rcases h with rfl | rfl | rfl
 · exact ix_mx1 w
 · exact ix_mx2 w
 · exact ix_mx3 w
set_option maxHeartbeats 1600000 in
theorem zgs (z : Zn) (hf : 1 ≤ z.fm ∧ z.fm ≤ 3) (us : List Value) (hus : zV z = us) (hz : (S z.nu).size ≤ 140737488355328) (w : World) :
 Calls Tryz.prog 94 #[.agg us.toArray] w fun e w'=>e=.returned (.int .i64 (zfC z))∧Below w.heap.size w w':=by
 obtain ⟨f,hff⟩ : ∃f,z.fm=f:=⟨_,rfl⟩
 rw [hff] at hf
 have hix:=fun w=>ix_op hf w
 obtain ⟨o,ho⟩ : ∃o,optN f=o:=⟨_,rfl⟩
 rw [ho] at hix
 have hob:o≤15:=by rw [←ho];unfold optN;repeat (first | omega | split)
 obtain ⟨N,hN⟩ : ∃N,S z.nu=N:=⟨_,rfl⟩
 have HU0:Hid (us[0]? = some (.int .i64 f)):=Lib.hid (by rw [←hus,←hff];rfl)
 have HU5:Hid (us[5]? = some (.string N)):=Lib.hid (by rw [←hus,←hN];rfl)
 have HR:Hid (zfC z=(o:Int) - if 9 < N.size then (N.size:Int) - 7 else 0):=Lib.hid (by unfold zfC;rw [hff,ho,←hN,zao])
 rw [hN] at hz
 have HO:=Lib.hid (Own.start w)
 clear hf hff ho hN hus
 by_cases h9:9 < N.size
 · have d9 : (9 : Int) < (N.size : Int) := by omega
   go_enter Tryz.func94,Tryz.ntmps94
   go_wp2_with (first
    | ((with_reducible refine zbl (d:=1) ?_);refine zax (op:=⟨some 1,_,_,_,_,_⟩) rfl 46 _ rfl us rfl ?_;intro g1 v1b hf hr;replace HO:=Lib.hid (HO.out.new hf hr);clear hf hr)
    | ((with_reducible refine zaa (d:=6) ?_);refine zab rfl 3 _ rfl g1 0 rfl _ (((HO.out.row (i:=0) rfl).cell 0).trans HU0.out) Tryz.isAgg3 ?_)
    | ((with_reducible refine zaa (d:=9) ?_);refine zab rfl 9 _ rfl g1 5 rfl _ (((HO.out.row (i:=0) rfl).cell 5).trans HU5.out) Tryz.isAgg9 ?_)
    | ((with_reducible refine zaa (d:=14) ?_);refine zab rfl 9 _ rfl g1 5 rfl _ (((HO.out.row (i:=0) rfl).cell 5).trans HU5.out) Tryz.isAgg9 ?_))
   go_ret
   refine ⟨?_,HO.out.bl⟩
   rw [HR.out,if_pos h9]
   show Ending.returned (.int .i64 _)=_
   congr 2
   omega
 · have d9 : ¬ (9 : Int) < (N.size : Int) := by omega
   go_enter Tryz.func94,Tryz.ntmps94
   go_wp2_with (first
    | ((with_reducible refine zbl (d:=1) ?_);refine zax (op:=⟨some 1,_,_,_,_,_⟩) rfl 46 _ rfl us rfl ?_;intro g1 v1b hf hr;replace HO:=Lib.hid (HO.out.new hf hr);clear hf hr)
    | ((with_reducible refine zaa (d:=6) ?_);refine zab rfl 3 _ rfl g1 0 rfl _ (((HO.out.row (i:=0) rfl).cell 0).trans HU0.out) Tryz.isAgg3 ?_)
    | ((with_reducible refine zaa (d:=9) ?_);refine zab rfl 9 _ rfl g1 5 rfl _ (((HO.out.row (i:=0) rfl).cell 5).trans HU5.out) Tryz.isAgg9 ?_))
   go_ret
   refine ⟨?_,HO.out.bl⟩
   rw [HR.out,if_neg h9]
   show Ending.returned (.int .i64 _)=_
   congr 2
   first | done | omega
theorem r_checked (s : ByteArray) (x : List UInt8) (hx : s = S x) (hz : s.size ≤ 1000) (w : World) :
 Calls Tryz.prog 70 #[.string s] w fun e w'=>e=.returned (.string (S (x++dgL x)))∧Below w.heap.size w w':=by
 obtain ⟨D,hD⟩ : ∃D,S (dgL x)=D:=⟨_,rfl⟩
 have hDz:D.size≤1:=by rw [←hD];exact zdL x
 have HR:Hid (s++D=S (x++dgL x)):=Lib.hid (by rw [hx,←hD,zaz])
 have HC:Hid (∀w,Calls Tryz.prog 72 #[.string s] w fun e w'=>e=.returned (.tuple #[.string D,.int .i64 (dgE x)])∧Below w.heap.size w w'):=Lib.hid (fun w=>by rw [←hD];exact zeB s x hx w (by omega))
 clear hx hD
 go_enter Tryz.func70,Tryz.ntmps70
 go_wp2_with (go_at_call 72;((with_reducible refine (HC.out _).mono ?_);rintro e w1 ⟨rfl,hb⟩);have HB:=Lib.hid hb;clear hb)
 go_ret
 exact ⟨by rw [←HR.out];rfl,HB.out⟩
end Go.Proofs.YtnlhbknajdpnbaaGreatDoor
namespace Go.Proofs.YtnlhbknajdpnbaaGreatDoor
open Go.RowKit
def RfRel (s:ByteArray) (w:World) (k:Nat) (wr:World):Prop:=Below w.heap.size w wr∧Prs s k w.heap.size wr∧allDig s k
theorem RfRel.step {s : ByteArray} {w wr : World} {k j n : Nat} {v : Int} (h : RfRel s w k wr) (hk : k < 6) (hj : j = k / 2) (hv : v = pr s (k + 1) j) (hd : dig s k = true) : RfRel s w (k + 1) ((wr.drewN n).setCell ⟨w.heap.size, j, none⟩ (.int .i64 v)) := by
 obtain ⟨hb,h1,h2⟩:=h
 exact ⟨(zbq hb n).setCell (by simp) _,(h1.drewN n).step hk hj hv,zfo h2 hd⟩
theorem RfRel.start (s : ByteArray) (w : World) : RfRel s w 0 (w.alloc (.cells #[.int .i64 0, .int .i64 0, .int .i64 0] 135)) :=
 ⟨(Below.refl _ _).alloc (Nat.le_refl _) _,Prs.zero s (heap_alloc_new w _),fun q h=>by omega⟩
set_option maxHeartbeats 4000000 in
theorem zeF (s : ByteArray) (f : Int) (w : World) (_m : s.size ≤ maxLen) :
 Calls Tryz.prog 92 #[.string s,.int .i64 f] w (zeH s f w):=by
 by_cases h1:f < 1900
 · have H := @ps_range s f w w (.inl h1) (Below.refl _ _)
   have d1:decide (f < 1900)=true:=by simpa using h1
   clear h1
   go_enter Tryz.func92,Tryz.ntmps92
   go_wp2
   go_ret2
   exact H
 · have d1 : decide (f < 1900) = false := by simpa using h1
   by_cases h2:2000 < f
   · have H := @ps_range s f w w (.inr h2) (Below.refl _ _)
     have d2:decide (2000 < f)=true:=by simpa using h2
     clear h1 h2
     go_enter Tryz.func92,Tryz.ntmps92
     go_wp2
     go_ret2
     exact H
   · have d2 : decide (2000 < f) = false := by simpa using h2
     have f1:1900≤f:=by omega
     have f2:f≤2000:=by omega
     clear h1 h2
     by_cases h6:s.size=6
     · have d6 : ((s.size : Int) != 6) = false := by simp; omega
       have H6:=Lib.hid h6
       have z1:s.size≤6:=by omega
       have z2:6≤s.size:=by omega
       have HF:=Lib.hid (fun w' (h:rpOk s=false) (hb:Below w.heap.size w w')=>ps_form f1 f2 h hb)
       have HS:=Lib.hid (fun w' (h:rpOk s=true) (hb:Below w.heap.size w w')=>ps_ok f1 f2 h hb)
       clear h6
       go_enter Tryz.func92,Tryz.ntmps92
       go_wp2
       go_loopw [7] (fun i wr=>∃k:Nat,k≤6∧i=.int .i64 (k:Int)∧Hid (RfRel s w k wr)) (fun i _=>6 - (intOf i).toNat)
       case atStart=>exact ⟨0,by omega,rfl,Lib.hid (RfRel.start s w)⟩
       case round =>
        obtain ⟨k,hk,rfl,HR⟩:=hrel
        by_cases hlt:k < 6
        · have hks : k < s.size := by omega
          have hc:=ch_at s k hks
          obtain ⟨c,hcc⟩ : ∃c,c=ch s k:=⟨_,rfl⟩
          have hc8:c < 256:=by rw [hcc];exact ch_lt s k
          rw [←hcc] at hc
          have HC:=Lib.hid hcc
          have hi:(s[k].toNat:Int)=(c:Int):=by rw [hc]
          clear hcc hc
          by_cases hD:dig s k=true
          · have hd := dig_bd hD
            rw [←HC.out] at hd
            obtain ⟨hd1,hd2⟩:=hd
            have t1:decide ((c:Int) < 48)=false:=by simp;omega
            have t2:decide ((57:Int) < (c:Int))=false:=by simp;omega
            have b1:=HR.out.2.1
            unfold Prs at b1
            have hk6:k=0∨k=1∨k=2∨k=3∨k=4∨k=5:=by omega
            have HD:=Lib.hid hD
            clear hD
            have hbd : ∀ j, -1000 ≤ pr s k j ∧ pr s k j ≤ 10000 := fun j => by
             have h1:=ch_lt s (2*j)
             have h2:=ch_lt s (2*j+1)
             unfold pr;repeat' split
             all_goals omega
            rcases hk6 with rfl | rfl | rfl | rfl | rfl | rfl
            · have hb0 := hbd 0
              have c0:wr.cell? ⟨w.heap.size,0,none⟩=some (.int .i64 (pr s 0 0)):=cell_of_row wr w.heap.size 0 _ _ _ b1
              have f0:=frozen_of_row wr w.heap.size 0 _ _ b1
              have hv:10*pr s 0 0+((c:Int) - 48)=pr s (0+1) 0:=by rw [HC.out];simp [pr]
              have HV:=Lib.hid hv
              clear b1 hbd hv
              go_wp2
              go_region
              all_goals
               go_wp2
               go_roundw
               case rel=>exact ⟨1,by omega,by go_num,Lib.hid (HR.out.step hlt rfl HV.out HD.out)⟩
               case measure=>simp [intOf]
            · have hb0 := hbd 0
              have c0:wr.cell? ⟨w.heap.size,0,none⟩=some (.int .i64 (pr s 1 0)):=cell_of_row wr w.heap.size 0 _ _ _ b1
              have f0:=frozen_of_row wr w.heap.size 0 _ _ b1
              have hv:10*pr s 1 0+((c:Int) - 48)=pr s (1+1) 0:=by rw [HC.out];simp [pr];omega
              have HV:=Lib.hid hv
              clear b1 hbd hv
              go_wp2
              go_region
              all_goals
               go_wp2
               go_roundw
               case rel=>exact ⟨2,by omega,by go_num,Lib.hid (HR.out.step hlt rfl HV.out HD.out)⟩
               case measure=>simp [intOf]
            · have hb0 := hbd 1
              have c0:wr.cell? ⟨w.heap.size,1,none⟩=some (.int .i64 (pr s 2 1)):=cell_of_row wr w.heap.size 1 _ _ _ b1
              have f0:=frozen_of_row wr w.heap.size 1 _ _ b1
              have hv:10*pr s 2 1+((c:Int) - 48)=pr s (2+1) 1:=by rw [HC.out];simp [pr]
              have HV:=Lib.hid hv
              clear b1 hbd hv
              go_wp2
              go_region
              all_goals
               go_wp2
               go_roundw
               case rel=>exact ⟨3,by omega,by go_num,Lib.hid (HR.out.step hlt rfl HV.out HD.out)⟩
               case measure=>simp [intOf]
            · have hb0 := hbd 1
              have c0:wr.cell? ⟨w.heap.size,1,none⟩=some (.int .i64 (pr s 3 1)):=cell_of_row wr w.heap.size 1 _ _ _ b1
              have f0:=frozen_of_row wr w.heap.size 1 _ _ b1
              have hv:10*pr s 3 1+((c:Int) - 48)=pr s (3+1) 1:=by rw [HC.out];simp [pr];omega
              have HV:=Lib.hid hv
              clear b1 hbd hv
              go_wp2
              go_region
              all_goals
               go_wp2
               go_roundw
               case rel=>exact ⟨4,by omega,by go_num,Lib.hid (HR.out.step hlt rfl HV.out HD.out)⟩
               case measure=>simp [intOf]
            · have hb0 := hbd 2
              have c0:wr.cell? ⟨w.heap.size,2,none⟩=some (.int .i64 (pr s 4 2)):=cell_of_row wr w.heap.size 2 _ _ _ b1
              have f0:=frozen_of_row wr w.heap.size 2 _ _ b1
              have hv:10*pr s 4 2+((c:Int) - 48)=pr s (4+1) 2:=by rw [HC.out];simp [pr]
              have HV:=Lib.hid hv
              clear b1 hbd hv
              go_wp2
              go_region
              all_goals
               go_wp2
               go_roundw
               case rel=>exact ⟨5,by omega,by go_num,Lib.hid (HR.out.step hlt rfl HV.out HD.out)⟩
               case measure=>simp [intOf]
            · have hb0 := hbd 2
              have c0:wr.cell? ⟨w.heap.size,2,none⟩=some (.int .i64 (pr s 5 2)):=cell_of_row wr w.heap.size 2 _ _ _ b1
              have f0:=frozen_of_row wr w.heap.size 2 _ _ b1
              have hv:10*pr s 5 2+((c:Int) - 48)=pr s (5+1) 2:=by rw [HC.out];simp [pr];omega
              have HV:=Lib.hid hv
              clear b1 hbd hv
              go_wp2
              go_region
              all_goals
               go_wp2
               go_roundw
               case rel=>exact ⟨6,by omega,by go_num,Lib.hid (HR.out.step hlt rfl HV.out HD.out)⟩
               case measure=>simp [intOf]
          · have hD : dig s k = false := by simpa using hD
            have HN:=Lib.hid (rpOk_no hlt hD)
            have HB:=Lib.hid HR.out.1
            have hd : c < 48 ∨ 57 < c := by
             rw [HC.out]
             by_cases h:ch s k < 48
             · exact .inl h
             · right;unfold dig at hD;rw [Bool.and_eq_false_iff] at hD;simp at hD;omega
            clear hD
            rcases hd with hd | hd
            · have t1 : decide ((c : Int) < 48) = true := by simp; omega
              go_wp2
              go_ret2
              exact HF.out _ HN.out HB.out
            · have t1 : decide ((c : Int) < 48) = false := by simp; omega
              have t2:decide ((57:Int) < (c:Int))=true:=by simp;omega
              go_wp2
              go_ret2
              exact HF.out _ HN.out HB.out
        · obtain rfl : k = 6 := by omega
          have hg:=HR.out.2.2
          have hok:=rpOk_yes H6.out hg
          have p0:=pr_bd hok 0 (by omega)
          have HG:=Lib.hid hok
          have HB:=Lib.hid HR.out.1
          have b1:=HR.out.2.1
          unfold Prs at b1
          have c0:wr.cell? ⟨w.heap.size,0,none⟩=some (.int .i64 (pr s 6 0)):=cell_of_row wr w.heap.size 0 _ _ _ b1
          have c1:wr.cell? ⟨w.heap.size,1,none⟩=some (.int .i64 (pr s 6 1)):=cell_of_row wr w.heap.size 1 _ _ _ b1
          have c2:wr.cell? ⟨w.heap.size,2,none⟩=some (.int .i64 (pr s 6 2)):=cell_of_row wr w.heap.size 2 _ _ _ b1
          clear b1 hg hok
          by_cases hy:f - f % 100+pr s 6 0 < f
          · have HY : Hid (fy (pr s 6 0) f = f - f % 100 + pr s 6 0 + 100) := Lib.hid (by unfold fy; rw [if_pos hy])
            have HS2:=HS.out wr HG.out HB.out
            rw [HY.out] at HS2
            go_wp2_with ((go_at_call 116;with_reducible refine (r_of _ _ _ _).mono ?_);rintro e w' ⟨rfl,rfl⟩)
            go_ret2
            exact HS2
          · have HY : Hid (fy (pr s 6 0) f = f - f % 100 + pr s 6 0) := Lib.hid (by unfold fy; rw [if_neg hy])
            have HS2:=HS.out wr HG.out HB.out
            rw [HY.out] at HS2
            go_wp2_with ((go_at_call 116;with_reducible refine (r_of _ _ _ _).mono ?_);rintro e w' ⟨rfl,rfl⟩)
            go_ret2
            exact HS2
     · have d6 : ((s.size : Int) != 6) = true := by simp; omega
       have H:=@ps_form s f w w f1 f2 (rpOk_size h6) (Below.refl _ _)
       clear h6
       go_enter Tryz.func92,Tryz.ntmps92
       go_wp2
       go_ret2
       exact H
end Go.Proofs.YtnlhbknajdpnbaaGreatDoor
