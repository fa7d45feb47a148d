/-
  What is proved here: what the program's and the reference's Valid and Constructed return, for every number.
-/
import Derived.Test.YtnlhbknajdpnbaaGreatDoorRows
import Derived.Test.YtnlhbknajdpnbaaGreatDoorF0
import Derived.Laws.BitsAllLaws
set_option linter.unusedVariables false
set_option linter.unusedSimpArgs false
namespace Go.Proofs.YtnlhbknajdpnbaaGreatDoor
open Go.RowKit
set_option maxRecDepth 8000
theorem zec (a b : Nat) (ha : a < 9223372036854775808) (hb : b < 9223372036854775808) : bits .and .i64 (a : Int) (b : Int) = ((a &&& b : Nat) : Int) := by
 have hx:a &&& b < 2 ^ 63:=Nat.and_lt_two_pow _ (by omega)
 show IntKind.i64.wrap ((BitVec.ofInt 64 (a:Int) &&& BitVec.ofInt 64 (b:Int)).toNat:Int)=_
 rw [BitVec.toNat_and,ofInt_u64 a (by omega),ofInt_u64 b (by omega),IntKind.wrap_i64]
 omega
theorem i64_or_nat (a b : Nat) (ha : a < 9223372036854775808) (hb : b < 9223372036854775808) : bits .or .i64 (a : Int) (b : Int) = ((a ||| b : Nat) : Int) := by
 have hx:a ||| b < 2 ^ 63:=Nat.or_lt_two_pow (by omega) (by omega)
 show IntKind.i64.wrap ((BitVec.ofInt 64 (a:Int) ||| BitVec.ofInt 64 (b:Int)).toNat:Int)=_
 rw [BitVec.toNat_or,ofInt_u64 a (by omega),ofInt_u64 b (by omega),IntKind.wrap_i64]
 omega
theorem and_31 {t : Int} (h : 0 ≤ t) (h2 : t ≤ 9223372036854775807) : bits .and .i64 t 31 = t % 32 := by
 obtain ⟨a,rfl⟩:=Int.eq_ofNat_of_zero_le h
 have:=zec a 31 (by omega) (by decide)
 rw [Nat.and_two_pow_sub_one_eq_mod a 5] at this
 simpa using this
theorem and_255 {t : Int} (h : 0 ≤ t) (h2 : t ≤ 9223372036854775807) : bits .and .i64 t 255 = t % 256 := by
 obtain ⟨a,rfl⟩:=Int.eq_ofNat_of_zero_le h
 have:=zec a 255 (by omega) (by decide)
 rw [Nat.and_two_pow_sub_one_eq_mod a 8] at this
 simpa using this
theorem and_32 {t : Int} (h : 0 ≤ t) (h2 : t ≤ 9223372036854775807) : bits .and .i64 t 32 = t / 32 % 2 * 32 := by
 obtain ⟨a,rfl⟩:=Int.eq_ofNat_of_zero_le h
 have:=zec a 32 (by omega) (by decide)
 rw [nat_bit5 a] at this
 simpa using this
def zaA (t:Int):Bool:=if t≤255 then decide (0 < t) && decide (t % 32≠31) else decide (t / 256≤255) && decide (t / 256 % 32=31) && decide (1≤t % 256) && decide (t % 256≤127)
def zfO (t:Int):Int:=if t≤255 then t else t / 256
def zaE (t:Int):Bool:=zaA t && decide (zfO t / 32 % 2=1)
theorem zba {t : Int} (h : zaA t = true) : 0 < t ∧ t ≤ 65535 := by
 unfold zaA at h
 split at h <;> simp at h <;> omega
theorem zcQ (t : Int) (lo : -9223372036854775808 ≤ t) (hi : t ≤ 9223372036854775807) (w : World) :
 Calls Tryz.prog 120 #[.int .i64 t] w fun e w'=>e=.returned (.bool (zaA t))∧w'=w:=by
 by_cases h1:t≤255
 · have d1 : decide (t ≤ 255) = true := by simpa using h1
   by_cases h2:0 < t
   · have d2 : decide (0 < t) = true := by simpa using h2
     have e:=and_31 (t:=t) (by omega) hi
     have hv:zaA t=(t % 32 != 31):=by unfold zaA;rw [if_pos h1,d2,Bool.true_and];by_cases h3:t % 32=31 <;> simp [h3]
     rw [hv]
     clear hv h1 h2
     go_enter Tryz.func120,Tryz.ntmps120
     go_wp2
     go_ret
     exact ⟨rfl,rfl⟩
   · have d2 : decide (0 < t) = false := by simpa using h2
     have hv:zaA t=false:=by unfold zaA;rw [if_pos h1,d2,Bool.false_and]
     rw [hv]
     clear hv h1 h2
     go_enter Tryz.func120,Tryz.ntmps120
     go_wp2
     go_ret
     exact ⟨rfl,rfl⟩
 · have d1 : decide (t ≤ 255) = false := by simpa using h1
   have e:=and_255 (t:=t) (by omega) hi
   have e2:=and_31 (t:=t / 256) (by omega) (by omega)
   have hv:zaA t=(decide (t / 256≤255) && decide (t / 256 % 32=31) && decide (1≤t % 256) && decide (t % 256≤127)):=by unfold zaA;rw [if_neg h1]
   by_cases h3:t / 256≤255
   · have d3 : decide (t / 256 ≤ 255) = true := by simpa using h3
     by_cases h4:t / 256 % 32=31
     · have d4 : decide (t / 256 % 32 = 31) = true := by simpa using h4
       have d4':(t / 256 % 32==31)=true:=by simpa using h4
       by_cases h5:1≤t % 256
       · have d5 : decide (1 ≤ t % 256) = true := by simpa using h5
         rw [hv,d3,d4,d5,Bool.true_and,Bool.true_and,Bool.true_and]
         clear hv h1 h3 h4 h5
         go_enter Tryz.func120,Tryz.ntmps120
         go_wp2
         go_ret
         exact ⟨rfl,rfl⟩
       · have d5 : decide (1 ≤ t % 256) = false := by simpa using h5
         rw [hv,d3,d4,d5,Bool.and_false,Bool.false_and]
         clear hv h1 h3 h4 h5
         go_enter Tryz.func120,Tryz.ntmps120
         go_wp2
         go_ret
         exact ⟨rfl,rfl⟩
     · have d4 : decide (t / 256 % 32 = 31) = false := by simpa using h4
       have d4':(t / 256 % 32==31)=false:=by simpa using h4
       rw [hv,d3,d4,Bool.true_and,Bool.false_and,Bool.false_and]
       clear hv h1 h3 h4
       go_enter Tryz.func120,Tryz.ntmps120
       go_wp2
       go_ret
       exact ⟨rfl,rfl⟩
   · have d3 : decide (t / 256 ≤ 255) = false := by simpa using h3
     rw [hv,d3,Bool.false_and,Bool.false_and,Bool.false_and]
     clear hv h1 h3
     go_enter Tryz.func120,Tryz.ntmps120
     go_wp2
     go_ret
     exact ⟨rfl,rfl⟩
theorem zcU (t : Int) (w : World) :
 Calls Tryz.prog 110 #[.int .i64 t] w fun e w'=>e=.returned (.int .i64 (if 255 < t then 2 else 1))∧w'=w:=by
 by_cases h:255 < t
 · rw [if_pos h]
   have d:decide (255 < t)=true:=by simpa using h
   clear h
   go_enter Tryz.func110,Tryz.ntmps110
   go_wp2
   go_ret
   exact ⟨rfl,rfl⟩
 · rw [if_neg h]
   have d:decide (255 < t)=false:=by simpa using h
   clear h
   go_enter Tryz.func110,Tryz.ntmps110
   go_wp2
   go_ret
   exact ⟨rfl,rfl⟩
theorem zeh (t : Int) (lo : -9223372036854775808 ≤ t) (hi : t ≤ 9223372036854775807) (w : World) :
 Calls Tryz.prog 106 #[.int .i64 t] w fun e w'=>e=.returned (.bool (zaE t))∧w'=w:=by
 cases hv:zaA t
 · have hc : zaE t = false := by unfold zaE; rw [hv, Bool.false_and]
   rw [hc]
   clear hc
   by_cases h:255 < t
   · have hs : ∀ u, Calls Tryz.prog 110 #[.int .i64 t] u fun e w' => e = .returned (.int .i64 2) ∧ w' = u := fun u => by have := zcU t u; rwa [if_pos h] at this
     have hw:∀u,Calls Tryz.prog 120 #[.int .i64 t] u fun e w'=>e=.returned (.bool false)∧w'=u:=fun u=>by have:=zcQ t lo hi u;rwa [hv] at this
     have HS:=Lib.hid hs
     have HW:=Lib.hid hw
     clear hs hw
     go_enter Tryz.func106,Tryz.ntmps106
     go_wp2_with (first | (go_at_call 110;refine (HS.out _).mono ?_;rintro e w' ⟨rfl,rfl⟩) | (go_at_call 120;refine (HW.out _).mono ?_;rintro e w' ⟨rfl,rfl⟩))
     go_ret
     exact ⟨rfl,rfl⟩
   · have hs : ∀ u, Calls Tryz.prog 110 #[.int .i64 t] u fun e w' => e = .returned (.int .i64 1) ∧ w' = u := fun u => by have := zcU t u; rwa [if_neg h] at this
     have hw:∀u,Calls Tryz.prog 120 #[.int .i64 t] u fun e w'=>e=.returned (.bool false)∧w'=u:=fun u=>by have:=zcQ t lo hi u;rwa [hv] at this
     have HS:=Lib.hid hs
     have HW:=Lib.hid hw
     clear hs hw
     go_enter Tryz.func106,Tryz.ntmps106
     go_wp2_with (first | (go_at_call 110;refine (HS.out _).mono ?_;rintro e w' ⟨rfl,rfl⟩) | (go_at_call 120;refine (HW.out _).mono ?_;rintro e w' ⟨rfl,rfl⟩))
     go_ret
     exact ⟨rfl,rfl⟩
 · have hr := zba hv
   have hw:∀u,Calls Tryz.prog 120 #[.int .i64 t] u fun e w'=>e=.returned (.bool true)∧w'=u:=fun u=>by have:=zcQ t lo hi u;rwa [hv] at this
   have HW:=Lib.hid hw
   clear hw
   by_cases h:255 < t
   · have hs : ∀ u, Calls Tryz.prog 110 #[.int .i64 t] u fun e w' => e = .returned (.int .i64 2) ∧ w' = u := fun u => by have := zcU t u; rwa [if_pos h] at this
     have HS:=Lib.hid hs
     have hc : zaE t = (t / 256 / 32 % 2 * 32 != 0) := by
      unfold zaE zfO;rw [hv,Bool.true_and,if_neg (by omega)]
      by_cases h3:t / 256 / 32 % 2=1
      · simp [h3]
      · have : t / 256 / 32 % 2 = 0 := by omega
        simp [this]
     have e:=and_32 (t:=t / 256) (by omega) (by omega)
     rw [hc]
     clear hs hc h
     go_enter Tryz.func106,Tryz.ntmps106
     go_wp2_with (first | (go_at_call 110;refine (HS.out _).mono ?_;rintro e w' ⟨rfl,rfl⟩) | (go_at_call 120;refine (HW.out _).mono ?_;rintro e w' ⟨rfl,rfl⟩))
     go_ret
     exact ⟨rfl,rfl⟩
   · have hs : ∀ u, Calls Tryz.prog 110 #[.int .i64 t] u fun e w' => e = .returned (.int .i64 1) ∧ w' = u := fun u => by have := zcU t u; rwa [if_neg h] at this
     have HS:=Lib.hid hs
     have hc : zaE t = (t / 32 % 2 * 32 != 0) := by
      unfold zaE zfO;rw [hv,Bool.true_and,if_pos (by omega)]
      by_cases h3:t / 32 % 2=1
      · simp [h3]
      · have : t / 32 % 2 = 0 := by omega
        simp [this]
     have e:=and_32 (t:=t) (by omega) (by omega)
     rw [hc]
     clear hs hc h
     go_enter Tryz.func106,Tryz.ntmps106
     go_wp2_with (first | (go_at_call 110;refine (HS.out _).mono ?_;rintro e w' ⟨rfl,rfl⟩) | (go_at_call 120;refine (HW.out _).mono ?_;rintro e w' ⟨rfl,rfl⟩))
     go_ret
     exact ⟨rfl,rfl⟩
end Go.Proofs.YtnlhbknajdpnbaaGreatDoor
