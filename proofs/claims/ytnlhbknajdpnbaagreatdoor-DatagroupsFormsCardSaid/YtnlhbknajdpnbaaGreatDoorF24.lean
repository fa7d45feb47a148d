/-
  What is proved here: what the program's Parts returns, for every number, where the table of the months lies in memory as the program lays it.
-/
import Derived.Test.YtnlhbknajdpnbaaGreatDoorF6
import Derived.Test.YtnlhbknajdpnbaaGreatDoorF0
import Derived.Test.YtnlhbknajdpnbaaGreatDoorF4
import Derived.Test.YtnlhbknajdpnbaaGreatDoorF12
import Derived.Test.YtnlhbknajdpnbaaGreatDoorF23
import Derived.Test.YtnlhbknajdpnbaaGreatDoorF11
import Derived.Maps.StringElems
import Derived.Maps.OwnOps
set_option linter.unusedVariables false
set_option linter.unusedSimpArgs false
namespace Go.Proofs.YtnlhbknajdpnbaaGreatDoor
open Go.RowKit
def pY (n:Int):Int:=if dayB n=true then Cal.yr n else 0
def pM (n:Int):Int:=if dayB n=true then Cal.mo n else 0
def pD (n:Int):Int:=if dayB n=true then Cal.da n else 0
def pE (n:Int):Int:=if dayB n=true then 0 else 8
theorem p_yes {n:Int} (h:dayB n=true):pY n=Cal.yr n∧pM n=Cal.mo n∧pD n=Cal.da n∧pE n=0:=by simp [pY,pM,pD,pE,h]
theorem p_no {n:Int} (h:dayB n=false):pY n=0∧pM n=0∧pD n=0∧pE n=8:=by simp [pY,pM,pD,pE,h]
theorem p_ok {n : Int} (h : dayB n = true) : 1900 ≤ pY n ∧ pY n ≤ 2099 ∧ 1 ≤ pM n ∧ pM n ≤ 12 ∧ 1 ≤ pD n ∧ pD n ≤ Cal.dim (pY n) (pM n) ∧ Cal.num (pY n) (pM n) (pD n) = n ∧ pE n = 0 := by
 obtain ⟨h1,h2,h3,h4⟩:=p_yes h
 have:=dayB_yes h
 rw [h1,h2,h3,h4]
 have h:=Cal.date_ok n (by omega) (by omega)
 exact ⟨h.1,h.2.1,h.2.2.1,h.2.2.2.1,h.2.2.2.2.1,h.2.2.2.2.2.1,h.2.2.2.2.2.2,rfl⟩
def PEnd (n:Int) (e:Ending):Prop:=e=.returned (.tuple #[.int .i64 (pY n),.int .i64 (pM n),.int .i64 (pD n),.int .i64 (pE n)])
theorem p_end {n y m r : Int} (h : dayB n = true) (a1 : 1900 ≤ y) (a2 : y ≤ 2099) (m1 : 1 ≤ m) (m2 : m ≤ 12) (hr : r = n - Cal.ys y - Cal.cum y m) (r0 : 0 ≤ r) (r1 : r < Cal.dim y m) :
 PEnd n (.returned (.tuple #[.int .i64 y,.int .i64 m,.int .i64 (r+1),.int .i64 0])):=by
 obtain ⟨n1,n2⟩:=dayB_yes h
 obtain ⟨e1,e2,e3⟩:=Cal.date_is (n:=n) (y:=y) (m:=m) (d:=r+1) a1 a2 m1 m2 (by omega) (by omega) (by unfold Cal.num;omega) n1 n2
 obtain ⟨h1,h2,h3,h4⟩:=p_yes h
 unfold PEnd
 rw [h1,h2,h3,h4,←e1,←e2,←e3]
theorem p_bad {n : Int} (h : dayB n = false) : PEnd n (.returned (.tuple #[.int .i64 0, .int .i64 0, .int .i64 0, .int .i64 8])) := by
 obtain ⟨h1,h2,h3,h4⟩:=p_no h
 unfold PEnd
 rw [h1,h2,h3,h4]
end Go.Proofs.YtnlhbknajdpnbaaGreatDoor
namespace Go.Proofs.YtnlhbknajdpnbaaGreatDoor
open Go.RowKit
theorem rd_valid (n : Int) (w : World) : Calls Tryz.prog 98 #[.int .i64 n] w fun e w' => e = .returned (.bool (dayB n)) ∧ w' = w := by
 by_cases h:0≤n
 · have d : decide (0 ≤ n) = true := by simpa using h
   have hv:dayB n=decide (n≤73048):=by unfold dayB;rw [d,Bool.true_and]
   rw [hv];clear h hv
   go_enter Tryz.func98,Tryz.ntmps98
   go_wp2
   go_ret
   exact ⟨rfl,rfl⟩
 · have d : decide (0 ≤ n) = false := by simpa using h
   have hv:dayB n=false:=by unfold dayB;rw [d,Bool.false_and]
   rw [hv];clear h hv
   go_enter Tryz.func98,Tryz.ntmps98
   go_wp2
   go_ret
   exact ⟨rfl,rfl⟩
theorem lpB_ref (y : Int) : lpB y = ((y % 4 == 0) && (y != 1900)) := by
 unfold lpB Cal.lp
 rw [Bool.eq_iff_iff]
 split
 · simp;omega
 · simp;omega
theorem r_leap (y : Int) (w : World) (a : 1900 ≤ y) (b : y ≤ 2099) :
 Calls Tryz.prog 117 #[.int .i64 y] w fun e w'=>e=.returned (.bool (lpB y))∧w'=w:=by
 have hv:=lpB_ref y
 by_cases h4:y % 4=0
 · have d4 : (y % 4 == 0) = true := by simpa using h4
   rw [hv,d4,Bool.true_and]
   clear hv h4
   go_enter Tryz.func117,Tryz.ntmps117
   go_wp2
   go_ret
   exact ⟨rfl,rfl⟩
 · have d4 : (y % 4 == 0) = false := by simpa using h4
   rw [hv,d4,Bool.false_and]
   clear hv h4
   go_enter Tryz.func117,Tryz.ntmps117
   go_wp2
   go_ret
   exact ⟨rfl,rfl⟩
def IsInt (v:Int) (e:Ending):Prop:=e=.returned (.int .i64 v)
theorem dim_30 {y m : Int} (h : m = 4 ∨ m = 6 ∨ m = 9 ∨ m = 11) : IsInt (Cal.dim y m) (.returned (.int .i64 30)) := by
 unfold IsInt Cal.dim;rw [if_neg (by omega),if_pos h]
theorem dim_31 {y m : Int} (h : m ≠ 2) (h2 : ¬ (m = 4 ∨ m = 6 ∨ m = 9 ∨ m = 11)) : IsInt (Cal.dim y m) (.returned (.int .i64 31)) := by
 unfold IsInt Cal.dim;rw [if_neg h,if_neg h2]
theorem dim_29 {y m : Int} (h : m = 2) (h2 : lpB y = true) : IsInt (Cal.dim y m) (.returned (.int .i64 29)) := by
 unfold IsInt Cal.dim;rw [if_pos h];simp [lpB] at h2;rw [h2];rfl
theorem dim_28 {y m : Int} (h : m = 2) (h2 : lpB y = false) : IsInt (Cal.dim y m) (.returned (.int .i64 28)) := by
 have:=Cal.lp_01 y
 unfold IsInt Cal.dim;rw [if_pos h];simp [lpB] at h2;rw [show Cal.lp y=0 by omega];rfl
set_option maxHeartbeats 1000000 in
theorem r_long_ (y m : Int) (w : World) (a : 1900 ≤ y) (b : y ≤ 2099) (m1 : 1 ≤ m) (m2 : m ≤ 12) :
 Calls Tryz.prog 99 #[.int .i64 y,.int .i64 m] w fun e w'=>IsInt (Cal.dim y m) e∧w'=w:=by
 by_cases h3:m=4∨m=6∨m=9∨m=11
 · have H := @dim_30 y m h3
   rcases h3 with rfl | rfl | rfl | rfl <;>
   · go_enter Tryz.func99, Tryz.ntmps99
     go_wp2
     go_ret
     exact ⟨H,rfl⟩
 · have d4 : (m == 4) = false := by simp; omega
   have d6:(m==6)=false:=by simp;omega
   have d9:(m==9)=false:=by simp;omega
   have d11:(m==11)=false:=by simp;omega
   by_cases h2:m=2
   · have d2 : (m == 2) = true := by simp; omega
     by_cases hl:lpB y=true
     · have H := @dim_29 y m h2 hl
       clear h3 h2
       go_enter Tryz.func99,Tryz.ntmps99
       go_wp2_with (go_at_call 117;refine (r_leap _ _ a b).mono ?_;rintro e w' ⟨rfl,rfl⟩)
       go_ret
       exact ⟨H,rfl⟩
     · have hl : lpB y = false := by simpa using hl
       have H:=@dim_28 y m h2 hl
       clear h3 h2
       go_enter Tryz.func99,Tryz.ntmps99
       go_wp2_with (go_at_call 117;refine (r_leap _ _ a b).mono ?_;rintro e w' ⟨rfl,rfl⟩)
       go_ret
       exact ⟨H,rfl⟩
   · have d2 : (m == 2) = false := by simpa using h2
     have H:=@dim_31 y m h2 h3
     clear h3 h2
     go_enter Tryz.func99,Tryz.ntmps99
     go_wp2
     go_ret
     exact ⟨H,rfl⟩
theorem zgJ (y m : Int) (w : World) (a : 1900 ≤ y) (b : y ≤ 2099) (m1 : 1 ≤ m) (m2 : m ≤ 12) :
 Calls Tryz.prog 99 #[.int .i64 y,.int .i64 m] w fun e w'=>e=.returned (.int .i64 (Cal.dim y m))∧w'=w:=r_long_ y m w a b m1 m2
set_option maxHeartbeats 1000000 in
theorem r_of (y m d : Int) (w : World) : Calls Tryz.prog 116 #[.int .i64 y, .int .i64 m, .int .i64 d] w fun e w' => e = .returned (.tuple #[.int .i64 (ofV y m d), .int .i64 (ofE y m d)]) ∧ w' = w := by
 by_cases hB:zfc y m d=true
 · obtain ⟨v1, v2⟩ := of_yes hB
   rw [v1,v2];clear v1 v2
   obtain ⟨h1,h2,h3,h4,h5,h6⟩:=dateB_yes hB
   have db:=Cal.dim_bd y m
   have c1:=Lib.hid (Cal.cum_one y)
   have f1:=Lib.hid Cal.ys_first
   go_enter Tryz.func116,Tryz.ntmps116
   go_wp2_with (go_at_call 99;refine (zgJ _ _ _ h1 h2 h3 h4).mono ?_;rintro e w' ⟨rfl,rfl⟩)
   go_loop [8,9] (fun t i=>∃z:Int,1900≤z∧z≤y∧i=.int .i64 z∧t=.int .i64 (Cal.ys z+d - 1)) (fun _ i=>(y - intOf i).toNat)
   case atStart=>exact ⟨1900,by omega,by omega,rfl,by rw [f1.out];go_num⟩
   case round =>
    obtain ⟨z,z1,z2,rfl,rfl⟩:=hrel
    have zb:=Cal.ys_bd z z1 (by omega)
    by_cases hlt:z < y
    · have zs := Lib.hid (Cal.ys_succ z z1 (by omega))
      have zl:=Cal.lp_01 z
      by_cases hl:lpB z=true
      · have hl1 : Cal.lp z = 1 := by simpa [lpB] using hl
        have HL:=Lib.hid hl1
        clear hl1
        go_wp2_with (go_at_call 117;refine (r_leap _ _ z1 (by omega)).mono ?_;rintro e w' ⟨rfl,rfl⟩)
        go_round
        case rel=>exact ⟨z+1,by omega,by omega,rfl,by rw [zs.out,HL.out];go_num⟩
        case measure=>simp [intOf];omega
      · have hl : lpB z = false := by simpa using hl
        have hl1:Cal.lp z=0:=by simp [lpB] at hl;omega
        have HL:=Lib.hid hl1
        clear hl1
        go_wp2_with (go_at_call 117;refine (r_leap _ _ z1 (by omega)).mono ?_;rintro e w' ⟨rfl,rfl⟩)
        go_round
        case rel=>exact ⟨z+1,by omega,by omega,rfl,by rw [zs.out,HL.out];go_num⟩
        case measure=>simp [intOf];omega
    · obtain rfl : z = y := by omega
      go_wp2
      go_loop [8,10] (fun t i=>∃k:Int,1≤k∧k≤m∧i=.int .i64 k∧t=.int .i64 (Cal.ys z+d - 1+Cal.cum z k)) (fun _ i=>(m - intOf i).toNat)
      case atStart=>exact ⟨1,by omega,by omega,rfl,by rw [c1.out];go_num⟩
      case round =>
       obtain ⟨k,k1,k2,rfl,rfl⟩:=hrel
       have cb:=Cal.cum_bd z k k1 (by omega)
       have dk:=Cal.dim_bd z k
       have cs:=Lib.hid (Cal.cum_succ z k k1 (by omega))
       by_cases hlt:k < m
       · go_wp2_with (go_at_call 99; refine (zgJ _ _ _ h1 h2 k1 (by omega)).mono ?_; rintro e w' ⟨rfl, rfl⟩)
         go_round
         case rel=>exact ⟨k+1,by omega,by omega,rfl,by rw [cs.out];go_num⟩
         case measure=>simp [intOf];omega
       · obtain rfl : k = m := by omega
         go_wp2
         go_ret2
         exact ⟨ret2_int (by unfold Cal.num;omega) rfl,rfl⟩
 · have hB : zfc y m d = false := by simpa using hB
   obtain ⟨v1,v2⟩:=of_no hB
   rw [v1,v2];clear v1 v2
   have hn:¬(1900≤y∧y≤2099∧1≤m∧m≤12∧1≤d∧d≤Cal.dim y m):=by simpa [zfc] using hB
   by_cases h1:y < 1900
   · have d1 : decide (y < 1900) = true := by simpa using h1
     clear hn h1
     go_enter Tryz.func116,Tryz.ntmps116
     go_wp2
     go_ret2
     exact ⟨rfl,rfl⟩
   · have d1 : decide (y < 1900) = false := by simpa using h1
     by_cases h2:2099 < y
     · have d2 : decide (2099 < y) = true := by simpa using h2
       clear hn h1 h2
       go_enter Tryz.func116,Tryz.ntmps116
       go_wp2
       go_ret2
       exact ⟨rfl,rfl⟩
     · have d2 : decide (2099 < y) = false := by simpa using h2
       by_cases h3:m < 1
       · have d3 : decide (m < 1) = true := by simpa using h3
         clear hn h1 h2
         go_enter Tryz.func116,Tryz.ntmps116
         go_wp2
         go_ret2
         exact ⟨rfl,rfl⟩
       · have d3 : decide (m < 1) = false := by simpa using h3
         by_cases h4:12 < m
         · have d4 : decide (12 < m) = true := by simpa using h4
           clear hn h1 h2 h3
           go_enter Tryz.func116,Tryz.ntmps116
           go_wp2
           go_ret2
           exact ⟨rfl,rfl⟩
         · have d4 : decide (12 < m) = false := by simpa using h4
           by_cases h5:d < 1
           · have d5 : decide (d < 1) = true := by simpa using h5
             clear hn h1 h2 h3 h4
             go_enter Tryz.func116,Tryz.ntmps116
             go_wp2
             go_ret2
             exact ⟨rfl,rfl⟩
           · have d5 : decide (d < 1) = false := by simpa using h5
             have h6:Cal.dim y m < d:=by omega
             have q1:1900≤y:=by omega
             have q2:y≤2099:=by omega
             have q3:1≤m:=by omega
             have q4:m≤12:=by omega
             clear hn h1 h2 h3 h4 h5
             go_enter Tryz.func116,Tryz.ntmps116
             go_wp2_with (go_at_call 99;refine (zgJ _ _ _ q1 q2 q3 q4).mono ?_;rintro e w' ⟨rfl,rfl⟩)
             go_ret2
             exact ⟨rfl,rfl⟩
set_option maxHeartbeats 2000000 in
theorem r_parts (n : Int) (w : World) : Calls Tryz.prog 73 #[.int .i64 n] w fun e w' => PEnd n e ∧ w' = w := by
 by_cases hB:dayB n=true
 · obtain ⟨n1, n2⟩ := dayB_yes hB
   have c1:=Lib.hid (Cal.cum_one 1900)
   have f1:=Lib.hid Cal.ys_first
   go_enter Tryz.func73,Tryz.ntmps73
   go_wp2_with (go_at_call 98;refine (rd_valid n w).mono ?_;rintro e w' ⟨rfl,rfl⟩)
   go_loop [0,6,7] (fun r y m=>∃z k:Int,1900≤z∧z≤2099∧1≤k∧k≤12∧y=.int .i64 z∧m=.int .i64 k∧0≤n - Cal.ys z - Cal.cum z k∧r=.int .i64 (n - Cal.ys z - Cal.cum z k)) (fun r _ _=>(intOf r).toNat)
   case atStart=>exact ⟨1900,1,by omega,by omega,by omega,by omega,rfl,rfl,by rw [c1.out,f1.out];omega,by rw [c1.out,f1.out];go_num⟩
   case round =>
    obtain ⟨z,k,z1,z2,k1,k2,rfl,rfl,r0,rfl⟩:=hrel
    have zb:=Cal.ys_bd z z1 (by omega)
    have cb:=Cal.cum_bd z k k1 k2
    have db:=Cal.dim_bd z k
    have cs:=Lib.hid (Cal.cum_succ z k k1 k2)
    have ce:=Lib.hid (Cal.cum_end z)
    have zs:=Lib.hid (Cal.ys_succ z z1 z2)
    by_cases hlt:n - Cal.ys z - Cal.cum z k < Cal.dim z k
    · go_wp2_with (go_at_call 99; refine (zgJ _ _ _ z1 z2 k1 k2).mono ?_; rintro e w' ⟨rfl, rfl⟩)
      exact bodyPost_ret (v:=.tuple #[.int .i64 z,.int .i64 k,.int .i64 (n - Cal.ys z - Cal.cum z k+1),.int .i64 0]) (by simp [results,Tryz.results73,go_sem]) rfl ⟨p_end hB z1 z2 k1 k2 rfl r0 hlt,rfl⟩
    · by_cases hk : k < 12
      · go_wp2_with (go_at_call 99; refine (zgJ _ _ _ z1 z2 k1 k2).mono ?_; rintro e w' ⟨rfl, rfl⟩)
        go_round
        case rel=>exact ⟨z,k+1,z1,z2,by omega,by omega,rfl,rfl,by rw [cs.out];omega,by rw [cs.out];go_num⟩
        case measure=>simp [intOf];omega
      · obtain rfl : k = 12 := by omega
        have t1 : Cal.ys (z + 1) = Cal.ys z + Cal.cum z 12 + Cal.dim z 12 := by
         have a:=cs.out
         have b:=ce.out
         have c:=zs.out
         rw [show (12:Int)+1=13 from rfl] at a
         omega
        have z3 : z < 2099 := by
         have h:=Cal.ys_end
         by_cases e:z=2099
         · subst e;rw [show (2099:Int)+1=2100 from rfl] at t1;omega
         · omega
        have T1:=Lib.hid t1
        have T2:=Lib.hid (Cal.cum_one (z+1))
        clear t1
        go_wp2_with (go_at_call 99;refine (zgJ _ _ _ z1 z2 k1 k2).mono ?_;rintro e w' ⟨rfl,rfl⟩)
        go_round
        case rel=>exact ⟨z+1,1,by omega,by omega,by omega,by omega,rfl,rfl,by rw [T1.out,T2.out];omega,by rw [T1.out,T2.out];go_num⟩
        case measure=>simp [intOf];omega
 · have hB : dayB n = false := by simpa using hB
   go_enter Tryz.func73,Tryz.ntmps73
   go_wp2_with (go_at_call 98;refine (rd_valid n w).mono ?_;rintro e w' ⟨rfl,rfl⟩)
   exact bodyPost_ret (v:=.tuple #[.int .i64 0,.int .i64 0,.int .i64 0,.int .i64 8]) (by simp [results,Tryz.results73,go_sem]) rfl ⟨p_bad hB,rfl⟩
end Go.Proofs.YtnlhbknajdpnbaaGreatDoor
namespace Go.Proofs.YtnlhbknajdpnbaaGreatDoor
open Go.RowKit
def dgt (n:Int):UInt8:=UInt8.ofNat (48+n.toNat)
def zdW (n:Int):List UInt8:=[dgt (n / 10),dgt (n % 10)]
theorem zdT {n:Int} (a:0≤n) (b:n≤9):((dgt n).toNat:Int)=48+n:=by unfold dgt;rw [UInt8.toNat_ofNat'];omega
theorem dgt_U {n:Int} (a:0≤n) (b:n≤9):Value.int .u8 (48+n)=U (dgt n):=by unfold U;rw [zdT a b]
theorem pairL_Us {n : Int} (a : 0 ≤ n) (b : n ≤ 99) : Us (zdW n) = [Value.int .u8 (48 + n / 10), Value.int .u8 (48 + n % 10)] := by
 rw [dgt_U (n:=n / 10) (by omega) (by omega),dgt_U (n:=n % 10) (by omega) (by omega)];rfl
def fL (n:Int):List UInt8:=if dayB n=true then zdW (Cal.yr n % 100)++zdW (Cal.mo n)++zdW (Cal.da n) else []
theorem fL_yes {n : Int} (h : dayB n = true) : fL n = zdW (pY n % 100) ++ zdW (pM n) ++ zdW (pD n) := by
 obtain ⟨h1,h2,h3,h4⟩:=p_yes h
 unfold fL;rw [if_pos h,h1,h2,h3]
theorem fL_no {n:Int} (h:dayB n=false):fL n=[]:=by simp [fL,h]
theorem S_nil:S []={ data:=#[] }:=by simp [S]
theorem Sd_append (x y:List UInt8):S (x++y)=S x++S y:=by apply ByteArray.ext;simp [S,ByteArray.data_append]
def FEnd (n:Int) (w:World) (e:Ending) (w':World):Prop:=e=.returned (.tuple #[.string (S (fL n)),.int .i64 (pE n)])∧Below w.heap.size w w'
theorem f_bad {n : Int} (h : dayB n = false) (w : World) : FEnd n w (.returned (.tuple #[.string { data := #[] }, .int .i64 8])) w := by
 refine ⟨?_,Below.refl _ _⟩
 rw [fL_no h,S_nil,(p_no h).2.2.2]
theorem r_two (n : Int) (a : 0 ≤ n) (b : n ≤ 99) (w : World) : Calls Tryz.prog 74 #[.int .i64 n] w fun e w' => e = .returned (.string (S (zdW n))) ∧ Below w.heap.size w w' := by
 have hs : Sees (w.alloc (.cells #[Value.int .u8 (48 + n / 10), Value.int .u8 (48 + n % 10)] 5)) (w.heap.size + 1) (some ⟨w.heap.size, 0, none⟩) (Us (zdW n)) := by
  rw [pairL_Us a b]
  refine .inr ⟨w.heap.size,0,rfl,by omega,fun j hj=>?_⟩
  rw [Nat.zero_add,cell_of_row _ _ j _ 5 (0,0) (heap_alloc_new w _)]
  simp
 have hc:=zcD _ _ _ _ hs 2 2 rfl
 clear hs
 go_enter Tryz.func74,Tryz.ntmps74
 go_wp2
 go_ret
 exact ⟨rfl,(Below.refl _ _).alloc (Nat.le_refl _) _⟩
set_option maxHeartbeats 1000000 in
theorem r_format (n : Int) (w : World) : Calls Tryz.prog 43 #[.int .i64 n] w (FEnd n w) := by
 by_cases hB:dayB n=true
 · obtain ⟨y1, y2, m1, m2, d1, d2, _, e0⟩ := p_ok hB
   have e0:=Lib.hid e0
   have FL:=Lib.hid (fL_yes hB)
   have db:=Cal.dim_bd (pY n) (pM n)
   have d3:pD n≤99:=by omega
   have s1:(S (zdW (pY n % 100))).size=2:=by rw [zao];rfl
   have s2:(S (zdW (pM n))).size=2:=by rw [zao];rfl
   have s3:(S (zdW (pD n))).size=2:=by rw [zao];rfl
   clear d2 db hB
   go_enter Tryz.func43,Tryz.ntmps43
   go_wp2_with fail
   refine (r_parts n w).mono ?_
   rintro e w' ⟨he,rfl⟩
   unfold PEnd at he
   rw [e0.out] at he
   subst he
   go_wp2_with fail
   refine (r_two (pY n % 100) (by omega) (by omega) w').mono ?_
   rintro e w1 ⟨rfl,b1⟩
   have B1:=Lib.hid b1
   clear b1
   go_wp2_with fail
   refine (r_two (pM n) (by omega) (by omega) w1).mono ?_
   rintro e w2 ⟨rfl,b2⟩
   have B2:=Lib.hid (zaf B1.out b2)
   clear b2
   go_wp2_with fail
   refine (r_two (pD n) (by omega) (by omega) w2).mono ?_
   rintro e w3 ⟨rfl,b3⟩
   have B3:=Lib.hid (zaf B2.out b3)
   clear b3
   go_wp2
   go_ret2
   exact ⟨by rw [e0.out,FL.out,Sd_append,Sd_append];rfl,B3.out⟩
 · have hB : dayB n = false := by simpa using hB
   have e0:=Lib.hid (p_no hB)
   have H:=f_bad hB w
   go_enter Tryz.func43,Tryz.ntmps43
   go_wp2_with fail
   refine (r_parts n w).mono ?_
   rintro e w' ⟨he,rfl⟩
   unfold PEnd at he
   rw [e0.out.1,e0.out.2.1,e0.out.2.2.1,e0.out.2.2.2] at he
   subst he
   go_wp2
   go_ret2
   exact H
end Go.Proofs.YtnlhbknajdpnbaaGreatDoor
namespace Go.Proofs.YtnlhbknajdpnbaaGreatDoor
open Go.RowKit
def ch (s:ByteArray) (k:Nat):Nat:=(s.data.toList.getD k 0).toNat
def dig (s:ByteArray) (k:Nat):Bool:=decide (48≤ch s k) && decide (ch s k≤57)
def pr (s:ByteArray) (k j:Nat):Int:=if k≤2*j then 0 else if k=2*j+1 then (ch s (2*j):Int) - 48 else ((ch s (2*j):Int) - 48)*10+((ch s (2*j+1):Int) - 48)
theorem ch_at (s : ByteArray) (k : Nat) (h : k < s.size) : ch s k = s[k].toNat := by
 unfold ch
 have hk:k < s.data.toList.length:=by simpa using h
 rw [List.getD,List.getElem?_eq_getElem hk];rfl
theorem ch_lt (s:ByteArray) (k:Nat):ch s k < 256:=UInt8.toNat_lt _
def allDig (s:ByteArray) (k:Nat):Prop:=∀q,q < k→dig s q=true
theorem zfo {s : ByteArray} {k : Nat} (h : allDig s k) (g : dig s k = true) : allDig s (k + 1) := by
 intro q hq
 by_cases e:q=k
 · subst e;exact g
 · exact h q (by omega)
theorem dig_bd {s:ByteArray} {k:Nat} (h:dig s k=true):48≤ch s k∧ch s k≤57:=by simpa [dig] using h
def Prs (s:ByteArray) (k g:Nat) (wr:World):Prop:=wr.heap[g]? = some (.cells #[.int .i64 (pr s k 0),.int .i64 (pr s k 1),.int .i64 (pr s k 2)] 135 (0,0))
theorem Prs.zero (s : ByteArray) {g : Nat} {wr : World} (h : wr.heap[g]? = some (.cells #[.int .i64 0, .int .i64 0, .int .i64 0] 135 (0, 0))) : Prs s 0 g wr := by
 unfold Prs;simpa [pr] using h
theorem Prs.step {s : ByteArray} {k g j : Nat} {wr : World} {v : Int} (h : Prs s k g wr) (hk : k < 6) (hj : j = k / 2) (hv : v = pr s (k + 1) j) : Prs s (k + 1) g (wr.setCell ⟨g, j, none⟩ (.int .i64 v)) := by
 subst hv hj
 have e:=zai h (i:=k / 2) (.int .i64 (pr s (k+1) (k / 2)))
 unfold Prs
 rw [e]
 have hk':k=0∨k=1∨k=2∨k=3∨k=4∨k=5:=by omega
 rcases hk' with rfl | rfl | rfl | rfl | rfl | rfl <;> simp [pr]
theorem Prs.drewN {s:ByteArray} {k g:Nat} {wr:World} (h:Prs s k g wr) (n:Nat):Prs s k g (wr.drewN n):=h
def RpRel (s : ByteArray) (w : World) (k : Nat) (wr : World) : Prop :=
 Below w.heap.size w wr∧wr.heap[w.heap.size]? = some (.cells #[.int .i64 0,.int .i64 0,.int .i64 0] 135 (0,0))∧Prs s k (w.heap.size+1) wr∧allDig s k
theorem RpRel.step {s : ByteArray} {w wr : World} {k j n : Nat} {v : Int} (h : RpRel s w k wr) (hk : k < 6) (hj : j = k / 2) (hv : v = pr s (k + 1) j) (hd : dig s k = true) : RpRel s w (k + 1) ((wr.drewN n).setCell ⟨w.heap.size + 1, j, none⟩ (.int .i64 v)) := by
 obtain ⟨hb,h0,h1,h2⟩:=h
 exact ⟨(zbq hb n).setCell (by simp) _,zfp (a:=⟨w.heap.size+1,j,none⟩) h0 (by simp) _,(h1.drewN n).step hk hj hv,zfo h2 hd⟩
def rpOk (s:ByteArray):Bool:=decide (s.size=6) && (List.range 6).all (dig s)
theorem rpOk_yes {s : ByteArray} (h : s.size = 6) (g : allDig s 6) : rpOk s = true := by
 unfold rpOk
 rw [Bool.and_eq_true]
 exact ⟨by simpa using h,by rw [List.all_eq_true];intro q hq;exact g q (List.mem_range.1 hq)⟩
theorem rpOk_no {s : ByteArray} {k : Nat} (hk : k < 6) (g : dig s k = false) : rpOk s = false := by
 unfold rpOk
 rw [Bool.and_eq_false_iff]
 right
 rw [List.all_eq_false]
 exact ⟨k,List.mem_range.2 hk,by simp [g]⟩
theorem rpOk_size {s : ByteArray} (h : s.size ≠ 6) : rpOk s = false := by
 unfold rpOk;simp [h]
theorem RpRel.start (s : ByteArray) (w : World) : RpRel s w 0 ((w.alloc (.cells #[.int .i64 0, .int .i64 0, .int .i64 0] 135)).alloc (.cells #[.int .i64 0, .int .i64 0, .int .i64 0] 135)) :=
 ⟨((Below.refl _ _).alloc (Nat.le_refl _) _).alloc (by simp) _,zaw (heap_alloc_new w _) _,Prs.zero s (zdz w _ _),fun q h=>by omega⟩
end Go.Proofs.YtnlhbknajdpnbaaGreatDoor
namespace Go.Proofs.YtnlhbknajdpnbaaGreatDoor
open Go.RowKit
def fy (p f:Int):Int:=if f - f % 100+p < f then f - f % 100+p+100 else f - f % 100+p
theorem pr_bd {s : ByteArray} (h : rpOk s = true) (j : Nat) (hj : j < 3) : 0 ≤ pr s 6 j ∧ pr s 6 j ≤ 99 := by
 unfold rpOk at h
 rw [Bool.and_eq_true,List.all_eq_true] at h
 have d1:=dig_bd (h.2 (2*j) (List.mem_range.2 (by omega)))
 have d2:=dig_bd (h.2 (2*j+1) (List.mem_range.2 (by omega)))
 unfold pr
 rw [if_neg (by omega),if_neg (by omega)]
 omega
def psV (s:ByteArray) (f:Int):Int:=if (1900≤f∧f≤2000)∧rpOk s=true then ofV (fy (pr s 6 0) f) (pr s 6 1) (pr s 6 2) else 0
def psE (s:ByteArray) (f:Int):Int:=if 1900≤f∧f≤2000 then (if rpOk s=true then ofE (fy (pr s 6 0) f) (pr s 6 1) (pr s 6 2) else 1) else 3
def zeH (s:ByteArray) (f:Int) (w:World) (e:Ending) (w':World):Prop:=e=.returned (.tuple #[.int .i64 (psV s f),.int .i64 (psE s f)])∧Below w.heap.size w w'
theorem ps_range {s : ByteArray} {f : Int} {w w' : World} (h : f < 1900 ∨ 2000 < f) (hb : Below w.heap.size w w') : zeH s f w (.returned (.tuple #[.int .i64 0, .int .i64 3])) w' := by
 have e1:psV s f=0:=by unfold psV;rw [if_neg (fun g=>by omega)]
 have e2:psE s f=3:=by unfold psE;rw [if_neg (by omega)]
 unfold zeH;rw [e1,e2];exact ⟨rfl,hb⟩
theorem ps_form {s : ByteArray} {f : Int} {w w' : World} (f1 : 1900 ≤ f) (f2 : f ≤ 2000) (h : rpOk s = false) (hb : Below w.heap.size w w') : zeH s f w (.returned (.tuple #[.int .i64 0, .int .i64 1])) w' := by
 have e1:psV s f=0:=by unfold psV;rw [if_neg (fun g=>by rw [h] at g;exact absurd g.2 (by decide))]
 have e2:psE s f=1:=by unfold psE;rw [if_pos ⟨f1,f2⟩,if_neg (by rw [h];decide)]
 unfold zeH;rw [e1,e2];exact ⟨rfl,hb⟩
theorem ps_ok {s : ByteArray} {f : Int} {w w' : World} (f1 : 1900 ≤ f) (f2 : f ≤ 2000) (h : rpOk s = true) (hb : Below w.heap.size w w') :
 zeH s f w (.returned (.tuple #[.int .i64 (ofV (fy (pr s 6 0) f) (pr s 6 1) (pr s 6 2)),.int .i64 (ofE (fy (pr s 6 0) f) (pr s 6 1) (pr s 6 2))])) w':=by
 have e1:psV s f=ofV (fy (pr s 6 0) f) (pr s 6 1) (pr s 6 2):=by unfold psV;rw [if_pos ⟨⟨f1,f2⟩,h⟩]
 have e2:psE s f=ofE (fy (pr s 6 0) f) (pr s 6 1) (pr s 6 2):=by unfold psE;rw [if_pos ⟨f1,f2⟩,if_pos h]
 unfold zeH;rw [e1,e2];exact ⟨rfl,hb⟩
end Go.Proofs.YtnlhbknajdpnbaaGreatDoor
namespace Go.Proofs.YtnlhbknajdpnbaaGreatDoor
open Go.RowKit
def zfl (x:List UInt8):Bool:=decide (∀i,i < x.length→ltrB (cB x i)=true)
def zbw (x:List UInt8) (n:Nat):Bool:=decide (1≤x.length∧x.length≤n) && zfl x
def noFill (x:List UInt8):Bool:=decide (∀i,i < x.length→cB x i≠60)
def zbL (x:List UInt8):Bool:=noFill x && zaC x
def zcA (x : List UInt8) (i : Nat) : Int :=
 if cB x i=60∧cB x (i+1)=60 then -1 else if cB x i < 48∨57 < cB x i∨cB x (i+1) < 48∨57 < cB x (i+1) then -2 else 10*(cB x i - 48)+(cB x (i+1) - 48)
def zbO (x : List UInt8) : Bool :=
 decide (x.length=6) && (decide (-2 < zcA x 0) && (decide (zcA x 2=-1∨(1≤zcA x 2∧zcA x 2≤12)) && decide (zcA x 4=-1∨(1≤zcA x 4∧zcA x 4≤31))))
def sexB (x:List UInt8):Bool:=decide (x=[77]∨x=[70]∨x=[60])
def expB (x:List UInt8):Bool:=decide (psE (S x) 2000=0)
def zaN (x:List UInt8):Bool:=zaC x && decide (x=[]∨(cB x 0≠60∧cB x (x.length - 1)≠60))
def zdo (z:Zn):Nat:=z.op.length+if 9 < z.nu.length then z.nu.length - 7 else 0
def vE1 (z:Zn):Bool:=decide (1≤z.fm∧z.fm≤3) && (zbw z.kd 2 && (zbw z.st 3 && (zaO z.su && (decide (z.su≠[]) && (zaO z.gi && (decide (z.nu≠[]) && zbL z.nu))))))
def zaY (z : Zn) : Int :=
 if vE1 z=false then 14 else if maxN z.fm < z.nu.length then 2 else if zbw z.na 3=false then 14 else if zbO z.bi=false then 8 else if sexB z.sx=false then 14 else if expB z.ex=false then 8
 else if zaN z.op=false∨zaN z.se=false∨(z.se≠[]∧z.fm≠1) then 14 else if optN z.fm < zdo z∨11 < z.se.length then 2 else 0
def restT (z:Zn):List UInt8:=if 9 < z.nu.length then z.nu.drop 9++dgL z.nu++[60]++z.op else z.op
def tx (z : Zn) (k : Nat) : List UInt8 :=
 if k=0 then z.kd else if k=1 then z.st else if k=2 then zbk z.su z.gi (namN z.fm) else if k=3 then z.nu.take 9 else if k=4 then (if 9 < z.nu.length then [60] else dgL z.nu)
 else if k=5 then z.na else if k=6 then z.bi else if k=7 then dgL z.bi else if k=8 then z.sx else if k=9 then z.ex else if k=10 then dgL z.ex
 else if k=11 then restT z else if k=12 then (if z.op=[] then [] else dgL z.op) else if k=13 then z.se else []
def tx2 (z:Zn) (k:Nat):List UInt8:=if k=14 then dgL (cmpT z.fm (zdh z.fm (tx z))) else tx z k
def zgD (z:Zn):List (List UInt8):=zdh z.fm (tx2 z)
def zbb (z:Zn):List (List UInt8):=if zaY z=0 then zgD z else []
def zek (x:List UInt8):List UInt8:=zaX x 9
def kf (x:List UInt8):Nat:=(x.takeWhile (fun b=>b≠60)).length
end Go.Proofs.YtnlhbknajdpnbaaGreatDoor
namespace Go.Proofs.YtnlhbknajdpnbaaGreatDoor
open Go.RowKit
theorem zdL (x:List UInt8):(S (dgL x)).size≤1:=by rw [zao];unfold dgL;split <;> simp
def dvC (x y:List UInt8):List UInt8:=if 9 < x.length then x.drop 9++dgL x++[60]++y else y
end Go.Proofs.YtnlhbknajdpnbaaGreatDoor
namespace Go.Proofs.YtnlhbknajdpnbaaGreatDoor
open Go.RowKit
def strV (ls:List (List UInt8)):List Value:=ls.map fun x=>Value.string (S x)
def Strs (w:World) (A:Option Addr) (ls:List (List UInt8)):Prop:=Sees w w.heap.size A (strV ls)
theorem strV_len (ls:List (List UInt8)):(strV ls).length=ls.length:=by simp [strV]
theorem Strs.on {w w':World} {A:Option Addr} {ls:List (List UInt8)} (h:Strs w A ls) (hb:Below w.heap.size w w'):Strs w' A ls:=Sees.on h hb
theorem Strs.cell {w : World} {A : Option Addr} {ls : List (List UInt8)} (h : Strs w A ls) (h0 : 0 < ls.length) : ∃ b o, A = some ⟨b, o, none⟩ ∧ b < w.heap.size ∧ ∀ j, j < ls.length → w.cell? ⟨b, o + j, none⟩ = some (.string (S (ls.getD j []))) := by
 obtain ⟨b,o,e,hb,hc⟩:=Sees.at_ (k:=0) h (by rw [strV_len];exact h0)
 refine ⟨b,o,e,hb,fun j hj=>?_⟩
 rw [hc j (by rw [strV_len];exact hj)]
 unfold strV
 rw [List.getElem?_map,List.getElem?_eq_getElem hj,List.getD_eq_getElem?_getD,List.getElem?_eq_getElem hj]
 rfl
def LinesOf (f:Int) (ls:List (List UInt8)):Prop:=ls.length=cntN f∧∀j,j < cntN f→(ls.getD j []).length=widN f
theorem Own.pre {w cur : World} {L M : List (Nat × List Value)} (h : Own w cur (L ++ M)) : Own w cur L :=
 ⟨h.1,fun i g vs e=>h.2.1 i g vs (by rw [List.getElem?_append_left (List.getElem?_eq_some_iff.1 e).1];exact e),fun i j g g' vs vs' e1 e2 hne=>h.2.2 i j g g' vs vs' (by rw [List.getElem?_append_left (List.getElem?_eq_some_iff.1 e1).1];exact e1) (by rw [List.getElem?_append_left (List.getElem?_eq_some_iff.1 e2).1];exact e2) hne⟩
end Go.Proofs.YtnlhbknajdpnbaaGreatDoor
namespace Go.Proofs.YtnlhbknajdpnbaaGreatDoor
open Go.RowKit Go.Maps
abbrev iT:TypeId:=3
abbrev sT:TypeId:=9
def kL (k:Nat):Lit:=.int .i64 (k:Int)
def tL (x:List UInt8):DataW Unit:=.lit (.string x)
def MapIs (w : World) (b n : Nat) (T : Nat → List UInt8) : Prop :=
 ∃D:DataW Unit,w.ownsMap Tryz.prog iT (plainElem Tryz.prog sT) b n D∧(∀k:Nat,k < 15→D.atKey (kL k) (tL [])=tL (T k))∧∀kl,has D kl=true→∃k:Nat,k < 15∧kl=kL k
def updT (T:Nat→List UInt8) (k:Nat) (x:List UInt8):Nat→List UInt8:=fun j=>if j=k then x else T j
section
variable {w w':World} {b n:Nat} {T:Nat→List UInt8}
theorem MapIs.lt (h:MapIs w b n T):b < w.heap.size:=by obtain ⟨D,h,_⟩:=h;exact h.lt
theorem MapIs.kept {row : Option Nat} (h : MapIs w b n T) (hg : w.grownBy w' row) (hne : some b ≠ row) : MapIs w' b n T := by
 obtain ⟨D,h,r⟩:=h;exact ⟨D,h.kept hg hne,r⟩
theorem MapIs.on (h:MapIs w b n T) (hb:Below w.heap.size w w'):MapIs w' b n T:=h.kept (row:=none) (zaD hb) (by simp)
theorem MapIs.made (w : World) : MapIs (w.alloc (.map #[] 0)) w.heap.size 0 (fun _ => []) :=
 ⟨.map [],World.ownsMap_made _ _ _ _,fun k hk=>rfl,fun kl h=>by cases h⟩
def RangeIs (w : World) (b r n : Nat) (T : Nat → List UInt8) (lf : Nat → Bool) (cnt : Nat) : Prop :=
 ∃(D:DataW Unit) (left:Lit→Bool),w.ranges Tryz.prog iT (plainElem Tryz.prog sT) b r n D left cnt∧(∀k:Nat,k < 15→D.atKey (kL k) (tL [])=tL (T k))∧(∀kl,left kl=true→∃k:Nat,k < 15∧kl=kL k)∧∀k:Nat,k < 15→lf k=left (kL k)
theorem RangeIs.map {r cnt : Nat} {lf : Nat → Bool} (h : RangeIs w b r n T lf cnt) (hD : True) : b < w.heap.size ∧ r < w.heap.size ∧ r ≠ b := by
 obtain ⟨D,left,h,_⟩:=h;exact ⟨h.owns.lt,h.lt,h.ne⟩
theorem RangeIs.kept {r cnt : Nat} {lf : Nat → Bool} {row : Option Nat} (h : RangeIs w b r n T lf cnt) (hg : w.grownBy w' row) (hb : some b ≠ row) (hr : some r ≠ row) : RangeIs w' b r n T lf cnt := by
 obtain ⟨D,left,h,x⟩:=h;exact ⟨D,left,h.kept hg hb hr,x⟩
theorem RangeIs.on {r cnt:Nat} {lf:Nat→Bool} (h:RangeIs w b r n T lf cnt) (hb:Below w.heap.size w w'):RangeIs w' b r n T lf cnt:=h.kept (row:=none) (zaD hb) (by simp) (by simp)
end
section
variable {w:World} {ops:Array Oper} {rest:List Oper} {o:Oper} {a:Act} {Q:Exit→Act→World→Prop}
end
end Go.Proofs.YtnlhbknajdpnbaaGreatDoor
