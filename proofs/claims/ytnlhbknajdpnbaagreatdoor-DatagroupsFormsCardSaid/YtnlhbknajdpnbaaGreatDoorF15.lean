/-
  What is proved here: what the plain functions of the group return, of the program and of the reference: isResidue, isSecret, product, power; residue, Secret, Pow, Near; for all numbers in their ranges.
-/
import Derived.Test.YtnlhbknajdpnbaaGreatDoorRows
import Derived.Test.YtnlhbknajdpnbaaGreatDoorF0
import Derived.Test.YtnlhbknajdpnbaaGreatDoorF14
import Derived.Test.YtnlhbknajdpnbaaGreatDoorF2
import Derived.Test.YtnlhbknajdpnbaaGreatDoorF6
import Derived.Test.YtnlhbknajdpnbaaGreatDoorF9
import Derived.Test.YtnlhbknajdpnbaaGreatDoorF8
import Derived.Test.YtnlhbknajdpnbaaGreatDoorF12
import Derived.Test.YtnlhbknajdpnbaaGreatDoorF11
import Derived.BigQuiet
import Derived.Lib.Strings
import Derived.Lib.Slices
import Derived.Lib.Small
import Derived.Lib.Walk
import Derived.Lib.BitFns
import Derived.Deep.RegionWith
import Derived.Laws.ResultCell
import Derived.Laws.Rows
import Derived.ProofKit
import Derived.OpenShut
import Derived.ShutString
import Derived.ChangeOld
import Derived.SizedLaws
import Derived.Deep.CutRange
import Derived.Laws.AppendOwnNone
import Derived.Deep.RegionLaw
import Derived.Deep.AppendLies
import Derived.Lib.AppendZerosOnto
import Derived.Deep.DeepMust
set_option linter.unusedVariables false
set_option linter.unusedSimpArgs false
namespace Go.Proofs.YtnlhbknajdpnbaaGreatDoor
open Go.RowKit
set_option maxRecDepth 8000
def pwN (x k:Nat):Nat:=x ^ k % gP
def pwZ (x k:Int):Int:=((pwN x.toNat k.toNat:Nat):Int)
def muN (a b:Nat):Nat:=a*b % gP
def resB (x:Int):Bool:=decide (1≤x) && decide (x < 2147483579)
theorem resB_yes {x:Int} (h:resB x=true):1≤x∧x < 2147483579:=by simpa [resB] using h
theorem resB_mk {x:Int} (a:1≤x) (b:x < 2147483579):resB x=true:=by simp [resB,a,b]
theorem muN_lt (a b:Nat):muN a b < 2147483579:=Nat.mod_lt _ (by decide)
theorem mul_bd {a b : Nat} (ha : a < 2147483579) (hb : b < 2147483579) : a * b < 4611686018427387904 :=
 Nat.lt_of_le_of_lt (Nat.mul_le_mul (Nat.le_of_lt_succ (Nat.lt_succ_of_lt ha)) (Nat.le_of_lt_succ (Nat.lt_succ_of_lt hb))) (by decide)
theorem mu_val (a b : Nat) (ha : a < 2147483579) (hb : b < 2147483579) : (wrap64 ((a : Int) * (b : Int))).tmod 2147483579 = ((muN a b : Nat) : Int) := by
 have h:=mul_bd ha hb
 have e : wrap64 ((a : Int) * (b : Int)) = ((a * b : Nat) : Int) := by
  rw [←Int.natCast_mul]
  generalize a*b=c at h
  unfold wrap64;omega
 rw [e,Int.tmod_eq_emod_of_nonneg (by omega)]
 unfold muN gP;omega
theorem ret_i64 {a b:Int} (h:a=b):Ending.returned (.int .i64 a)=.returned (.int .i64 b):=by rw [h]
def PwR (x0 k0 i r y:Nat):Prop:=r < 2147483579∧y < 2147483579∧r*y ^ (k0 / 2 ^ i) % gP=x0 ^ k0 % gP
theorem PwR.start {x k:Nat} (h:x < 2147483579):PwR x k 0 1 x:=⟨by decide,h,by simp⟩
theorem PwR.step {x0 k0 i r y : Nat} (h : PwR x0 k0 i r y) (s : Nat) (hs : s = if k0 / 2 ^ i % 2 = 1 then muN r y else r) : PwR x0 k0 (i + 1) s (muN y y) := by
 obtain ⟨h1,h2,h3⟩:=h
 refine ⟨?_,muN_lt _ _,?_⟩
 · rw [hs]; split
   · exact muN_lt _ _
   · exact h1
 · rw [hs, Nat.pow_succ, ← Nat.div_div_eq_div_mul, ← h3]
   exact pm_step gP r y (k0 / 2 ^ i)
theorem PwR.done {x0 k0 i r y : Nat} (h : PwR x0 k0 i r y) (hi : k0 < 2 ^ i) : r = pwN x0 k0 := by
 obtain ⟨h1,_,h3⟩:=h
 rw [Nat.div_eq_of_lt hi,Nat.pow_zero,Nat.mul_one,Nat.mod_eq_of_lt (b:=gP) h1] at h3
 exact h3
end Go.Proofs.YtnlhbknajdpnbaaGreatDoor
namespace Go.Proofs.YtnlhbknajdpnbaaGreatDoor
open Go.RowKit
set_option maxRecDepth 8000
theorem zdR (x : Int) (w : World) : Calls Tryz.prog 100 #[.int .i64 x] w fun e w' => e = .returned (.bool (resB x)) ∧ w = w' := by
 by_cases h:1≤x
 · have d : decide (1 ≤ x) = true := by simpa using h
   have hv:resB x=decide (x < 2147483579):=by unfold resB;rw [d,Bool.true_and]
   rw [hv];clear h hv
   go_enter Tryz.func100,Tryz.ntmps100
   go_wp2
   go_ret
   exact ⟨rfl,rfl⟩
 · have d : decide (1 ≤ x) = false := by simpa using h
   have hv:resB x=false:=by unfold resB;rw [d,Bool.false_and]
   rw [hv];clear h hv
   go_enter Tryz.func100,Tryz.ntmps100
   go_wp2
   go_ret
   exact ⟨rfl,rfl⟩
def QwR (x0 k0 q r y:Nat):Prop:=r < 2147483579∧y < 2147483579∧r*y ^ q % gP=x0 ^ k0 % gP
theorem QwR.start {x k:Nat} (h:x < 2147483579):QwR x k k 1 x:=⟨by decide,h,by simp⟩
theorem QwR.step {x0 k0 q r y : Nat} (h : QwR x0 k0 q r y) (s : Nat) (hs : s = if q % 2 = 1 then muN r y else r) : QwR x0 k0 (q / 2) s (muN y y) := by
 obtain ⟨h1,h2,h3⟩:=h
 refine ⟨?_,muN_lt _ _,?_⟩
 · rw [hs]; split
   · exact muN_lt _ _
   · exact h1
 · rw [hs, ← h3]
   exact pm_step gP r y q
theorem QwR.done {x0 k0 r y : Nat} (h : QwR x0 k0 0 r y) : r = pwN x0 k0 := by
 obtain ⟨h1,_,h3⟩:=h
 rw [Nat.pow_zero,Nat.mul_one,Nat.mod_eq_of_lt (b:=gP) h1] at h3
 exact h3
theorem int_mu {a b:Nat} (ha:a < 2147483579) (hb:b < 2147483579):Value.int .i64 ((wrap64 ((a:Int)*(b:Int))).tmod 2147483579)=.int .i64 ((muN a b:Nat):Int):=by rw [mu_val a b ha hb]
set_option maxHeartbeats 1000000 in
theorem ref_pow_n (x k : Nat) (w : World) (hx : x < 2147483579) (hk : k < 4611686018427387904) :
 Calls Tryz.prog 52 #[.int .i64 (x:Int),.int .i64 (k:Int)] w fun e w'=>e=.returned (.int .i64 ((pwN x k:Nat):Int))∧w=w':=by
 go_enter Tryz.func52,Tryz.ntmps52
 go_wp2
 go_loop [0,1,5] (fun s t r=>∃q r0 y0:Nat,q≤k∧t=.int .i64 (q:Int)∧r=.int .i64 (r0:Int)∧s=.int .i64 (y0:Int)∧Hid (QwR x k q r0 y0)) (fun _ t _=>(intOf t).toNat)
 case atStart=>exact ⟨k,1,x,Nat.le_refl _,rfl,rfl,rfl,Lib.hid (QwR.start hx)⟩
 case round =>
  obtain ⟨q,r0,y0,hq,rfl,rfl,rfl,HR⟩:=hrel
  have hr:=HR.out.1
  have hy:=HR.out.2.1
  by_cases hlt:0 < q
  · by_cases hbit : q % 2 = 1
    · have HS := Lib.hid (HR.out.step (muN r0 y0) (by rw [if_pos hbit]))
      have hd:((q:Int) % 2==1)=true:=by simp;omega
      clear hbit HR
      go_wp2
      go_round
      case rel=>exact ⟨q / 2,_,_,by omega,by go_num,int_mu hr hy,int_mu hy hy,HS⟩
      case measure=>simp [intOf];omega
    · have HS := Lib.hid (HR.out.step r0 (by rw [if_neg hbit]))
      have hd:((q:Int) % 2==1)=false:=by simp;omega
      clear hbit HR
      go_wp2
      go_round
      case rel=>exact ⟨q / 2,_,_,by omega,by go_num,rfl,int_mu hy hy,HS⟩
      case measure=>simp [intOf];omega
  · go_wp2
    go_ret
    obtain rfl:q=0:=by omega
    exact ⟨ret_i64 (by rw [HR.out.done]),rfl⟩
theorem ref_pow (x k : Int) (w : World) (h0 : 0 ≤ x) (hx : x < 2147483579) (hk0 : 0 ≤ k) (hk : k < 4611686018427387904) :
 Calls Tryz.prog 52 #[.int .i64 x,.int .i64 k] w fun e w'=>e=.returned (.int .i64 (pwZ x k))∧w=w':=by
 have h:=ref_pow_n x.toNat k.toNat w (by omega) (by omega)
 rw [Int.toNat_of_nonneg h0,Int.toNat_of_nonneg hk0] at h
 exact h
def nearZ (n:Int):Int:=1+n % 1073741788
theorem near_bd (n:Int):1≤nearZ n∧nearZ n≤1073741788:=by unfold nearZ;omega
theorem near_tmod (n : Int) : (n.tmod 1073741788 < 0 → n.tmod 1073741788 + 1073741788 = nearZ n - 1) ∧ (¬ n.tmod 1073741788 < 0 → n.tmod 1073741788 = nearZ n - 1) := by
 have h:=Int.tmod_eq_emod (a:=n) (b:=1073741788)
 unfold nearZ
 split at h <;> omega
theorem near_i64 (n : Int) : -1073741788 < n.tmod 1073741788 ∧ n.tmod 1073741788 < 1073741788 := by
 have h:=near_tmod n
 have g:=near_bd n
 have k:=Int.tmod_eq_emod (a:=n) (b:=1073741788)
 split at k <;> omega
theorem ref_near (n : Int) (w : World) : Calls Tryz.prog 53 #[.int .i64 n] w fun e w' => e = .returned (.int .i64 (nearZ n)) ∧ w = w' := by
 have H1:=Lib.hid (near_tmod n)
 have h2:=near_i64 n
 obtain ⟨h2a,h2b⟩:=h2
 by_cases hc:n.tmod 1073741788 < 0
 · have H3 := Lib.hid (H1.out.1 hc)
   go_enter Tryz.func53,Tryz.ntmps53
   go_wp2
   go_ret
   exact ⟨ret_i64 (by have:=H3.out;omega),rfl⟩
 · have H3 := Lib.hid (H1.out.2 hc)
   go_enter Tryz.func53,Tryz.ntmps53
   go_wp2
   go_ret
   exact ⟨ret_i64 (by have:=H3.out;omega),rfl⟩
def zbE (n:Int):Int:=pwZ 4 (nearZ n)
theorem zfX (n : Int) (w : World) : Calls Tryz.prog 24 #[.int .i64 n] w fun e w' => e = .returned (.int .i64 (zbE n)) ∧ w = w' := by
 have hb:=near_bd n
 obtain ⟨hb1,hb2⟩:=hb
 go_enter Tryz.func24,Tryz.ntmps24
 go_wp2_with fail
 with_reducible refine (ref_near n _).mono ?_
 rintro e w' ⟨rfl,rfl⟩
 go_wp2_with fail
 with_reducible refine (ref_pow 4 (nearZ n) _ (by decide) (by decide) (by omega) (by omega)).mono ?_
 rintro e w' ⟨rfl,rfl⟩
 go_wp2
 go_ret
 exact ⟨rfl,rfl⟩
end Go.Proofs.YtnlhbknajdpnbaaGreatDoor
namespace Go.Proofs.YtnlhbknajdpnbaaGreatDoor
open Go.RowKit
set_option maxRecDepth 8000
def elB (x:Int):Bool:=resB x && (x != 1) && (pwZ x 1073741789==1)
theorem elB_res {x : Int} (h : elB x = true) : resB x = true := by
 unfold elB at h;rw [Bool.and_eq_true,Bool.and_eq_true] at h;exact h.1.1
theorem elB_bd {x:Int} (h:elB x=true):1≤x∧x < 2147483579:=resB_yes (elB_res h)
theorem zdP (x : Int) (w : World) : Calls Tryz.prog 77 #[.int .i64 x] w fun e w' => e = .returned (.bool (elB x)) ∧ w = w' := by
 by_cases h:resB x=true
 · obtain ⟨h1, h2⟩ := resB_yes h
   by_cases hx:x=1
   · have hd : (x != 1) = false := by simpa using hx
     have hv:elB x=false:=by unfold elB;rw [hd,Bool.and_false,Bool.false_and]
     rw [hv];clear hv hx
     go_enter Tryz.func77,Tryz.ntmps77
     go_wp2_with (go_at_call 100;((with_reducible refine (zdR x _).mono ?_);rintro e w' ⟨rfl,rfl⟩))
     go_ret
     exact ⟨rfl,rfl⟩
   · have hd : (x != 1) = true := by simpa using hx
     have hv:elB x=(pwZ x 1073741789==1):=by unfold elB;rw [h,hd,Bool.true_and,Bool.true_and]
     rw [hv];clear hv hx
     go_enter Tryz.func77,Tryz.ntmps77
     go_wp2_with (first | (go_at_call 100;((with_reducible refine (zdR x _).mono ?_);rintro e w' ⟨rfl,rfl⟩)) | (go_at_call 52;((with_reducible refine (ref_pow x 1073741789 _ (by omega) h2 (by decide) (by decide)).mono ?_);rintro e w' ⟨rfl,rfl⟩)))
     go_ret
     exact ⟨rfl,rfl⟩
 · have hr : resB x = false := by simpa using h
   have hv:elB x=false:=by unfold elB;rw [hr,Bool.false_and,Bool.false_and]
   rw [hv];clear hv h
   go_enter Tryz.func77,Tryz.ntmps77
   go_wp2_with (go_at_call 100;((with_reducible refine (zdR x _).mono ?_);rintro e w' ⟨rfl,rfl⟩))
   go_ret
   exact ⟨rfl,rfl⟩
end Go.Proofs.YtnlhbknajdpnbaaGreatDoor
namespace Go.Proofs.YtnlhbknajdpnbaaGreatDoor
open Go.RowKit
set_option maxRecDepth 8000
structure Im where
 p:Int
 v:Int
 a:Int
 k:Int
 i:Int
def zerI:Im:=⟨0,0,0,0,0⟩
instance:Inhabited Im:=⟨zerI⟩
def Im.cs (x:Im):List Value:=[.int .i64 x.p,.int .i64 x.v,.int .i64 x.a,.int .i64 x.k,.int .i64 x.i]
def Ics : List Im → List Value
 | []=>[]
 | x::r=>x.cs++Ics r
theorem Im.cs_len (x:Im):x.cs.length=5:=rfl
theorem Im.cs_one (x : Im) : ∀ u ∈ x.cs, u.oneCell' = true := by
 intro u hu
 simp only [Im.cs,List.mem_cons,List.not_mem_nil,or_false] at hu
 rcases hu with rfl | rfl | rfl | rfl | rfl <;> rfl
theorem Ics_len : ∀ l : List Im, (Ics l).length = 5 * l.length
 | []=>rfl
 | x::r=>by simp only [Ics,List.length_append,List.length_cons,Im.cs_len];rw [Ics_len r];omega
theorem Ics_app : ∀ a b : List Im, Ics (a ++ b) = Ics a ++ Ics b
 | [],b=>rfl
 | x::r,b=>by simp only [List.cons_append,Ics];rw [Ics_app r b,List.append_assoc]
theorem zdA (l:List Im) (x:Im):Ics (l++[x])=Ics l++x.cs:=by rw [Ics_app];simp [Ics]
theorem Ics_get : ∀ {l : List Im} {j : Nat} {x : Im}, l[j]? = some x → ∀ i, i < 5 → (Ics l)[j * 5 + i]? = x.cs[i]?
 | [],j,x,h=>by simp at h
 | y :: r, 0, x, h => by
   intro i hi
   have:y=x:=by simpa using h
   subst this
   rw [Ics,Nat.zero_mul,Nat.zero_add,List.getElem?_append,if_pos (by rw [Im.cs_len];exact hi)]
 | y :: r, j + 1, x, h => by
   intro i hi
   have h:r[j]? = some x:=by simpa using h
   rw [Ics,List.getElem?_append,if_neg (by rw [Im.cs_len];omega),Im.cs_len,show (j+1)*5+i - 5=j*5+i by omega]
   exact Ics_get h i hi
section
variable {w w':World} {p p':Nat→Prop} {A:Option Addr} {l:List Im} {x:Im} {j:Nat}
theorem im_at (h : SeesP w p A (Ics l)) (hx : l[j]? = some x) : ∃ b off, A = some ⟨b, off, none⟩ ∧ p b ∧ w.rangeAt b (off + j * 5) x.cs := by
 have hj:=(List.getElem?_eq_some_iff.1 hx).1
 rcases h with h | ⟨b,off,rfl,hb,hc⟩
 · have := Ics_len l
   rw [h] at this
   simp at this
   omega
 · refine ⟨b, off, rfl, hb, fun i u hu => ?_⟩
   have hi : i < 5 := by
    have:=(List.getElem?_eq_some_iff.1 hu).1
    simpa [Im.cs] using this
   rw [Nat.add_assoc,hc _ (by rw [Ics_len];omega),Ics_get hx i hi,hu]
end
def pwB (p:Int):Bool:=decide (p=2) || decide (p=3)
def parB (x:Im):Bool:=if pwB x.p=true then decide (0≤x.a) && decide (x.a≤31) else decide (x.a=0)
def kidB (x:Im):Bool:=if x.p=4 then decide (0≤x.i) && decide (x.i≤255) else decide (x.i=0)
def keyB (x:Im):Bool:=if x.p=4 then elB x.k else decide (x.k=0)
def rngI (x:Im):Bool:=(decide (1≤x.v) && decide (x.v≤255)) && (parB x && kidB x)
def oneI (x:Im):Int:=if x.p < 2∨6 < x.p then 14 else if rngI x=false then 3 else if keyB x=false then 10 else 0
def behB (x y:Im):Bool:=decide (y.p < x.p) || (decide (x.p=y.p) && decide (y.i < x.i))
def ordB (x : Im) : Option Im → Bool
 | none=>true
 | some y=>behB x y
def chkI : Option Im → List Im → Int
 | _,[]=>0
 | q,x::r=>if oneI x≠0 then oneI x else if ordB x q=false then 17 else chkI (some x) r
def vaE (l:List Im):Int:=if 16 < l.length then 2 else chkI none l
def preI (l:List Im) (j:Nat):Option Im:=if j=0 then none else l[j - 1]?
theorem preI_next {l:List Im} {j:Nat} {x:Im} (h:l[j]? = some x):preI l (j+1)=some x:=by simp [preI,h]
theorem chkI_drop {l : List Im} {j : Nat} {x : Im} (h : l[j]? = some x) : chkI (preI l j) (l.drop j) = if oneI x ≠ 0 then oneI x else if ordB x (preI l j) = false then 17 else chkI (preI l (j + 1)) (l.drop (j + 1)) := by
 have hj:=(List.getElem?_eq_some_iff.1 h).1
 have e:l[j]=x:=(List.getElem?_eq_some_iff.1 h).2
 rw [List.drop_eq_getElem_cons hj,e,preI_next h]
 rfl
theorem vaE_none {l : List Im} (h : vaE l = 0) : l.length ≤ 16 ∧ chkI none l = 0 := by
 unfold vaE at h
 split at h
 · omega
 · exact ⟨by omega,h⟩
theorem chkI_all : ∀ {l : List Im} {q : Option Im}, chkI q l = 0 → ∀ x ∈ l, oneI x = 0
 | [],_,_,x,hx=>by cases hx
 | y :: r, q, h, x, hx => by
   unfold chkI at h
   split at h
   · rename_i h1;exact absurd h h1
   · rename_i h1
     split at h
     · cases h
     · rcases List.mem_cons.1 hx with rfl | hx
       · exact Decidable.not_not.1 h1
       · exact chkI_all h x hx
theorem vaE_ok {l:List Im} (h:vaE l=0):l.length≤16∧∀x∈l,oneI x=0:=⟨(vaE_none h).1,chkI_all (vaE_none h).2⟩
theorem oneI_ok {x : Im} (h : oneI x = 0) : (2 ≤ x.p ∧ x.p ≤ 6) ∧ rngI x = true ∧ keyB x = true := by
 unfold oneI at h
 split at h
 · cases h
 · rename_i h1
   split at h
   · cases h
   · rename_i h2
     split at h
     · cases h
     · rename_i h3
       exact ⟨by omega,by simpa using h2,by simpa using h3⟩
theorem oneI_bd {x : Im} (h : oneI x = 0) : (2 ≤ x.p ∧ x.p ≤ 6) ∧ (1 ≤ x.v ∧ x.v ≤ 255) ∧ (0 ≤ x.a ∧ x.a ≤ 31) ∧ (0 ≤ x.k ∧ x.k < 2147483579) ∧ (0 ≤ x.i ∧ x.i ≤ 255) := by
 obtain ⟨h1,h2,h3⟩:=oneI_ok h
 have ha : 0 ≤ x.a ∧ x.a ≤ 31 := by
  unfold rngI parB at h2
  split at h2 <;> simp at h2 <;> omega
 have hi : 0 ≤ x.i ∧ x.i ≤ 255 := by
  unfold rngI kidB at h2
  split at h2 <;> simp at h2 <;> omega
 have hv : 1 ≤ x.v ∧ x.v ≤ 255 := by
  unfold rngI at h2
  simp at h2
  omega
 refine ⟨h1,hv,ha,?_,hi⟩
 unfold keyB at h3
 split at h3
 · have:=elB_bd h3;omega
 · have : x.k = 0 := by simpa using h3
   omega
def idL (p:Int):List UInt8:=[4,0,127,0,7,2,2]++(if p=2 then [4,1] else if p=3 then [4,2] else if p=4 then [3,1] else if p=5 then [2,1] else [5,1])
theorem zdv (p : Int) : (idL p).length = 9 := by
 unfold idL
 split
 · rfl
 · split
   · rfl
   · split
     · rfl
     · split <;> rfl
def zgi (p:Int):List (Int×Nat×Nat):=(2,1,1)::(if pwB p=true then [(2,1,2)] else if p=4 then [(4,4,3),(2,1,4)] else [])
def Im.get (x : Im) : Nat → Int
 | 0=>x.p
 | 1=>x.v
 | 2=>x.a
 | 3=>x.k
 | _=>x.i
def numF (x : Im) : List (Int × Nat × Nat) → F
 | []=>.nil
 | (t,s,c)::r=>.cons t (octL (x.get c).toNat s) .nil (numF x r)
def kidF (x:Im):F:=.cons 6 (idL x.p) .nil (numF x (zgi x.p))
def zcz : List Im → F
 | []=>.nil
 | x::r=>.cons 48 [] (kidF x) (zcz r)
def setF (l:List Im):F:=.cons 49 [] (zcz l) .nil
theorem zev : ∀ l : List Im, (zcz l).len = l.length
 | []=>rfl
 | _::r=>by simp only [zcz,F.len,List.length_cons];rw [zev r]
theorem zgS : ∀ (l : List Im) (x : Im), zcz (l ++ [x]) = (zcz l).app (.cons 48 [] (kidF x) .nil)
 | [],x=>rfl
 | y::r,x=>by simp only [List.cons_append,zcz,F.app];rw [zgS r x]
def idT (v:List UInt8):Option Int:=if v=idL 2 then some 2 else if v=idL 3 then some 3 else if v=idL 4 then some 4 else if v=idL 5 then some 5 else if v=idL 6 then some 6 else none
def Im.put (x : Im) (c : Nat) (n : Int) : Im := match c with
 | 0=>{ x with p:=n }
 | 1=>{ x with v:=n }
 | 2=>{ x with a:=n }
 | 3=>{ x with k:=n }
 | _=>{ x with i:=n }
def numT_Ip (x : Im) : List (Int × Nat × Nat) → F → Option Im
 | [],.nil=>some x
 | (t,s,c)::r,.cons t' v k g=>if t'=t∧v.length=s then numT_Ip (x.put c (numL_Hdr v:Nat)) r g else none
 | _,_=>none
def infT (t : Int) : F → Option Im
 | .nil=>none
 | .cons t0 v0 _ r => if t = 48 ∧ t0 = 6 then match idT v0 with
   | none=>none
   | some p=>numT_Ip ⟨p,0,0,0,0⟩ (zgi p) r
   else none
def infsT : F → Option (List Im)
 | .nil=>some []
 | .cons t _ k r => match infT t k with
   | none=>none
   | some x=>(infsT r).map (x::·)
def lstI : F → Option (List Im)
 | .cons t _ k .nil=>if t=49 then infsT k else none
 | _=>none
def deE_Ip (r : Except Int (F × Nat)) : Int := match r with
 | .error e=>e
 | .ok (f, _) => match lstI f with
   | none=>1
   | some l=>vaE l
def deL (r : Except Int (F × Nat)) : List Im := match r with
 | .error e=>[]
 | .ok (f, _) => match lstI f with
   | none=>[]
   | some l=>if vaE l=0 then l else []
end Go.Proofs.YtnlhbknajdpnbaaGreatDoor
namespace Go.Proofs.YtnlhbknajdpnbaaGreatDoor
open Go.RowKit
def StepG (I : World → Prop) (X : Nat → Value → World → Prop) (S : Nat → Bool) (v : Nat → Value) (c : World) (a : Act) (o : Oper) (i : Nat) (a' : Act) (w' : World) : Prop :=
 ∃u,a'=a.put o.dst u∧X i u w'∧(Below c.heap.size c w'∨(I w'∧∀j,S j=true→X j (v j) w'))
section
variable {a:Act} {c:World} {o:Oper} {I:World→Prop} {X:Nat→Value→World→Prop} {S:Nat→Bool} {v:Nat→Value} {i:Nat}
theorem StepG.still {x:Value} (h:X i x c):StepG I X S v c a o i (a.put o.dst x) c:=⟨x,rfl,h,.inl (Below.refl _ _)⟩
theorem StepG.new {x:Value} {c':World} (h:X i x c') (hb:Below c.heap.size c c'):StepG I X S v c a o i (a.put o.dst x) c':=⟨x,rfl,h,.inl hb⟩
theorem StepG.turn {x:Value} {c':World} (h:X i x c') (hI:I c') (hX:∀j,S j=true→X j (v j) c'):StepG I X S v c a o i (a.put o.dst x) c':=⟨x,rfl,h,.inr ⟨hI,hX⟩⟩
end
end Go.Proofs.YtnlhbknajdpnbaaGreatDoor
namespace Go.Proofs.YtnlhbknajdpnbaaGreatDoor
open Go.RowKit
set_option maxRecDepth 8000
def zbD:List Int:=[97,117,99,118,101,102,103,104,105,106,107,108,109,110,111,112,96,119]
theorem tagsG_at:∀k,k < 18→zbD[k]? = some (zbD.getD k 0):=by decide
theorem tagsG_bd:∀k,k < 18→96≤zbD.getD k 0∧zbD.getD k 0≤119:=by decide
theorem tagsG_drop:∀k,k < 18→zbD.drop k=zbD.getD k 0::zbD.drop (k+1):=by decide
def gtV (n:Int):Int:=if n < 1∨18 < n then 0 else zbD.getD (n - 1).toNat 0
def gtE (n:Int):Int:=if n < 1∨18 < n then 3 else 0
def ggF (t : Int) : List Int → Int → Int × Int
 | [],_=>(0,4)
 | x::r,i=>if x=t then (i+1,0) else ggF t r (i+1)
def ggR (t:Int):Int×Int:=ggF t zbD 0
theorem ggF_at {t : Int} {k : Nat} (h : k < 18) : ggF t (zbD.drop k) k = if zbD.getD k 0 = t then ((k : Int) + 1, 0) else ggF t (zbD.drop (k + 1)) ((k + 1 : Nat) : Int) := by
 rw [tagsG_drop k h]
 simp only [ggF]
 rfl
theorem gt_no {n:Int} (h:n < 1∨18 < n):gtV n=0∧gtE n=3:=by unfold gtV gtE;rw [if_pos h,if_pos h];exact ⟨rfl,rfl⟩
theorem gt_yes {n : Int} {k : Nat} (h : n = (k : Int) + 1) (hk : k < 18) : gtV n = zbD.getD k 0 ∧ gtE n = 0 := by
 unfold gtV gtE
 rw [if_neg (by omega),if_neg (by omega),show (n - 1).toNat=k by omega]
 exact ⟨rfl,rfl⟩
def TabG (w:World):Prop:=1 < w.heap.size∧∀k:Nat,k < 18→w.cell? ⟨1,k,none⟩=some (.int .i64 (zbD.getD k 0))
theorem TabG.on {w w' : World} (h : TabG w) (hb : Below w.heap.size w w') : TabG w' :=
 ⟨Nat.lt_of_lt_of_le h.1 hb.size,fun k hk=>(hb.cell h.1).trans (h.2 k hk)⟩
set_option maxHeartbeats 1600000 in
theorem r_tag (n : Int) (w : World) (ht : TabG w) (hlo : -9223372036854775808 ≤ n) (hhi : n ≤ 9223372036854775807) :
 Calls Tryz.prog 54 #[.int .i64 n] w fun e w'=>e=.returned (.tuple #[.int .i64 (gtV n),.int .i64 (gtE n)])∧w'=w:=by
 by_cases h1:n < 1
 · have d1 : decide (n < 1) = true := by simpa using h1
   obtain ⟨e1,e2⟩:=gt_no (.inl h1)
   rw [e1,e2]
   clear e1 e2 ht h1 hlo hhi
   go_enter Tryz.func54,Tryz.ntmps54
   go_wp2
   go_ret2
   exact ⟨rfl,rfl⟩
 have d1:decide (n < 1)=false:=by simpa using h1
 by_cases h2:18 < n
 · have d2 : decide (18 < n) = true := by simpa using h2
   obtain ⟨e1,e2⟩:=gt_no (.inr h2)
   rw [e1,e2]
   clear e1 e2 ht h1 h2 hlo hhi
   go_enter Tryz.func54,Tryz.ntmps54
   go_wp2
   go_ret2
   exact ⟨rfl,rfl⟩
 have d2:decide (18 < n)=false:=by simpa using h2
 obtain ⟨k,hk⟩ : ∃k:Nat,n=(k:Int)+1:=⟨(n - 1).toNat,by omega⟩
 have hk18:k < 18:=by omega
 obtain ⟨e1,e2⟩:=gt_yes hk hk18
 rw [e1,e2]
 have c0:=ht.2 k hk18
 obtain ⟨z,hz⟩ : ∃z,zbD.getD k 0=z:=⟨_,rfl⟩
 rw [hz] at c0 ⊢
 have es:wrap64 (n - 1)=(k:Int):=by unfold wrap64;omega
 have dk:decide ((k:Int) < 18)=true:=by simp;omega
 clear e1 e2 ht h1 h2 hz hk hlo hhi
 go_enter Tryz.func54,Tryz.ntmps54
 go_wp2
 go_ret2
 exact ⟨rfl,rfl⟩
end Go.Proofs.YtnlhbknajdpnbaaGreatDoor
namespace Go.Proofs.YtnlhbknajdpnbaaGreatDoor
open Go.RowKit
theorem zed {P : Program} {ops : Array Oper} {rest : List Oper} {o : Oper} {a : Act} {w : World} {Q : Exit → Act → World → Prop} (hgd : o.guard = none) (t : TypeId) (parts : Array (Nat × Operand)) (ho : o.op = .build t parts) {ps : List (Nat × Value)} (hp : (parts.map fun (i, x) => (i, a.eval x)).toList = ps) {vs : List Value} (hb : P.built t ps = some vs.toArray)
 (hK:wpList P ops Q rest (a.put o.dst (.agg vs.toArray)) w):wpList P ops Q (o::rest) a w :=
 wpList_plain hgd fun _ hK2=>o_bld t parts ho hp hb (hK2 _ _ hK)
end Go.Proofs.YtnlhbknajdpnbaaGreatDoor
namespace Go.Proofs.YtnlhbknajdpnbaaGreatDoor
open Go.RowKit
theorem enc_ok (l : List Tm) : (encF l).ok ∧ (encF l).size ≤ 74 := by
 unfold encF
 split
 · rename_i h
   obtain ⟨_,h8,hv⟩:=encE_ok h
   refine ⟨listF_ok fun x hx=>?_,by rw [listF_size];omega⟩
   have:=(vT_bd (hv x hx)).2.2.2.2.2.2.2.2
   omega
 · exact ⟨trivial,by decide⟩
end Go.Proofs.YtnlhbknajdpnbaaGreatDoor
