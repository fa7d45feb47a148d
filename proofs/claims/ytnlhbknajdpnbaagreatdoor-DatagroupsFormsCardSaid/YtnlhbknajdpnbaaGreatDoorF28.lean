/-
  What is proved here: what the reference's number, Key and Same answer.
-/
import Derived.Test.YtnlhbknajdpnbaaGreatDoorF27
import Derived.Test.YtnlhbknajdpnbaaGreatDoorF21
import Derived.Test.YtnlhbknajdpnbaaGreatDoorF25
set_option linter.unusedVariables false
set_option linter.unusedSimpArgs false
namespace Go.Proofs.YtnlhbknajdpnbaaGreatDoor
open Go.RowKit Go.Maps
theorem zdp (x : List UInt8) (n : Nat) (hn : n ≤ 64) (R : ByteArray) (hR : S (zaX x n) = R) (w : World) : Calls Tryz.prog 68 #[.string (S x), .int .i64 (n : Int)] w fun e w' => e = .returned (.string R) ∧ w = w' := by
 rw [←hR];exact (r_wide (S x) x rfl n hn w).mono fun e w' h=>⟨h.1,h.2.symm⟩
theorem r_chkB (x : List UInt8) (hz : x.length ≤ 1000) (R : ByteArray) (hR : S (x ++ dgL x) = R) (w : World) : Calls Tryz.prog 70 #[.string (S x)] w fun e w' => e = .returned (.string R) ∧ Below w.heap.size w w' := by
 rw [←hR];exact r_checked (S x) x rfl (by rw [zao];exact hz) w
end Go.Proofs.YtnlhbknajdpnbaaGreatDoor
namespace Go.Proofs.YtnlhbknajdpnbaaGreatDoor
open Go.RowKit Go.Maps
theorem vI_60:vI 60=0:=by decide
theorem cB_app_l {x y : List UInt8} {i : Nat} (h : i < x.length) : cB (x ++ y) i = cB x i := by
 unfold cB;rw [List.getD_eq_getElem?_getD,List.getD_eq_getElem?_getD,List.getElem?_append_left h]
theorem cB_app_r {x y : List UInt8} {i : Nat} (h : x.length ≤ i) : cB (x ++ y) i = cB y (i - x.length) := by
 unfold cB;rw [List.getD_eq_getElem?_getD,List.getD_eq_getElem?_getD,List.getElem?_append_right h]
theorem cB_rep {k i : Nat} (h : i < k) : cB (List.replicate k 60) i = 60 := by
 unfold cB
 rw [List.getD_eq_getElem?_getD,List.getElem?_replicate,if_pos h]
 rfl
theorem sum_app (x : List UInt8) (k : Nat) : ∀ n, n ≤ x.length + k → sumL (x ++ List.replicate k 60) n = sumL x (min n x.length)
 | 0,_=>by simp [sumL]
 | n + 1, h => by
   rw [zes,sum_app x k n (by omega)]
   by_cases hn:n < x.length
   · rw [cB_app_l hn,show min n x.length=n by omega,show min (n+1) x.length=n+1 by omega,zes]
   · rw [cB_app_r (by omega), cB_rep (by omega), vI_60, show min n x.length = x.length by omega, show min (n + 1) x.length = x.length by omega]
     omega
theorem zgy (x : List UInt8) (k : Nat) : zaC (x ++ List.replicate k 60) = zaC x := by
 unfold zaC
 rw [List.all_append]
 have : (List.replicate k (60 : UInt8)).all (fun b => decide (0 ≤ vI (b.toNat : Int))) = true := by
  rw [List.all_eq_true]
  intro b hb
  rw [(List.mem_replicate.1 hb).2]
  decide
 rw [this,Bool.and_true]
theorem dgL_fill (x : List UInt8) (k : Nat) : dgL (x ++ List.replicate k 60) = dgL x := by
 unfold dgL
 rw [zgy,List.length_append,List.length_replicate,sum_app x k _ (Nat.le_refl _),show min (x.length+k) x.length=x.length by omega]
theorem dgL_wide (x:List UInt8) (n:Nat):dgL (zaX x n)=dgL x:=dgL_fill x _
theorem zcF {n:Nat} {x:List UInt8} (h:x.length≤n):padT n x=zaX x n:=padT_fit h
def numA (x:List UInt8):List UInt8:=if x.length≤9 then zek x++dgL (zek x) else x.take 9++[60]
def numR (x:List UInt8):List UInt8:=if x.length≤9 then [] else x.drop 9++dgL x++[60]
def headL (z:Zn):List UInt8:=zaX z.kd 2++zaX z.st 3
def optO (z:Zn):List UInt8:=if z.op=[] then [60] else dgL (zaX z.op 14)
def zce (z : Zn) : List UInt8 :=
 if z.fm=1 then (z.bi++dgL z.bi)++z.sx++(z.ex++dgL z.ex)++zaX z.na 3++zaX z.se 11
 else if z.fm=2 then numA z.nu++zaX z.na 3++(z.bi++dgL z.bi)++z.sx++(z.ex++dgL z.ex)++zaX (numR z.nu++z.op) 7
 else numA z.nu++zaX z.na 3++(z.bi++dgL z.bi)++z.sx++(z.ex++dgL z.ex)++zaX z.op 14++optO z
def zbN (z:Zn):List UInt8:=if z.fm=1 then headL z++numA z.nu++zaX (numR z.nu++z.op) 15 else headL z++zbk z.su z.gi (namN z.fm)
def slc (x:List UInt8) (a b:Nat):List UInt8:=(x.drop a).take (b - a)
def zdf (z : Zn) : List UInt8 :=
 if z.fm=1 then slc (zbN z) 5 30++slc (zce z) 0 7++slc (zce z) 8 15++slc (zce z) 18 29
 else if z.fm=2 then slc (zce z) 0 10++slc (zce z) 13 20++slc (zce z) 21 35
 else slc (zce z) 0 10++slc (zce z) 13 20++slc (zce z) 21 43
def refL (z:Zn):List (List UInt8):=if z.fm=1 then [zbN z,zce z++dgL (zdf z),zbk z.su z.gi (namN z.fm)] else [zbN z,zce z++dgL (zdf z)]
theorem slc_app {x y : List UInt8} {a b : Nat} (h : b ≤ x.length) : slc (x ++ y) a b = slc x a b := by
 unfold slc
 by_cases hab:a≤b
 · rw [List.drop_append_of_le_length (by omega),List.take_append_of_le_length (by rw [List.length_drop];omega)]
 · rw [show b - a=0 by omega];simp
theorem zgO {x:List UInt8} (h:zaC x=true):(dgL x).length=1:=by unfold dgL;rw [if_pos h];rfl
theorem zfR {x : List UInt8} (h : zbO x = true) : x.length = 6 := by
 unfold zbO at h
 simp only [Bool.and_eq_true,decide_eq_true_eq] at h
 exact h.1
theorem zeM {x : List UInt8} {i : Nat} (h : -2 < zcA x i) : 0 ≤ vI (cB x i) ∧ 0 ≤ vI (cB x (i + 1)) := by
 unfold zcA at h
 split at h
 · rename_i h1;rw [h1.1,h1.2,vI_60];exact ⟨Int.le_refl _,Int.le_refl _⟩
 · split at h
   · omega
   · rename_i h1 h2
     rw [vI_1 (by omega) (by omega),vI_1 (by omega) (by omega)]
     omega
theorem bir_ok {x : List UInt8} (h : zbO x = true) : zaC x = true := by
 have hl:=zfR h
 unfold zbO at h
 simp only [Bool.and_eq_true,decide_eq_true_eq] at h
 obtain ⟨_,h0,h2,h4⟩:=h
 have a0:=zeM h0
 have a2:=zeM (x:=x) (i:=2) (by omega)
 have a4:=zeM (x:=x) (i:=4) (by omega)
 refine zck fun k hk=>?_
 have:k=0∨k=1∨k=2∨k=3∨k=4∨k=5:=by omega
 rcases this with rfl | rfl | rfl | rfl | rfl | rfl
 · exact a0.1
 · exact a0.2
 · exact a2.1
 · exact a2.2
 · exact a4.1
 · exact a4.2
theorem zgr {x : List UInt8} (h : expB x = true) : x.length = 6 ∧ zaC x = true := by
 unfold expB psE at h
 simp only [decide_eq_true_eq] at h
 rw [if_pos (by decide)] at h
 by_cases hq:rpOk (S x)=true
 · unfold rpOk at hq
   rw [Bool.and_eq_true,decide_eq_true_eq,zao,List.all_eq_true] at hq
   refine ⟨hq.1,zck fun k hk=>?_⟩
   have h1:=hq.2 k (List.mem_range.2 (by omega))
   unfold dig at h1
   simp only [Bool.and_eq_true,decide_eq_true_eq] at h1
   have e : cB x k = ((ch (S x) k : Nat) : Int) := by
    rw [ch_at (S x) k (by rw [zao];exact hk)]
    exact (S_get x k (by rw [zao];exact hk)).symm
   rw [e,vI_1 (by omega) (by omega)]
   omega
 · rw [if_neg hq] at h;exact absurd h (by decide)
theorem sex_len {x : List UInt8} (h : sexB x = true) : x.length = 1 := by
 unfold sexB at h
 simp only [decide_eq_true_eq] at h
 rcases h with e | e | e <;> rw [e] <;> rfl
theorem zem {x : List UInt8} (h : zaN x = true) : zaC x = true := by
 unfold zaN at h
 simp only [Bool.and_eq_true] at h
 exact h.1
theorem num_seg {z : Zn} (hp : zbL z.nu = true) : padT 9 (tx z 3) ++ padT 1 (tx z 4) = numA z.nu := by
 have hv:zaC z.nu=true:=by unfold zbL at hp;simp only [Bool.and_eq_true] at hp;exact hp.2
 have e3:tx z 3=z.nu.take 9:=rfl
 have e4:tx z 4=if 9 < z.nu.length then [60] else dgL z.nu:=rfl
 rw [e3,e4]
 unfold numA
 by_cases h:z.nu.length≤9
 · rw [if_neg (by omega), if_pos h, List.take_of_length_le h, zcF h, zbC (zgO hv)]
   unfold zek
   rw [dgL_wide]
 · rw [if_pos (by omega), if_neg h, zbC (by rw [List.length_take]; omega)]
   rfl
theorem rest_seg (z : Zn) : restT z = numR z.nu ++ z.op := by
 unfold restT numR
 by_cases h:z.nu.length≤9
 · rw [if_neg (by omega),if_pos h];rfl
 · rw [if_pos (by omega),if_neg h]
theorem rest3 {z:Zn} (h:z.nu.length≤9):restT z=z.op:=by unfold restT;rw [if_neg (by omega)]
theorem lt3 {a b c:Nat×Nat} (T:Nat→List UInt8):zcR [a,b,c] T=padT a.2 (T a.1)++(padT b.2 (T b.1)++padT c.2 (T c.1)):=by simp [zcR]
theorem zfD {z : Zn} (hz : zaY z = 0) : (zbk z.su z.gi (namN z.fm)).length = namN z.fm := by
 obtain ⟨h1,_,_,h4,h5,_⟩:=zeq hz
 have hn:1≤namN z.fm∧namN z.fm≤64:=by unfold namN;repeat (first | omega | split)
 exact (field_back h4.2 h5 h4.1 hn.1 hn.2).2.1
theorem room_ok {z : Zn} (hz : zaY z = 0) : (numR z.nu ++ z.op).length ≤ optN z.fm ∧ z.se.length ≤ 11 ∧ (z.fm = 3 → z.nu.length ≤ 9) := by
 obtain ⟨h1,_,_,_,_,h6,h7,_,_,_,_,_,_,h14,h15⟩:=zeq hz
 rw [fit_of h1 (by simp [h6.1,h6.2]) h14,decide_eq_true_eq] at h15
 have hv:zaC z.nu=true:=by have:=h6.2;unfold zbL at this;simp only [Bool.and_eq_true] at this;exact this.2
 refine ⟨?_,by omega,fun e=>by rw [e] at h7;exact h7⟩
 have hd:=zgO hv
 have hn : (numR z.nu ++ z.op).length = zdo z := by
  rw [List.length_append]
  unfold numR zdo
  by_cases h:z.nu.length≤9
  · rw [if_pos h,if_neg (by omega)];simp
  · rw [if_neg h,if_pos (by omega)];simp [hd];omega
 omega
theorem zeN {z : Zn} (hz : zaY z = 0) (T : Nat → List UInt8) (hT : ∀ k, k ≠ 14 → T k = tx z k) : zcR (segs z.fm 0) T = zbN z := by
 obtain ⟨h1,h2,h3,h4,h5,h6,h7,h8,h9,h10,h11,h12,h13,h14,h15⟩:=zeq hz
 obtain ⟨r1,r2,r3⟩:=room_ok hz
 have hn:=zfD hz
 have k0:padT 2 (T 0)=zaX z.kd 2:=by rw [hT 0 (by decide)];exact zcF (zbZ h2)
 have k1:padT 3 (T 1)=zaX z.st 3:=by rw [hT 1 (by decide)];exact zcF (zbZ h3)
 have hf:z.fm=1∨z.fm=2∨z.fm=3:=by omega
 unfold zbN headL
 rcases hf with e | e | e
 · rw [e] at r1
   have o1:optN 1=15:=rfl
   rw [if_pos e,e]
   show zcR [(0,2),(1,3),(3,9),(4,1),(11,15)] T=_
   simp only [zcR,List.flatMap_cons,List.flatMap_nil,List.append_nil]
   have k34:=num_seg (z:=z) h6.2
   rw [k0,k1,hT 3 (by decide),hT 4 (by decide),hT 11 (by decide)]
   have k11 : padT 15 (tx z 11) = zaX (numR z.nu ++ z.op) 15 := by
    show padT 15 (restT z)=_
    rw [rest_seg,zcF (by omega)]
   rw [k11,←k34]
   simp only [List.append_assoc]
 · have k2 : padT 31 (T 2) = zbk z.su z.gi (namN z.fm) := by
    rw [hT 2 (by decide)]
    exact zbC (by show (zbk z.su z.gi (namN z.fm)).length=31;rw [hn,e];rfl)
   rw [if_neg (by omega)]
   have es:segs z.fm 0=[(0,2),(1,3),(2,31)]:=by rw [e];rfl
   rw [es,lt3,k0,k1,k2,List.append_assoc]
 · have k2 : padT 39 (T 2) = zbk z.su z.gi (namN z.fm) := by
    rw [hT 2 (by decide)]
    exact zbC (by show (zbk z.su z.gi (namN z.fm)).length=39;rw [hn,e];rfl)
   rw [if_neg (by omega)]
   have es:segs z.fm 0=[(0,2),(1,3),(2,39)]:=by rw [e];rfl
   rw [es,lt3,k0,k1,k2,List.append_assoc]
theorem zfx {z : Zn} (hz : zaY z = 0) (T : Nat → List UInt8) (hT : ∀ k, k ≠ 14 → T k = tx z k) : zcR (segs z.fm 1) T = zce z ++ padT 1 (T 14) := by
 obtain ⟨h1,h2,h3,h4,h5,h6,h7,h8,h9,h10,h11,h12,h13,h14,h15⟩:=zeq hz
 obtain ⟨r1,r2,r3⟩:=room_ok hz
 have k34:=num_seg (z:=z) h6.2
 have k5:padT 3 (T 5)=zaX z.na 3:=by rw [hT 5 (by decide)];exact zcF (zbZ h8)
 have k6:padT 6 (T 6)=z.bi:=by rw [hT 6 (by decide)];exact zbC (zfR h9)
 have k7:padT 1 (T 7)=dgL z.bi:=by rw [hT 7 (by decide)];exact zbC (zgO (bir_ok h9))
 have k8:padT 1 (T 8)=z.sx:=by rw [hT 8 (by decide)];exact zbC (sex_len h10)
 have k9:padT 6 (T 9)=z.ex:=by rw [hT 9 (by decide)];exact zbC (zgr h11).1
 have k10:padT 1 (T 10)=dgL z.ex:=by rw [hT 10 (by decide)];exact zbC (zgO (zgr h11).2)
 have k13:padT 11 (T 13)=zaX z.se 11:=by rw [hT 13 (by decide)];exact zcF r2
 have hf:z.fm=1∨z.fm=2∨z.fm=3:=by omega
 unfold zce
 rcases hf with e | e | e
 · rw [if_pos e, e]
   show zcR [(6,6),(7,1),(8,1),(9,6),(10,1),(5,3),(13,11),(14,1)] T=_
   simp only [zcR,List.flatMap_cons,List.flatMap_nil,List.append_nil]
   rw [k5,k6,k7,k8,k9,k10,k13]
   simp only [List.append_assoc]
 · rw [if_neg (by omega), if_pos e]
   rw [e] at r1 ⊢
   have o1:optN 2=7:=rfl
   show zcR [(3,9),(4,1),(5,3),(6,6),(7,1),(8,1),(9,6),(10,1),(11,7),(14,1)] T=_
   simp only [zcR,List.flatMap_cons,List.flatMap_nil,List.append_nil]
   have k11 : padT 7 (tx z 11) = zaX (numR z.nu ++ z.op) 7 := by
    show padT 7 (restT z)=_
    rw [rest_seg,zcF (by omega)]
   rw [k5,k6,k7,k8,k9,k10,hT 3 (by decide),hT 4 (by decide),hT 11 (by decide),k11,←k34]
   simp only [List.append_assoc]
 · rw [if_neg (by omega), if_neg (by omega)]
   have hnr:numR z.nu=[]:=by unfold numR;rw [if_pos (r3 e)]
   rw [hnr,e] at r1
   rw [e]
   have o1:optN 3=14:=rfl
   have hlo:z.op.length≤14:=by rw [←o1];exact r1
   show zcR [(3,9),(4,1),(5,3),(6,6),(7,1),(8,1),(9,6),(10,1),(11,14),(12,1),(14,1)] T=_
   simp only [zcR,List.flatMap_cons,List.flatMap_nil,List.append_nil]
   have k11 : padT 14 (tx z 11) = zaX z.op 14 := by
    show padT 14 (restT z)=_
    rw [rest3 (r3 e),zcF hlo]
   have k12 : padT 1 (tx z 12) = optO z := by
    show padT 1 (if z.op=[] then [] else dgL z.op)=_
    unfold optO
    by_cases ho:z.op=[]
    · rw [if_pos ho,if_pos ho];rfl
    · rw [if_neg ho, if_neg ho, dgL_wide]
      exact zbC (zgO (zem h12))
   rw [k5,k6,k7,k8,k9,k10,hT 3 (by decide),hT 4 (by decide),hT 11 (by decide),hT 12 (by decide),k11,k12,←k34]
   simp only [List.append_assoc]
end Go.Proofs.YtnlhbknajdpnbaaGreatDoor
namespace Go.Proofs.YtnlhbknajdpnbaaGreatDoor
open Go.RowKit Go.Maps
theorem zcy (x y:List UInt8):zaC (x++y)=(zaC x && zaC y):=by unfold zaC;rw [List.all_append]
theorem val_sub {x y : List UInt8} (h : zaC x = true) (hs : ∀ b ∈ y, b ∈ x) : zaC y = true := by
 unfold zaC at h ⊢
 rw [List.all_eq_true] at h ⊢
 exact fun b hb=>h b (hs b hb)
theorem val_slc {x : List UInt8} (h : zaC x = true) (a b : Nat) : zaC (slc x a b) = true :=
 val_sub h fun c hc=>List.mem_of_mem_drop (List.mem_of_mem_take hc)
theorem zgt (x : List UInt8) : zaC (dgL x) = true := by
 unfold dgL
 split
 · refine zck fun k hk => ?_
   simp only [List.length_cons,List.length_nil] at hk
   obtain rfl:k=0:=by omega
   have h1:0≤sumL x x.length % 10∧sumL x x.length % 10≤9:=by omega
   obtain ⟨r,hr⟩ : ∃r,(48+sumL x x.length % 10).toNat=r:=⟨_,rfl⟩
   have hb:48≤r∧r≤57:=by omega
   rw [hr]
   have e : cB [UInt8.ofNat r] 0 = (r : Int) := by
    show (((UInt8.ofNat r).toNat:Nat):Int)=_
    rw [UInt8.toNat_ofNat']
    omega
   rw [e,vI_1 (by omega) (by omega)]
   omega
 · rfl
theorem zej (x:List UInt8) (n:Nat):zaC (zaX x n)=zaC x:=zgy x _
theorem zey {x : List UInt8} {n : Nat} (h : zbw x n = true) : zaC x = true := by
 unfold zbw zfl at h
 simp only [Bool.and_eq_true,decide_eq_true_eq] at h
 refine zck fun k hk=>?_
 have h1:=h.2 k hk
 unfold ltrB at h1
 simp only [decide_eq_true_eq] at h1
 rw [vI_2 h1.1 h1.2]
 omega
theorem val_num {x : List UInt8} (h : zaC x = true) : zaC (numA x) = true ∧ zaC (numR x) = true := by
 have h60:zaC [60]=true:=by decide
 have t9:zaC (x.take 9)=true:=val_sub h fun c hc=>List.mem_of_mem_take hc
 have d9:zaC (x.drop 9)=true:=val_sub h fun c hc=>List.mem_of_mem_drop hc
 unfold numA numR
 constructor
 · split
   · rw [zcy,zgt];unfold zek;rw [zej,h];rfl
   · rw [zcy,t9,h60];rfl
 · split
   · rfl
   · rw [zcy,zcy,d9,zgt,h60];rfl
theorem val_sex {x : List UInt8} (h : sexB x = true) : zaC x = true := by
 unfold sexB at h
 simp only [decide_eq_true_eq] at h
 rcases h with e | e | e <;> rw [e] <;> decide
theorem val_body {z : Zn} (hz : zaY z = 0) : zaC (zce z) = true := by
 obtain ⟨h1,h2,h3,h4,h5,h6,h7,h8,h9,h10,h11,h12,h13,h14,h15⟩:=zeq hz
 have hv:zaC z.nu=true:=by have:=h6.2;unfold zbL at this;simp only [Bool.and_eq_true] at this;exact this.2
 have hn:=val_num hv
 have ho : zaC (optO z) = true := by
  unfold optO
  split
  · decide
  · exact zgt _
 unfold zce
 split
 · simp only [zcy,zgt,zej,zey h8,bir_ok h9,val_sex h10,(zgr h11).2,zem h13,Bool.and_self]
 · split
   · simp only [zcy,zgt,zej,zey h8,bir_ok h9,val_sex h10,(zgr h11).2,hn.1,hn.2,zem h12,Bool.and_self]
   · simp only [zcy,zgt,zej,zey h8,bir_ok h9,val_sex h10,(zgr h11).2,hn.1,ho,zem h12,Bool.and_self]
theorem val_comp {z : Zn} (hz : zaY z = 0) : zaC (zdf z) = true := by
 obtain ⟨h1,h2,h3,h4,h5,h6,h7,h8,h9,h10,h11,h12,h13,h14,h15⟩:=zeq hz
 have hv:zaC z.nu=true:=by have:=h6.2;unfold zbL at this;simp only [Bool.and_eq_true] at this;exact this.2
 have hn:=val_num hv
 have hb:=val_body hz
 unfold zdf
 split
 · rename_i e
   have hf : zaC (zbN z) = true := by
    unfold zbN headL
    rw [if_pos e]
    simp only [zcy,zej,zey h2,zey h3,hn.1,hn.2,zem h12,Bool.and_self]
   simp only [zcy,val_slc hf,val_slc hb,Bool.and_self]
 · split
   · simp only [zcy,val_slc hb,Bool.and_self]
   · simp only [zcy,val_slc hb,Bool.and_self]
theorem zfh {z : Zn} (hz : zaY z = 0) : (zce z).length + 1 = widN z.fm := by
 have h1:=(zeq hz).1
 have h2:=congrArg List.length (zfx hz (tx z) (fun k _=>rfl))
 rw [zeA,seg_sum h1 (by unfold cntN;repeat (first | omega | split)),List.length_append,padT_len] at h2
 omega
theorem comp_eq {z : Zn} (hz : zaY z = 0) : cmpT z.fm (zdh z.fm (tx z)) = zdf z := by
 have h1:=(zeq hz).1
 have hbl:=zfh hz
 have hl0:(zdh z.fm (tx z)).getD 0 []=zbN z:=by rw [zeD z.fm (tx z) (by unfold cntN;repeat (first | omega | split))];exact zeN hz (tx z) (fun k _=>rfl)
 have hl1:(zdh z.fm (tx z)).getD 1 []=zce z++padT 1 (tx z 14):=by rw [zeD z.fm (tx z) (by unfold cntN;repeat (first | omega | split))];exact zfx hz (tx z) (fun k _=>rfl)
 obtain ⟨ls,hls⟩ : ∃ls,zdh z.fm (tx z)=ls:=⟨_,rfl⟩
 rw [hls] at hl0 hl1 ⊢
 have s0:∀a b,zdO ls (0,a,b)=slc (zbN z) a b:=fun a b=>by show slc (ls.getD 0 []) a b=_;rw [hl0]
 have s1:∀a b,b≤(zce z).length→zdO ls (1,a,b)=slc (zce z) a b:=fun a b h=>by show slc (ls.getD 1 []) a b=_;rw [hl1,slc_app h]
 have s9:zdO ls (0,0,0)=[]:=by show ((ls.getD 0 []).drop 0).take 0=[];simp
 have hf:z.fm=1∨z.fm=2∨z.fm=3:=by omega
 unfold cmpT zdf
 rcases hf with e | e | e
 · rw [e] at hbl ⊢
   have w1:widN 1=30:=rfl
   rw [if_pos rfl]
   show List.flatMap (zdO ls) [(0,5,30),(1,0,7),(1,8,15),(1,18,29)]=_
   simp only [List.flatMap_cons,List.flatMap_nil,List.append_nil]
   rw [s0,s1 _ _ (by omega),s1 _ _ (by omega),s1 _ _ (by omega)]
   simp only [List.append_assoc]
 · rw [e] at hbl ⊢
   have w2:widN 2=36:=rfl
   rw [if_neg (by decide),if_pos rfl]
   show List.flatMap (zdO ls) [(1,0,10),(1,13,20),(1,21,35),(0,0,0)]=_
   simp only [List.flatMap_cons,List.flatMap_nil,List.append_nil]
   rw [s1 _ _ (by omega),s1 _ _ (by omega),s1 _ _ (by omega),s9]
   simp only [List.append_assoc,List.append_nil]
 · rw [e] at hbl ⊢
   have w3:widN 3=44:=rfl
   rw [if_neg (by decide),if_neg (by decide)]
   show List.flatMap (zdO ls) [(1,0,10),(1,13,20),(1,21,43),(0,0,0)]=_
   simp only [List.flatMap_cons,List.flatMap_nil,List.append_nil]
   rw [s1 _ _ (by omega),s1 _ _ (by omega),s1 _ _ (by omega),s9]
   simp only [List.append_assoc,List.append_nil]
theorem ref_lines {z : Zn} (hz : zaY z = 0) : refL z = zgD z := by
 have h1:=(zeq hz).1
 have hT:∀k,k≠14→tx2 z k=tx z k:=fun k hk=>by unfold tx2;rw [if_neg hk]
 have e0:=zeN hz (tx2 z) hT
 have e1:=zfx hz (tx2 z) hT
 have e14 : padT 1 (tx2 z 14) = dgL (zdf z) := by
  have:tx2 z 14=dgL (cmpT z.fm (zdh z.fm (tx z))):=rfl
  rw [this,comp_eq hz]
  exact zbC (zgO (val_comp hz))
 rw [e14] at e1
 have hf:z.fm=1∨z.fm=2∨z.fm=3:=by omega
 unfold refL zgD zdh
 rcases hf with e | e | e
 · have e2 : zcR (segs 1 2) (tx2 z) = zbk z.su z.gi (namN z.fm) := by
    show zcR [(2,30)] (tx2 z)=_
    simp only [zcR,List.flatMap_cons,List.flatMap_nil,List.append_nil]
    rw [hT 2 (by decide)]
    exact zbC (by show (zbk z.su z.gi (namN z.fm)).length=30;rw [zfD hz,e];rfl)
   rw [if_pos e,←e0,←e1,←e2,e]
   rfl
 · rw [if_neg (by omega),←e0,←e1,e];rfl
 · rw [if_neg (by omega),←e0,←e1,e];rfl
end Go.Proofs.YtnlhbknajdpnbaaGreatDoor
namespace Go.Proofs.YtnlhbknajdpnbaaGreatDoor
open Go.RowKit Go.Maps
theorem numA_len (x : List UInt8) : (numA x).length ≤ 10 := by
 have:=dgL_le (zek x)
 unfold numA
 split
 · unfold zek zaX at *;simp at *;omega
 · simp;omega
theorem numR_len (x : List UInt8) : (numR x).length ≤ x.length + 2 := by
 have:=dgL_le x
 unfold numR
 split
 · simp
 · simp;omega
set_option maxHeartbeats 1600000 in
theorem r_number (x : List UInt8) (hz : x.length ≤ 64) (w : World) :
 Calls Tryz.prog 69 #[.string (S x)] w fun e w'=>e=.returned (.tuple #[.string (S (numA x)),.string (S (numR x))])∧Below w.heap.size w w':=by
 by_cases h9:x.length≤9
 · have hA : numA x = zek x ++ dgL (zek x) := by unfold numA; rw [if_pos h9]
   have hR:numR x=[]:=by unfold numR;rw [if_pos h9]
   rw [hA,hR]
   obtain ⟨N,hN⟩ : ∃N,S x=N:=⟨_,rfl⟩
   obtain ⟨W,hW⟩ : ∃W,S (zek x)=W:=⟨_,rfl⟩
   obtain ⟨C,hC⟩ : ∃C,S (zek x++dgL (zek x))=C:=⟨_,rfl⟩
   have hwl:(zek x).length≤1000:=by unfold zek zaX;rw [List.length_append,List.length_replicate];omega
   have pw:∀w,Calls Tryz.prog 68 #[.string N,.int .i64 9] w fun e w'=>e=.returned (.string W)∧w=w':=fun w=>by rw [←hN];exact zdp x 9 (by decide) W hW w
   have pc:∀w,Calls Tryz.prog 70 #[.string W] w fun e w'=>e=.returned (.string C)∧Below w.heap.size w w':=fun w=>by rw [←hW];exact r_chkB (zek x) hwl C hC w
   have HP:=Lib.hid (show _∧_ from ⟨pw,pc⟩)
   have d9:(N.size:Int)≤9:=by rw [←hN,zao];omega
   have d9n:N.size≤9:=by omega
   rw [hN,hC]
   clear hA hR hN hW hC hwl pw pc
   go_enter Tryz.func69,Tryz.ntmps69
   go_wp2_with (first
    | (go_at_call 68;((with_reducible refine (HP.out.1 _).mono ?_);rintro e w5 ⟨rfl,rfl⟩))
    | (go_at_call 70;((with_reducible refine (HP.out.2 _).mono ?_);rintro e w6 ⟨rfl,hb⟩);have HB:=Lib.hid hb;clear hb))
   go_ret2
   exact ⟨rfl,HB.out⟩
 · have hA : numA x = x.take 9 ++ [60] := by unfold numA; rw [if_neg h9]
   have hR:numR x=x.drop 9++dgL x++[60]:=by unfold numR;rw [if_neg h9]
   rw [hA,hR]
   obtain ⟨N,hN⟩ : ∃N,S x=N:=⟨_,rfl⟩
   obtain ⟨D,hD⟩ : ∃D,S (dgL x)=D:=⟨_,rfl⟩
   have hDz:D.size≤1:=by rw [←hD];exact zdL x
   have hNz:N.size≤64:=by rw [←hN,zao];exact hz
   have hN9:9 < N.size:=by rw [←hN,zao];omega
   have d9:¬(N.size:Int)≤9:=by omega
   have pd:∀w,Calls Tryz.prog 72 #[.string N] w fun e w'=>e=.returned (.tuple #[.string D,.int .i64 (dgE x)])∧Below w.heap.size w w':=fun w=>by rw [←hN,←hD];exact zeB (S x) x rfl w (by rw [zao];omega)
   have HP:=Lib.hid pd
   have HE : Hid (N.extract 0 9 ++ ⟨#[60]⟩ = S (x.take 9 ++ [60]) ∧ N.extract 9 N.size ++ D ++ ⟨#[60]⟩ = S (x.drop 9 ++ dgL x ++ [60])) := Lib.hid ⟨by
    rw [←hN,zbI];show S _++S [60]=_;rw [zaz];rfl,by
    rw [←hN,←hD,zbI,zao];show S _++S _++S [60]=_;rw [zaz,zaz,List.take_of_length_le (by rw [List.length_drop];omega)]⟩
   rw [hN]
   rw [←HE.out.1,←HE.out.2]
   clear hA hR hN hD pd HE h9
   go_enter Tryz.func69,Tryz.ntmps69
   go_wp2_with (go_at_call 72;((with_reducible refine (HP.out _).mono ?_);rintro e w5 ⟨rfl,hb⟩);have HB:=Lib.hid hb;clear hb)
   refine wp_region_quiet_below (by kernel_rfl) (by kernel_rfl) ?_
   repeat (first | go_big_quiet_skip | (go_big_quiet_want;go_big_quiet_op;go_big_quiet_on))
   refine wpQuiet_nil ?_
   intro w6 hw6
   have HB2:=Lib.hid (zaf HB.out (zag hw6))
   clear hw6
   go_wp2
   go_ret2
   exact ⟨rfl,HB2.out⟩
end Go.Proofs.YtnlhbknajdpnbaaGreatDoor
