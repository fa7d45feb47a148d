/-
  What is proved here: the program's table of tags; Tag, Group, isData and File of the program.
-/
import Derived.Test.YtnlhbknajdpnbaaGreatDoorF15
import Derived.Test.YtnlhbknajdpnbaaGreatDoorF36
import Derived.BigQuiet
import Derived.Test.YtnlhbknajdpnbaaGreatDoorF19
import Derived.Test.YtnlhbknajdpnbaaGreatDoorF8
set_option linter.unusedVariables false
set_option linter.unusedSimpArgs false
namespace Go.Proofs.YtnlhbknajdpnbaaGreatDoor
open Go.RowKit
set_option maxRecDepth 8000
def TabT (w:World):Prop:=0 < w.heap.size∧∀k:Nat,k < 18→w.cell? ⟨0,k,none⟩=some (.int .i64 (zbD.getD k 0))
theorem TabT.on {w w' : World} (h : TabT w) (hb : Below w.heap.size w w') : TabT w' :=
 ⟨Nat.lt_of_lt_of_le h.1 hb.size,fun k hk=>(hb.cell h.1).trans (h.2 k hk)⟩
theorem zgv {P : Program} {ops : Array Oper} {rest : List Oper} {o : Oper} {a : Act} {w : World} {Q : Exit → Act → World → Prop} (hgd : o.guard = none) (T : TypeId) (x y : Operand) (ho : o.op = .index T x y) {v vx vy : Value} (hx : a.eval x = vx) (hy : a.eval y = vy)
 (hr:(Instr.index T vx vy).run P w=.ok v w) (hK:wpList P ops Q rest (a.put o.dst v) w):wpList P ops Q (o::rest) a w:=wpList_plain hgd fun K hK2=>o_ixv T x y ho hx hy hr (hK2 _ _ hK)
def zfY:List Value:=zbD.map (Value.int .i64)
theorem TabT.row {w : World} (h : TabT w) : w.rangeAt 0 0 zfY := fun j v hv => by
 have hj:=(List.getElem?_eq_some_iff.1 hv).1
 have hj:j < 18:=by simpa [zfY,zbD] using hj
 rw [Nat.zero_add,h.2 j hj,←hv]
 unfold zfY
 rw [List.getElem?_map,tagsG_at j hj]
 rfl
theorem size_18:(Tryz.prog.info? 103).map (·.size)=some 18:=by kernel_rfl
theorem ix_tags {j : Nat} (hj : j < 18) (w : World) : (Instr.index 103 (.agg zfY.toArray) (.int .i64 (j : Int))).run Tryz.prog w = .ok (.int .i64 (zbD.getD j 0)) w := by
 obtain rfl | rfl | rfl | rfl | rfl | rfl | rfl | rfl | rfl | rfl | rfl | rfl | rfl | rfl | rfl | rfl | rfl | rfl:j=0∨j=1∨j=2∨j=3∨j=4∨j=5∨j=6∨j=7∨j=8∨j=9∨j=10∨j=11∨j=12∨j=13∨j=14∨j=15∨j=16∨j=17:=by omega
 all_goals kernel_rfl
set_option maxHeartbeats 1600000 in
theorem p_tag (n : Int) (w : World) (ht : TabT w) (hlo : -9223372036854775808 ≤ n) (hhi : n ≤ 9223372036854775807) :
 Calls Tryz.prog 33 #[.int .i64 n] w fun e w'=>e=.returned (.tuple #[.int .i64 (gtV n),.int .i64 (gtE n)])∧w'=w:=by
 by_cases h1:n < 1
 · have d1 : decide (n < 1) = true := by simpa using h1
   obtain ⟨e1,e2⟩:=gt_no (.inl h1)
   rw [e1,e2]
   clear e1 e2 ht h1 hlo hhi
   go_enter Tryz.func33,Tryz.ntmps33
   go_wp2
   go_ret2
   exact ⟨rfl,rfl⟩
 have d1:decide (n < 1)=false:=by simpa using h1
 by_cases h2:18 < n
 · have d2 : decide (18 < n) = true := by simpa using h2
   obtain ⟨e1,e2⟩:=gt_no (.inr h2)
   rw [e1,e2]
   clear e1 e2 ht h1 h2 hlo hhi
   go_enter Tryz.func33,Tryz.ntmps33
   go_wp2
   go_ret2
   exact ⟨rfl,rfl⟩
 have d2:decide (18 < n)=false:=by simpa using h2
 obtain ⟨k,hk⟩ : ∃k:Nat,n=(k:Int)+1:=⟨(n - 1).toNat,by omega⟩
 have hk18:k < 18:=by omega
 obtain ⟨e1,e2⟩:=gt_yes hk hk18
 rw [e1,e2]
 have c0:=ht.2 k hk18
 obtain ⟨z,hz⟩ : ∃z,zbD.getD k 0=z:=⟨_,rfl⟩
 rw [hz] at c0 ⊢
 have es:wrap64 (n - 1)=(k:Int):=by unfold wrap64;omega
 have dk:decide ((k:Int) < 18)=true:=by simp;omega
 clear e1 e2 ht h1 h2 hz hk hlo hhi
 go_enter Tryz.func33,Tryz.ntmps33
 go_wp2
 go_ret2
 exact ⟨rfl,rfl⟩
set_option maxHeartbeats 1600000 in
theorem p_group (t : Int) (w : World) (ht : TabT w) :
 Calls Tryz.prog 31 #[.int .i64 t] w fun e w'=>e=.returned (.tuple #[.int .i64 (ggR t).1,.int .i64 (ggR t).2])∧w'=w:=by
 have HR:=Lib.hid ht.row
 obtain ⟨R,hR⟩ : ∃z,ggR t=z:=⟨_,rfl⟩
 rw [hR]
 have HW:=Lib.hid (show ggF t (zbD.drop 0) ((0:Nat):Int)=R from hR)
 have HIX:=Lib.hid (show ∀j:Nat,j < 18→∀w:World,(Instr.index 103 (.agg zfY.toArray) (.int .i64 (j:Int))).run Tryz.prog w=.ok (.int .i64 (zbD.getD j 0)) w from fun j hj w=>ix_tags hj w)
 have HSZ:=Lib.hid (show (Tryz.prog.info? 103).map (·.size)=some zfY.length from size_18)
 obtain ⟨tv,htv⟩ : ∃z,zfY=z:=⟨_,rfl⟩
 rw [htv] at HR HIX HSZ
 clear ht hR htv
 go_enter Tryz.func31,Tryz.ntmps31
 go_wp2_with (first
  | ((with_reducible refine zaa (d:=6) ?_);go_must (refine wpList_load_mid rfl 103 _ rfl 0 0 rfl tv _ HR.out Tryz.underlying103 rfl HSZ.out ?_)))
 go_loop [7] (fun i=>∃k:Nat,k≤18∧i=.int .i64 (k:Int)∧Hid (ggF t (zbD.drop k) (k:Int)=R)) (fun i=>18 - (intOf i).toNat)
 case atStart=>exact ⟨0,by omega,rfl,HW⟩
 case round =>
  obtain ⟨k,hk,rfl,HQ⟩:=hrel
  by_cases hlt:k < 18
  · have dk : decide ((k : Int) < 18) = true := by simp; omega
    have hst:=ggF_at (t:=t) hlt
    rw [HQ.out] at hst
    have hix:=HIX.out k hlt
    obtain ⟨z,hz⟩ : ∃z,zbD.getD k 0=z:=⟨_,rfl⟩
    rw [hz] at hst hix
    have HJ:=Lib.hid hix
    have ea:wrap64 ((k:Int)+1)=((k+1:Nat):Int):=by unfold wrap64;omega
    by_cases he:z=t
    · have de : (z == t) = true := by simpa using he
      rw [if_pos he] at hst
      have HE:=Lib.hid hst
      clear hst he hz hix
      go_wp2_with (first
       | ((with_reducible refine zal (d:=10) ?_);go_must (refine zgv rfl _ _ _ rfl rfl rfl (HJ.out _) ?_)))
      go_ret2
      exact ⟨by rw [HE.out];simp [ea],rfl⟩
    · have de : (z == t) = false := by simpa using he
      rw [if_neg he] at hst
      have HE:=Lib.hid hst.symm
      clear hst he hz hix
      go_wp2_with (first
       | ((with_reducible refine zal (d:=10) ?_);go_must (refine zgv rfl _ _ _ rfl rfl rfl (HJ.out _) ?_)))
      go_round
      case rel=>exact ⟨k+1,by omega,by first | rfl | go_num,HE⟩
      case measure=>simp [intOf];omega
  · obtain rfl : k = 18 := by omega
    have hr:R=(0,4):=HQ.out.symm
    subst hr
    go_wp2
    go_ret2
    exact ⟨rfl,rfl⟩
def isdB (n:Int):Bool:=decide (1≤n) && decide (n≤16)
theorem isd_yes {n:Int} (h:1≤n∧n≤16):isdB n=true:=by unfold isdB;simp [h.1,h.2]
theorem isd_no {n : Int} (h : ¬ (1 ≤ n ∧ n ≤ 16)) : isdB n = false := by
 unfold isdB
 by_cases h1:1≤n
 · have h2 : ¬ n ≤ 16 := fun h2 => h ⟨h1, h2⟩
   simp only [decide_eq_true h1,decide_eq_false h2]
   rfl
 · simp only [decide_eq_false h1]
   rfl
set_option maxHeartbeats 1600000 in
theorem p_isdata (n : Int) (w : World) : Calls Tryz.prog 32 #[.int .i64 n] w fun e w' => e = .returned (.bool (isdB n)) ∧ w' = w := by
 by_cases h1:1≤n
 · have d1 : decide (1 ≤ n) = true := by simpa using h1
   have e1:isdB n=decide (n≤16):=by unfold isdB;rw [d1];rfl
   rw [e1]
   obtain ⟨b,hb⟩ : ∃b,decide (n≤16)=b:=⟨_,rfl⟩
   rw [hb]
   clear e1 h1
   cases b <;>
   · go_enter Tryz.func32, Tryz.ntmps32
     go_wp2
     go_ret
     exact ⟨rfl,rfl⟩
 · have d1 : decide (1 ≤ n) = false := by simpa using h1
   have e1:isdB n=false:=isd_no fun h=>h1 h.1
   rw [e1]
   clear e1 h1
   go_enter Tryz.func32,Tryz.ntmps32
   go_wp2
   go_ret
   exact ⟨rfl,rfl⟩
end Go.Proofs.YtnlhbknajdpnbaaGreatDoor
namespace Go.Proofs.YtnlhbknajdpnbaaGreatDoor
open Go.RowKit
set_option maxRecDepth 8000
def opG : F → Int × F × Int
 | .cons t _ k .nil=>if (ggR t).2=0 then ((ggR t).1,k,0) else (0,.nil,(ggR t).2)
 | _=>(0,.nil,1)
theorem opG_len {f : F} (h : f.len ≠ 1) : opG f = (0, .nil, 1) := by
 match f,h with
 | .nil,_=>rfl
 | .cons _ _ _ .nil,h=>exact absurd rfl h
 | .cons _ _ _ (.cons _ _ _ _),_=>rfl
def opX (l : List UInt8) : Int × F × Int := match zcu false l with
 | .error x=>(0,.nil,x)
 | .ok (f,_)=>opG f
def obX (l:List UInt8) (lo hi:Int):Int×F×Int:=if (opX l).2.2≠0 then (0,.nil,(opX l).2.2) else if (opX l).1 < lo∨hi < (opX l).1 then (0,.nil,4) else opX l
def OpnI15 (r:Int×F×Int) (w:World) (e:Ending) (w':World):Prop:=∃A c,e=.returned (.tuple #[.int .i64 r.1,.slice A r.2.1.len c,.int .i64 r.2.2])∧r.2.1.len≤c∧SeesN w' (newB w w') A r.2.1∧Below w.heap.size w w'
def OasIs (r:Int×F×Int) (w:World) (e:Ending) (w':World):Prop:=∃A c,e=.returned (.tuple #[.slice A r.2.1.len c,.int .i64 r.2.2])∧r.2.1.len≤c∧SeesN w' (newB w w') A r.2.1∧Below w.heap.size w w'
theorem OpnI15.bad {w u:World} (x:Int) (hb:Below w.heap.size w u):OpnI15 (0,.nil,x) w (.returned (.tuple #[.int .i64 0,.slice none 0 0,.int .i64 x])) u:=⟨none,0,rfl,Nat.le_refl _,SeesN.nil_,hb⟩
theorem SeesN.dn {w w':World} {A:Option Addr} {f:F} (h:SeesN w' (newB w w') A f) (q:Nat):SeesN (w'.drewN q) (newB w (w'.drewN q)) A f:=(SeesN.keep (w':=w'.drewN q) h fun _ _=>rfl).imp fun _ hb=>hb
set_option maxHeartbeats 1600000 in
theorem p_open15 (l : List UInt8) (n : Nat) (hn : l.length = n) (hm : n ≤ 140737488351232) (A : Option Addr) (cap : Nat) (hcap : n ≤ cap) (w : World) (ht : TabT w) (hs : SeesP w (· < w.heap.size) A (Us l)) :
 Calls Tryz.prog 11 #[.slice A n cap] w (OpnI15 (opX l) w):=by
 have hP:=tlv_parseC false l A cap w (by omega) (by omega) hs
 have HT:=Lib.hid ht
 rcases hr:zcu false l with x | ⟨f,q⟩
 · have e1 : opX l = (0, .nil, x) := by unfold opX; rw [hr]
   rw [hr,hn] at hP
   rw [e1]
   unfold ParIsC at hP
   have HP:=Lib.hid hP
   clear hP hr hs ht e1 hn hcap hm
   go_enter Tryz.func11,Tryz.ntmps11
   go_wp2_with fail
   refine HP.out.mono ?_
   rintro e w1 ⟨hb,rfl,hx⟩
   have d0:(x != 0)=true:=by simpa using hx
   have HB:=Lib.hid hb
   clear hb hx
   go_wp2_with fail
   go_ret3
   exact OpnI15.bad _ HB.out
 by_cases h1:f.len=1
 case neg =>
  have e1:opX l=(0,.nil,1):=by unfold opX;rw [hr];exact opG_len h1
  rw [hr,hn] at hP
  rw [e1]
  unfold ParIsC at hP
  obtain ⟨m,hm2⟩ : ∃m,f.len=m:=⟨_,rfl⟩
  simp only [hm2] at hP
  rw [hm2] at h1
  have d1:((m:Int) != 1)=true:=by simp;omega
  have HP:=Lib.hid hP
  clear hP hr hs ht e1 hn hcap hm h1 hm2
  go_enter Tryz.func11,Tryz.ntmps11
  go_wp2_with fail
  refine HP.out.mono ?_
  rintro e w1 ⟨hb,A2,c2,rfl,_⟩
  have HB:=Lib.hid hb
  clear hb
  go_wp2_with fail
  go_ret3
  exact OpnI15.bad _ HB.out
 case pos =>
 obtain ⟨t, v, k, rfl⟩ : ∃ t v k, f = .cons t v k .nil := by
  match f,h1 with
  | .cons a b d .nil,_=>exact ⟨a,b,d,rfl⟩
  | .cons a b d (.cons _ _ _ _),h=>simp [F.len] at h
 have e1:opX l=if (ggR t).2=0 then ((ggR t).1,k,0) else (0,.nil,(ggR t).2):=by unfold opX;rw [hr];rfl
 rw [hr,hn] at hP
 obtain ⟨lk,hlk⟩ : ∃z,k.len=z:=⟨_,rfl⟩
 have HP : Hid (Calls Tryz.prog 30 #[.slice A n cap, .bool false] w fun e w' => Below w.heap.size w w' ∧ ∃ b o c Ak ck, e = .returned (.tuple #[.slice (some ⟨b, o, none⟩) 1 c, .int .i64 0]) ∧ w'.cell? ⟨b, o, none⟩ = some (.int .i64 t) ∧ w'.cell? ⟨b, o + 2, none⟩ = some (.slice Ak lk ck) ∧ lk ≤ ck ∧ SeesN w' (newB w w') Ak k) := Lib.hid (hP.mono fun e w' ⟨hb, A2, c2, he, _, hk⟩ => by
  obtain ⟨b,o,Av,cv,Ak,ck,rfl,_,hlr,_,_,hkc,_,hkk⟩:=node_atN (j:=0) hk rfl
  rw [Nat.zero_mul,Nat.add_zero] at hlr
  rw [←hlk]
  exact ⟨hb,b,o,c2,Ak,ck,he,hlr 0 _ rfl,hlr 2 _ rfl,hkc,hkk⟩)
 have HG:=Lib.hid (fun (u:World) (hb:Below w.heap.size w u)=>p_group t u (HT.out.on hb))
 obtain ⟨gv,hgv⟩ : ∃z,(ggR t).1=z:=⟨_,rfl⟩
 obtain ⟨ge,hge⟩ : ∃z,(ggR t).2=z:=⟨_,rfl⟩
 rw [hgv,hge] at HG e1
 rw [e1]
 clear hP hr hs ht e1 hn hcap hm h1 hgv hge
 by_cases h0:ge=0
 · subst h0
   rw [if_pos rfl]
   have HK:=Lib.hid hlk
   clear hlk
   go_enter Tryz.func11,Tryz.ntmps11
   go_wp2_with (first
    | (go_at_call 30;((with_reducible refine HP.out.mono ?_);rintro e w1 ⟨hb,b,o,c,Ak,ck,rfl,x0,x2,hkc,hkk⟩);have HX:=Lib.hid (show Below w.heap.size w w1∧lk≤ck∧SeesN w1 (newB w w1) Ak k from ⟨hb,hkc,hkk⟩);clear hb hkc hkk)
    | (go_at_call 31;((with_reducible refine (HG.out _ HX.out.1).mono ?_);rintro e w2 ⟨rfl,hw1⟩);(have hw2:=hw1.symm;clear hw1;subst hw2)))
   have HD:=Lib.hid (show ∀q,OpnI15 (gv,k,0) w (.returned (.tuple #[.int .i64 gv,.slice Ak lk ck,.int .i64 0])) (w1.drewN q) from fun q=>⟨Ak,ck,by show _=Ending.returned (.tuple #[.int .i64 gv,.slice Ak k.len ck,.int .i64 0]);rw [HK.out],by show k.len≤ck;rw [HK.out];exact HX.out.2.1,HX.out.2.2.dn _,zbq HX.out.1 _⟩)
   go_quiet (fail)
   go_wp2_with fail
   go_ret3
   exact HD.out _
 · rw [if_neg h0]
   have d0:(ge != 0)=true:=by simpa using h0
   clear h0 hlk
   go_enter Tryz.func11,Tryz.ntmps11
   go_wp2_with (first
    | (go_at_call 30;((with_reducible refine HP.out.mono ?_);rintro e w1 ⟨hb,b,o,c,Ak,ck,rfl,x0,x2,hkc,hkk⟩);have HX:=Lib.hid hb;clear hb hkc hkk)
    | (go_at_call 31;((with_reducible refine (HG.out _ HX.out).mono ?_);rintro e w2 ⟨rfl,hw1⟩);(have hw2:=hw1.symm;clear hw1;subst hw2)))
   go_ret3
   exact OpnI15.bad _ HX.out
set_option maxHeartbeats 1600000 in
theorem p_openb (l : List UInt8) (n : Nat) (hn : l.length = n) (hm : n ≤ 140737488351232) (A : Option Addr) (cap : Nat) (hcap : n ≤ cap) (lo hi : Int) (w : World) (ht : TabT w) (hs : SeesP w (· < w.heap.size) A (Us l)) :
 Calls Tryz.prog 64 #[.slice A n cap,.int .i64 lo,.int .i64 hi] w (OpnI15 (obX l lo hi) w):=by
 have HP:=Lib.hid (p_open15 l n hn hm A cap hcap w ht hs)
 have hx:obX l lo hi=if (opX l).2.2≠0 then (0,.nil,(opX l).2.2) else if (opX l).1 < lo∨hi < (opX l).1 then (0,.nil,4) else opX l:=rfl
 rw [hx]
 obtain ⟨⟨v,f,er⟩,hr⟩ : ∃r,opX l=r:=⟨_,rfl⟩
 rw [hr] at HP ⊢
 unfold OpnI15 at HP
 simp only at HP ⊢
 obtain ⟨lk,hlk⟩ : ∃z,f.len=z:=⟨_,rfl⟩
 rw [hlk] at HP
 clear hr hx hs ht hcap hm hn
 by_cases h0:er=0
 case neg =>
  rw [if_pos h0]
  have d0:(er != 0)=true:=by simpa using h0
  clear h0 hlk
  go_enter Tryz.func64,Tryz.ntmps64
  go_wp2_with (first
   | (go_at_call 11;((with_reducible refine HP.out.mono ?_);rintro e w1 ⟨A1,c1,rfl,hc,hk,hb⟩);have HX:=Lib.hid hb;clear hb hc hk))
  go_ret3
  exact OpnI15.bad _ HX.out
 case pos =>
 rw [if_neg (by simpa using h0)]
 subst h0
 by_cases h1:v < lo
 · rw [if_pos (.inl h1)]
   have d1:decide (v < lo)=true:=by simpa using h1
   clear h1 hlk
   go_enter Tryz.func64,Tryz.ntmps64
   go_wp2_with (first
    | (go_at_call 11;((with_reducible refine HP.out.mono ?_);rintro e w1 ⟨A1,c1,rfl,hc,hk,hb⟩);have HX:=Lib.hid hb;clear hb hc hk))
   go_ret3
   exact OpnI15.bad _ HX.out
 have d1:decide (v < lo)=false:=by simpa using h1
 by_cases h2:hi < v
 · rw [if_pos (.inr h2)]
   have d2:decide (hi < v)=true:=by simpa using h2
   clear h1 h2 hlk
   go_enter Tryz.func64,Tryz.ntmps64
   go_wp2_with (first
    | (go_at_call 11;((with_reducible refine HP.out.mono ?_);rintro e w1 ⟨A1,c1,rfl,hc,hk,hb⟩);have HX:=Lib.hid hb;clear hb hc hk))
   go_ret3
   exact OpnI15.bad _ HX.out
 have d2:decide (hi < v)=false:=by simpa using h2
 rw [if_neg (fun h=>h.elim h1 h2)]
 have HK:=Lib.hid hlk
 clear h1 h2 hlk
 go_enter Tryz.func64,Tryz.ntmps64
 go_wp2_with (first
  | (go_at_call 11;((with_reducible refine HP.out.mono ?_);rintro e w1 ⟨A1,c1,rfl,hc,hk,hb⟩);have HX:=Lib.hid (show _∧_∧_ from ⟨hb,hc,hk⟩);clear hb hc hk))
 have HD:=Lib.hid (show OpnI15 (v,f,0) w (.returned (.tuple #[.int .i64 v,.slice A1 lk c1,.int .i64 0])) w1 from ⟨A1,c1,by show _=Ending.returned (.tuple #[.int .i64 v,.slice A1 f.len c1,.int .i64 0]);rw [HK.out],by show f.len≤c1;rw [HK.out];exact HX.out.2.1,HX.out.2.2,HX.out.1⟩)
 go_ret3
 exact HD.out
set_option maxHeartbeats 1600000 in
theorem p_opena (l : List UInt8) (n : Nat) (hn : l.length = n) (hm : n ≤ 140737488351232) (A : Option Addr) (cap : Nat) (hcap : n ≤ cap) (g : Int) (w : World) (ht : TabT w) (hs : SeesP w (· < w.heap.size) A (Us l)) :
 Calls Tryz.prog 36 #[.slice A n cap,.int .i64 g] w (OasIs (obX l g g) w):=by
 have HP:=Lib.hid (p_openb l n hn hm A cap hcap g g w ht hs)
 obtain ⟨⟨v,f,er⟩,hr⟩ : ∃r,obX l g g=r:=⟨_,rfl⟩
 rw [hr] at HP ⊢
 unfold OpnI15 at HP
 simp only at HP
 obtain ⟨lk,hlk⟩ : ∃z,f.len=z:=⟨_,rfl⟩
 rw [hlk] at HP
 have HK:=Lib.hid hlk
 clear hr hs ht hcap hm hn hlk
 go_enter Tryz.func36,Tryz.ntmps36
 go_wp2_with (first
  | (go_at_call 64;((with_reducible refine HP.out.mono ?_);rintro e w1 ⟨A1,c1,rfl,hc,hk,hb⟩);have HX:=Lib.hid (show _∧_∧_ from ⟨hb,hc,hk⟩);clear hb hc hk))
 have HD:=Lib.hid (show OasIs (v,f,er) w (.returned (.tuple #[.slice A1 lk c1,.int .i64 er])) w1 from ⟨A1,c1,by show _=Ending.returned (.tuple #[.slice A1 f.len c1,.int .i64 er]);rw [HK.out],by show f.len≤c1;rw [HK.out];exact HX.out.2.1,HX.out.2.2,HX.out.1⟩)
 go_ret2
 exact HD.out
end Go.Proofs.YtnlhbknajdpnbaaGreatDoor
namespace Go.Proofs.YtnlhbknajdpnbaaGreatDoor
open Go.RowKit
set_option maxRecDepth 8000
theorem zdb {P : Program} {ops : Array Oper} {rest : List Oper} {o : Oper} {a : Act} {w : World} {Q : Exit → Act → World → Prop} (hgd : o.guard = none) (t : TypeId) (parts : Array (Nat × Operand)) (ho : o.op = .build t parts) {ps : List (Nat × Value)} (hp : (parts.map fun (i, x) => (i, a.eval x)).toList = ps) {vs : Array Value} (hb : P.built t ps = some vs)
 (hK:wpList P ops Q rest (a.put o.dst (.agg vs)) w):wpList P ops Q (o::rest) a w :=
 wpList_plain hgd fun _ hK2=>o_bld t parts ho hp (vs:=vs.toList) (by rw [Array.toArray_toList];exact hb) (by rw [Array.toArray_toList];exact hK2 _ _ hK)
theorem pe02 {a:Act} {x0 x1:Operand} {u0 u1:Value} (h0:a.eval x0=u0) (h1:a.eval x1=u1):((#[(0,x0),(2,x1)]:Array (Nat×Operand)).map fun (i,x)=>(i,a.eval x)).toList=[(0,u0),(2,u1)]:=by simp [h0,h1]
theorem pe01 {a:Act} {x0 x1:Operand} {u0 u1:Value} (h0:a.eval x0=u0) (h1:a.eval x1=u1):((#[(0,x0),(1,x1)]:Array (Nat×Operand)).map fun (i,x)=>(i,a.eval x)).toList=[(0,u0),(1,u1)]:=by simp [h0,h1]
theorem bldN02 (t:Int) (A:Option Addr) (n c:Nat):Tryz.prog.built 64 [(0,.int .i64 t),(2,.slice A n c)]=some #[.int .i64 t,.slice none 0 0,.slice A n c]:=by kernel_rfl
theorem bldN01 (t:Int) (A:Option Addr) (n c:Nat):Tryz.prog.built 64 [(0,.int .i64 t),(1,.slice A n c)]=some #[.int .i64 t,.slice A n c,.slice none 0 0]:=by kernel_rfl
theorem wrF_seesF {w : World} {g : Nat} {n : Int} {f : F} {A : Option Addr} {ck : Nat} (hr : RowV w g [.int .i64 (gtV n), .slice none 0 0, .slice A f.len ck]) (hs : SeesF w (· < w.heap.size) A f) : SeesF w (· < w.heap.size) (some ⟨g, 0, none⟩) (wrF n f) := by
 obtain ⟨ks,k1,k2⟩:=hs
 exact ⟨_,.inr ⟨g,0,rfl,hr.lt,fun j hj=>by rw [Nat.zero_add,hr.cell];rfl⟩,none,0,A,ck,ks,[],rfl,fun _=>rfl,.inl rfl,k1,k2,rfl⟩
def GivesV (w:World) (bs:List UInt8) (er:Int) (e:Ending) (w':World):Prop:=∃A c,e=.returned (.tuple #[.slice A bs.length c,.int .i64 er])∧SeesP w' (· < w'.heap.size) A (Us bs)∧Below w.heap.size w w'∧bs.length≤c
theorem GivesV.fail {w u : World} (x : Int) (hb : Below w.heap.size w u) {l : List UInt8} {y : Int} (h1 : l = []) (h2 : y = x) : GivesV w l y (.returned (.tuple #[.slice none 0 0, .int .i64 x])) u := by
 subst h1 h2
 exact ⟨none,0,rfl,.inl rfl,hb,Nat.le_refl _⟩
set_option maxHeartbeats 1600000 in
theorem p_wrap (n : Int) (f : F) (lk : Nat) (hlk : f.len = lk) (A : Option Addr) (c : Nat) (w : World) (ht : TabT w) (hlo : -9223372036854775808 ≤ n) (hhi : n ≤ 9223372036854775807) (hsz : f.size < 1125899906842620) (hok : f.ok) (hs : SeesF w (· < w.heap.size) A f) :
 Calls Tryz.prog 34 #[.int .i64 n,.slice A lk c] w (GivesV w (wrB n f) (wrE n f)):=by
 have HG:=Lib.hid (p_tag n w ht hlo hhi)
 have HS:=Lib.hid (show _∧_ from ⟨hs,hlk⟩)
 have HE:Hid (∀(A:Option Addr) (c:Nat) (w:World),SeesF w (· < w.heap.size) A (wrF n f)→Calls Tryz.prog 63 #[.slice A 1 c] w (GivesV w (encB (wrF n f)) (encE (wrF n f)))):=Lib.hid (fun A c w h=>tlv_encode_c (wrF n f) A c w (by rw [wrF_size];omega) (wrF_ok hok) h)
 have HW:=Lib.hid (fun (g:Nat) (u:World) (ck:Nat) (h1:RowV u g [.int .i64 (gtV n),.slice none 0 0,.slice A f.len ck]) (h2:SeesF u (· < u.heap.size) A f)=>wrF_seesF h1 h2)
 have hb1:wrB n f=if gtE n=0 then encB (wrF n f) else []:=rfl
 have hb2:wrE n f=if gtE n=0 then encE (wrF n f) else gtE n:=rfl
 obtain ⟨W,hWr⟩ : ∃z,wrF n f=z:=⟨_,rfl⟩
 rw [hWr] at HE HW hb1 hb2
 obtain ⟨tv,htv⟩ : ∃z,gtV n=z:=⟨_,rfl⟩
 obtain ⟨te,hte⟩ : ∃z,gtE n=z:=⟨_,rfl⟩
 rw [htv] at HG HW
 rw [hte] at HG hb1 hb2
 unfold GivesV at HE
 by_cases h0:te=0
 · have d0 : (te != 0) = false := by simpa using h0
   rw [if_pos h0] at hb1 hb2
   have HF:=Lib.hid (show wrB n f=encB W∧wrE n f=encE W from ⟨hb1,hb2⟩)
   subst h0
   clear hb1 hb2 hWr htv hte ht hs hlk hsz hok hlo hhi
   go_enter Tryz.func34,Tryz.ntmps34
   go_wp2_with (first
    | (go_at_call 33;((with_reducible refine HG.out.mono ?_);rintro e w1 ⟨rfl,hw1⟩);(have hw2:=hw1.symm;clear hw1;subst hw2))
    | ((with_reducible refine zal (d:=18) ?_);go_must (refine zdb rfl 64 _ rfl (pe02 rfl rfl) (bldN02 _ _ _ _) ?_))
    | ((with_reducible refine zal (d:=19) ?_);go_must (refine zap rfl 30 64 1 _ rfl Tryz.underlying30 (pe1 rfl) (bs1 _ _ _) ?_);intro g5 w3 hf hr;have H3:=Lib.hid (show Below w.heap.size w w3∧SeesF w3 (· < w3.heap.size) (some ⟨g5,0,none⟩) W from ⟨hf.bw,HW.out g5 w3 c (by rw [HS.out.2];exact hr) (HS.out.1.on hf.bw)⟩);clear hf hr)
    | (go_at_call 63;((with_reducible refine (HE.out _ _ _ H3.out.2).mono ?_);rintro e w4 ⟨A4,c4,rfl,h1,h2⟩);have H4:=Lib.hid (show _∧_ from ⟨h1,h2⟩);clear h1 h2))
   have HD := Lib.hid (show GivesV w (wrB n f) (wrE n f) (.returned (.tuple #[.slice A4 (encB W).length c4, .int .i64 (encE W)])) w4 from by
    rw [HF.out.1,HF.out.2]
    exact ⟨A4,c4,rfl,H4.out.1,zaf H3.out.1 H4.out.2.1,H4.out.2.2⟩)
   go_ret2
   exact HD.out
 · have d0 : (te != 0) = true := by simpa using h0
   rw [if_neg h0] at hb1 hb2
   have HD:=Lib.hid (show GivesV w (wrB n f) (wrE n f) (.returned (.tuple #[.slice none 0 0,.int .i64 te])) w from GivesV.fail te (Below.refl _ _) hb1 hb2)
   clear hb1 hb2 hWr htv hte ht hs hlk hsz hok h0 hlo hhi HE HW
   go_enter Tryz.func34,Tryz.ntmps34
   go_wp2_with (first
    | (go_at_call 33;((with_reducible refine HG.out.mono ?_);rintro e w1 ⟨rfl,hw1⟩);(have hw2:=hw1.symm;clear hw1;subst hw2)))
   go_ret2
   exact HD.out
def CobIs (w : World) (A : Option Addr) (n c : Nat) (e : Ending) (w' : World) : Prop := ∃ g g1 g2, e = .returned (.slice (some ⟨g, 0, none⟩) 3 3) ∧ Below w.heap.size w w' ∧ w.heap.size ≤ g ∧
 RowV w' g [.int .i64 24321,.slice (some ⟨g1,0,none⟩) 4 4,.slice none 0 0,.int .i64 24374,.slice (some ⟨g2,0,none⟩) 6 6,.slice none 0 0,.int .i64 92,.slice A n c,.slice none 0 0] ∧
 SeesP w' (· < w'.heap.size) (some ⟨g1,0,none⟩) (Us zdJ)∧SeesP w' (· < w'.heap.size) (some ⟨g2,0,none⟩) (Us zdQ)
set_option maxHeartbeats 1600000 in
theorem p_cobj (A : Option Addr) (n c : Nat) (w : World) : Calls Tryz.prog 35 #[.slice A n c] w (CobIs w A n c) := by
 have HB:=Lib.hid (Below.refl w.heap.size w)
 go_enter Tryz.func35,Tryz.ntmps35
 go_wp2_with (first
  | ((with_reducible refine zal (d:=3) ?_);go_must (refine zap rfl 27 5 4 _ rfl Tryz.underlying27 (pvv4 rfl rfl rfl rfl) bs0108 ?_);intro g1 wa hf hr;have Ha:=Lib.hid (show Below w.heap.size w wa∧RowV wa g1 (Us zdJ)∧w.heap.size≤g1 from ⟨hf.bw,hr,Nat.le_of_eq hf.1.symm⟩);clear hf hr)
  | ((with_reducible refine zal (d:=4) ?_);go_must (refine zeZ rfl (.tmp 3) rfl g1 4 rfl Ha.out.2.1 ?_);intro w1 hw hs;have H1:=Lib.hid (show Below w.heap.size w w1∧SeesP w1 (· < w1.heap.size) (some ⟨g1,0,none⟩) (Us zdJ) from ⟨Wr.bl Ha.out.1 hw Ha.out.2.2,hs.imp fun b hb=>by subst hb;rw [hw.2.2.2.1];exact Ha.out.2.1.lt⟩);clear hw hs)
  | ((with_reducible refine zal (d:=5) ?_);go_must (refine zdb rfl 64 _ rfl (pe01 rfl rfl) (bldN01 _ _ _ _) ?_))
  | ((with_reducible refine zal (d:=6) ?_);go_must (refine zap rfl 27 5 6 _ rfl Tryz.underlying27 (pvv6 rfl rfl rfl rfl rfl rfl) bs0400 ?_);intro g3 wc hf hr;have Hc:=Lib.hid (show Below w.heap.size w wc∧RowV wc g3 (Us zdQ)∧w.heap.size≤g3∧w1.heap.size≤g3∧Below w1.heap.size w1 wc from ⟨zaf H1.out.1 hf.bw,hr,Nat.le_trans H1.out.1.size (Nat.le_of_eq hf.1.symm),Nat.le_of_eq hf.1.symm,hf.bw⟩);clear hf hr)
  | ((with_reducible refine zal (d:=7) ?_);go_must (refine zeZ rfl (.tmp 6) rfl g3 6 rfl Hc.out.2.1 ?_);intro w3 hw hs;have H3:=Lib.hid (show Below w.heap.size w w3∧SeesP w3 (· < w3.heap.size) (some ⟨g1,0,none⟩) (Us zdJ)∧SeesP w3 (· < w3.heap.size) (some ⟨g3,0,none⟩) (Us zdQ) from ⟨Wr.bl Hc.out.1 hw Hc.out.2.2.1,SeesP.on2 H1.out.2 (Wr.bl Hc.out.2.2.2.2 hw Hc.out.2.2.2.1),hs.imp fun b hb=>by subst hb;rw [hw.2.2.2.1];exact Hc.out.2.1.lt⟩);clear hw hs)
  | ((with_reducible refine zal (d:=8) ?_);go_must (refine zdb rfl 64 _ rfl (pe01 rfl rfl) (bldN01 _ _ _ _) ?_))
  | ((with_reducible refine zal (d:=10) ?_);go_must (refine zdb rfl 64 _ rfl (pe01 rfl rfl) (bldN01 _ _ _ _) ?_))
  | ((with_reducible refine zal (d:=11) ?_);go_must (refine zap rfl 30 64 3 _ rfl Tryz.underlying30 (pvv3 rfl rfl rfl) (bs3n _ _ _ _ _ _ _ _ _) ?_);intro g6 w6 hf hr;have H6:=Lib.hid (show Below w.heap.size w w6∧w.heap.size≤g6∧RowV w6 g6 [.int .i64 24321,.slice (some ⟨g1,0,none⟩) 4 4,.slice none 0 0,.int .i64 24374,.slice (some ⟨g3,0,none⟩) 6 6,.slice none 0 0,.int .i64 92,.slice A n c,.slice none 0 0]∧SeesP w6 (· < w6.heap.size) (some ⟨g1,0,none⟩) (Us zdJ)∧SeesP w6 (· < w6.heap.size) (some ⟨g3,0,none⟩) (Us zdQ) from ⟨zaf H3.out.1 hf.bw,Nat.le_trans H3.out.1.size (Nat.le_of_eq hf.1.symm),hr,SeesP.on2 H3.out.2.1 hf.bw,SeesP.on2 H3.out.2.2 hf.bw⟩);clear hf hr))
 go_ret
 exact ⟨g6,g1,g3,rfl,H6.out⟩
theorem three_seesF {w : World} {g : Nat} {t1 t2 t3 : Int} {v1 v2 v3 : List UInt8} {A1 A2 A3 : Option Addr} {c1 c2 c3 n1 n2 n3 : Nat} (e1 : v1.length = n1) (e2 : v2.length = n2) (e3 : v3.length = n3)
 (hr:RowV w g [.int .i64 t1,.slice A1 n1 c1,.slice none 0 0,.int .i64 t2,.slice A2 n2 c2,.slice none 0 0,.int .i64 t3,.slice A3 n3 c3,.slice none 0 0])
 (h1:SeesP w (· < w.heap.size) A1 (Us v1)∧(A1=none→c1=0)) (h2:SeesP w (· < w.heap.size) A2 (Us v2)∧(A2=none→c2=0)) (h3:SeesP w (· < w.heap.size) A3 (Us v3)∧(A3=none→c3=0)) :
 SeesF w (· < w.heap.size) (some ⟨g,0,none⟩) (.cons t1 v1 .nil (.cons t2 v2 .nil (.cons t3 v3 .nil .nil))):=by
 subst e1 e2 e3
 refine ⟨_,.inr ⟨g,0,rfl,hr.lt,fun j hj=>by rw [Nat.zero_add];exact hr.cell j⟩,A1,c1,none,0,[],[.int .i64 t2,.slice A2 v2.length c2,.slice none 0 0,.int .i64 t3,.slice A3 v3.length c3,.slice none 0 0],rfl,h1.2,h1.1,.inl rfl,rfl,?_⟩
 refine ⟨A2,c2,none,0,[],[.int .i64 t3,.slice A3 v3.length c3,.slice none 0 0],rfl,h2.2,h2.1,.inl rfl,rfl,?_⟩
 exact ⟨A3,c3,none,0,[],[],rfl,h3.2,h3.1,.inl rfl,rfl,rfl⟩
set_option maxHeartbeats 3200000 in
set_option maxRecDepth 20000 in
theorem p_common (o : List Int) (n : Nat) (hn : o.length = n) (hm : n ≤ 140737488351232) (A : Option Addr) (c : Nat) (w : World) (ht : TabT w) (hrg : ∀ x ∈ o, -9223372036854775808 ≤ x ∧ x ≤ 9223372036854775807) (hs : SeesP w (· < w.heap.size) A (o.map (Value.int .i64))) :
 Calls Tryz.prog 13 #[.slice A n c] w (GivesV w (cmB o) (cmE o)):=by
 obtain ⟨i0,hi,hz0,hz1,hz2⟩:=info_parts zaW
 have HT:=Lib.hid ht
 have HRG:=Lib.hid hrg
 have HS:=Lib.hid (show _∧_ from ⟨hs,hn⟩)
 have HG:=Lib.hid (show ∀x,coE 0 o=x→x≠0→∀u,Below w.heap.size w u→GivesV w (cmB o) (cmE o) (.returned (.tuple #[.slice none 0 0,.int .i64 x])) u from fun x hx h0 u hb=>GivesV.fail x hb (by unfold cmB;rw [hx,if_neg h0]) (by unfold cmE;rw [hx,if_neg h0]))
 clear hs hn ht hrg
 go_enter Tryz.func13,Tryz.ntmps13
 go_wp2_with fail
 go_loopw [4,11] (fun v i wr=>∃(j:Nat) (lv:Int),j≤n∧i=.int .i64 (j:Int)∧Hid (HeldB w wr v ((o.take j).map tgB)∧Below w.heap.size w wr∧coE 0 o=coE lv (o.drop j)∧(j:Int)≤lv∧lv≤16∧(j=0→lv=0)∧∀k,j=k+1→o[k]? = some lv)) (fun _ i _=>n - (intOf i).toNat)
 case atStart=>exact ⟨0,0,by omega,rfl,Lib.hid ⟨HeldB.start w,Below.refl _ _,rfl,by omega,by omega,fun _=>rfl,fun k hk=>by omega⟩⟩
 case round =>
  obtain ⟨j,lv,hj,rfl,HR⟩:=hrel
  by_cases hlt:j < n
  · have dj : decide ((j : Int) < (n : Int)) = true := by simp; omega
    obtain ⟨g,hg⟩ : ∃g,o[j]? = some g:=⟨_,List.getElem?_eq_getElem (by rw [HS.out.2];exact hlt)⟩
    obtain ⟨b,off,rfl,hb,hc⟩:=int_atV HS.out.1 hg
    have c1:wr.cell? ⟨b,off+j,none⟩=some (.int .i64 g):=(HR.out.2.1.cell hb).trans hc
    have hst:=coE_at hg lv
    rw [←HR.out.2.2.1] at hst
    have hmap:=map_snoc hg
    have HI:=Lib.hid (fun u=>p_isdata g u)
    have HGR:=Lib.hid (HRG.out g (List.mem_of_getElem? hg))
    have HGG:=Lib.hid hg
    clear hb hc hg
    by_cases h1:¬(1≤g∧g≤16)
    · rw [isd_no h1] at HI
      rw [if_pos (by omega)] at hst
      have HD:=Lib.hid (HG.out 3 hst (by decide) _ HR.out.2.1)
      clear hst hmap h1
      go_wp2_with (first
       | (go_at_call 32;((with_reducible refine (HI.out _).mono ?_);rintro e w1 ⟨rfl,hw1⟩);(have hw2:=hw1.symm;clear hw1;subst hw2)))
      go_ret2
      exact HD.out
    have h1:=Decidable.not_not.1 h1
    rw [isd_yes h1] at HI
    rw [if_neg (by omega)] at hst
    obtain ⟨k,hk⟩ : ∃k:Nat,g=(k:Int)+1:=⟨(g - 1).toNat,by omega⟩
    have hk18:k < 18:=by omega
    obtain ⟨hgt,hge⟩:=gt_yes hk hk18
    have hbd:=tagsG_bd k hk18
    obtain ⟨zn,hzn⟩ : ∃zn:Nat,zbD.getD k 0=(zn:Int):=⟨(zbD.getD k 0).toNat,by omega⟩
    rw [hzn] at hgt
    have htb:tgB g=UInt8.ofNat zn:=by unfold tgB;rw [hgt];rfl
    rw [htb] at hmap
    have HTG:=Lib.hid (p_tag g wr (HT.out.on HR.out.2.1) HGR.out.1 HGR.out.2)
    rw [hgt,hge] at HTG
    obtain ⟨M,hM⟩ : ∃z,(o.take j).map tgB=z:=⟨_,rfl⟩
    have hMl:M.length=j:=by rw [←hM,List.length_map,List.length_take,HS.out.2];omega
    rw [hM] at HR hmap
    have HN:=Lib.hid (show M.length=j∧j≤16 from ⟨hMl,by have:=HR.out.2.2.2;omega⟩)
    have hcase : (j = 0 ∧ lv = 0) ∨ ∃ k0, j = k0 + 1 ∧ wr.cell? ⟨b, off + k0, none⟩ = some (.int .i64 lv) := by
     rcases j with _ | k0
     · exact .inl ⟨rfl,HR.out.2.2.2.2.2.1 rfl⟩
     · refine .inr ⟨k0, rfl, ?_⟩
       obtain ⟨b2,off2,e2,hb2,hc2⟩:=int_atV HS.out.1 (HR.out.2.2.2.2.2.2 k0 rfl)
       injection e2 with e2
       injection e2 with e3 e4
       subst e3 e4
       exact (HR.out.2.1.cell hb2).trans hc2
    by_cases h3:g≤lv
    · have d3 : decide (g ≤ lv) = true := by simpa using h3
      rw [if_pos h3] at hst
      have HD:=Lib.hid (HG.out 17 hst (by decide) _ HR.out.2.1)
      rcases hcase with ⟨e1,e2⟩ | ⟨k0,e1,c2⟩
      · omega
      have dp:0 < j:=by omega
      have hjn:¬j=0:=by omega
      have c3:=c2
      rw [show k0=j - 1 by omega] at c3
      clear c2
      have es:wrap64 ((j:Int) - 1)=(k0:Int):=by unfold wrap64;omega
      have hkn:k0 < n:=by omega
      clear hst hmap h1 h3 hk hgt hge hbd hzn htb hM hMl e1
      go_wp2_with (first
       | (go_at_call 32;((with_reducible refine (HI.out _).mono ?_);rintro e w1 ⟨rfl,hw1⟩);(have hw2:=hw1.symm;clear hw1;subst hw2)))
      go_ret2
      exact HD.out
    have d3:decide (g≤lv)=false:=by simpa using h3
    rw [if_neg h3] at hst
    have HST:=Lib.hid (show (o.take (j+1)).map tgB=M++[UInt8.ofNat zn]∧coE 0 o=coE g (o.drop (j+1))∧((j+1:Nat):Int)≤g∧g≤16∧(j+1=0→g=0)∧∀k,j+1=k+1→o[k]? = some g from ⟨hmap,hst,by have:=HR.out.2.2.2;omega,by omega,fun h=>by omega,fun k hk=>by injection hk with hk;subst hk;exact HGG.out⟩)
    rcases hcase with ⟨e1,e2⟩ | ⟨k0,e1,c2⟩
    · have dp : ¬ 0 < j := by omega
      have hjn:j=0:=by omega
      clear hst hmap h1 h3 hk hgt hge hbd hzn htb hM hMl e1 e2 hjn
      go_wp2_with (first
       | (go_at_call 32;((with_reducible refine (HI.out _).mono ?_);rintro e w1 ⟨rfl,hw1⟩);(have hw2:=hw1.symm;clear hw1;subst hw2))
       | (go_at_call 33;((with_reducible refine HTG.out.mono ?_);rintro e w1 ⟨rfl,hw1⟩);(have hw2:=hw1.symm;clear hw1;subst hw2))
       | ((with_reducible refine zal (d:=37) ?_);go_must (refine zbJ rfl 3 5 (.tmp 36) rfl rfl (zeL zn _) ?_))
       | ((with_reducible refine zal (d:=38) ?_);go_must (refine zap rfl 27 5 1 _ rfl Tryz.underlying27 (pe1 rfl) (bsu1 _) ?_);intro g9 wf hf hr;have H9:=Lib.hid (show Below wr.heap.size wr wf∧RowV wf g9 (Us [UInt8.ofNat zn]) from ⟨hf.bw,hr⟩);clear hf hr)
       | ((with_reducible refine zaS (d:=39) ?_);have HO:=HR.out.1;unfold HeldB at HO;rw [HN.out.1] at HO;go_must (refine wpList_append_lies _ rfl (.tmp 35) (.tmp 38) 27 rfl w.heap.size 5 i0 _ 1 1 Tryz.underlying27 hi hz0 hz1 hz2 rfl (by decide) u4 j (Us M) rfl (zaI HO H9.out.1) ⟨g9,0,none⟩ 1 1 (Us [UInt8.ofNat zn]) rfl rfl (RowV.src H9.out.2) (zcE _) (by decide) (by have:=HN.out.2;unfold maxLen;omega) (by have:=HN.out.2;omega) (Nat.le_trans HR.out.2.1.size H9.out.1.size) _ rfl ?_);intro g10 c10 wg ho hg hl hltg;have H10:=Lib.hid (show HeldB w wg (.slice (some ⟨g10,0,none⟩) (j+1) c10) (M++[UInt8.ofNat zn])∧Below w.heap.size w wg from ⟨by unfold HeldB;rw [zaP,List.length_append,HN.out.1];exact ho,zbo (zaf HR.out.2.1 H9.out.1) hg fun k e=>(zas HO k e).1⟩);clear ho hg hl hltg HO))
      go_roundw
      case rel=>exact ⟨j+1,g,by omega,by first | rfl | go_num,Lib.hid ⟨by rw [HST.out.1];exact H10.out.1,H10.out.2,HST.out.2⟩⟩
      case measure=>simp [intOf];omega
    · have dp : 0 < j := by omega
      have hjn:¬j=0:=by omega
      have c3:=c2
      rw [show k0=j - 1 by omega] at c3
      clear c2
      have es:wrap64 ((j:Int) - 1)=(k0:Int):=by unfold wrap64;omega
      have hkn:k0 < n:=by omega
      clear hst hmap h1 h3 hk hgt hge hbd hzn htb hM hMl e1
      go_wp2_with (first
       | (go_at_call 32;((with_reducible refine (HI.out _).mono ?_);rintro e w1 ⟨rfl,hw1⟩);(have hw2:=hw1.symm;clear hw1;subst hw2))
       | (go_at_call 33;((with_reducible refine HTG.out.mono ?_);rintro e w1 ⟨rfl,hw1⟩);(have hw2:=hw1.symm;clear hw1;subst hw2))
       | ((with_reducible refine zal (d:=37) ?_);go_must (refine zbJ rfl 3 5 (.tmp 36) rfl rfl (zeL zn _) ?_))
       | ((with_reducible refine zal (d:=38) ?_);go_must (refine zap rfl 27 5 1 _ rfl Tryz.underlying27 (pe1 rfl) (bsu1 _) ?_);intro g9 wf hf hr;have H9:=Lib.hid (show Below wr.heap.size wr wf∧RowV wf g9 (Us [UInt8.ofNat zn]) from ⟨hf.bw,hr⟩);clear hf hr)
       | ((with_reducible refine zaS (d:=39) ?_);have HO:=HR.out.1;unfold HeldB at HO;rw [HN.out.1] at HO;go_must (refine wpList_append_lies _ rfl (.tmp 35) (.tmp 38) 27 rfl w.heap.size 5 i0 _ 1 1 Tryz.underlying27 hi hz0 hz1 hz2 rfl (by decide) u4 j (Us M) rfl (zaI HO H9.out.1) ⟨g9,0,none⟩ 1 1 (Us [UInt8.ofNat zn]) rfl rfl (RowV.src H9.out.2) (zcE _) (by decide) (by have:=HN.out.2;unfold maxLen;omega) (by have:=HN.out.2;omega) (Nat.le_trans HR.out.2.1.size H9.out.1.size) _ rfl ?_);intro g10 c10 wg ho hg hl hltg;have H10:=Lib.hid (show HeldB w wg (.slice (some ⟨g10,0,none⟩) (j+1) c10) (M++[UInt8.ofNat zn])∧Below w.heap.size w wg from ⟨by unfold HeldB;rw [zaP,List.length_append,HN.out.1];exact ho,zbo (zaf HR.out.2.1 H9.out.1) hg fun k e=>(zas HO k e).1⟩);clear ho hg hl hltg HO))
      go_roundw
      case rel=>exact ⟨j+1,g,by omega,by first | rfl | go_num,Lib.hid ⟨by rw [HST.out.1];exact H10.out.1,H10.out.2,HST.out.2⟩⟩
      case measure=>simp [intOf];omega
  · obtain rfl : j = n := by omega
    have dj:decide ((j:Int) < (j:Int))=false:=by simp
    have hh:=HR.out.1
    rw [List.take_of_length_le (by rw [HS.out.2];exact Nat.le_refl _)] at hh
    unfold HeldB at hh
    rw [List.length_map,HS.out.2] at hh
    obtain ⟨A3,c3,hv,hc3,hs3⟩:=zde hh
    subst hv
    have h0 : coE 0 o = 0 := by
     rw [HR.out.2.2.1,List.drop_eq_nil_of_le (by rw [HS.out.2];exact Nat.le_refl _)]
     rfl
    have hj16:j≤16:=by have:=HR.out.2.2.2;omega
    have HB:=Lib.hid (show Below w.heap.size w wr∧SeesP wr (· < wr.heap.size) A3 (Us (o.map tgB))∧(A3=none→c3=0) from ⟨HR.out.2.1,hs3.imp zdD,hc3.1⟩)
    have HL:=Lib.hid (show (o.map tgB).length=j from by rw [List.length_map];exact HS.out.2)
    have HWR := Lib.hid (show ∀ (X : Option Addr) (cx : Nat) (u : World), Below w.heap.size w u → SeesF u (· < u.heap.size) X (coF o) → Calls Tryz.prog 34 #[.int .i64 17, .slice X 3 cx] u (GivesV u (cmB o) (cmE o)) from fun X cx u hb hx => by
     have e1:cmB o=wrB 17 (coF o):=by unfold cmB;rw [if_pos h0]
     have e2:cmE o=wrE 17 (coF o):=by unfold cmE;rw [if_pos h0]
     rw [e1,e2]
     exact p_wrap 17 (coF o) 3 rfl X cx u (HT.out.on hb) (by decide) (by decide) (by rw [coF_size];decide) (coF_ok o (by rw [HS.out.2];exact hj16)) hx)
    have HF:Hid (coF o=.cons 24321 zdJ .nil (.cons 24374 zdQ .nil (.cons 92 (o.map tgB) .nil .nil))):=Lib.hid rfl
    have HC:=Lib.hid (fun u=>p_cobj A3 j c3 u)
    unfold CobIs at HC
    obtain ⟨bs,hbs⟩ : ∃z,cmB o=z:=⟨_,rfl⟩
    obtain ⟨er,her⟩ : ∃z,cmE o=z:=⟨_,rfl⟩
    rw [hbs,her] at HWR
    unfold GivesV at HWR
    have HBE:=Lib.hid (show cmB o=bs∧cmE o=er from ⟨hbs,her⟩)
    obtain ⟨W,hW⟩ : ∃z,coF o=z:=⟨_,rfl⟩
    rw [hW] at HWR HF
    obtain ⟨L3,hL3⟩ : ∃z,o.map tgB=z:=⟨_,rfl⟩
    rw [hL3] at HB HL HF
    clear hh hs3 hc3 h0 hj16 HR hbs her hW hL3 HG
    go_wp2_with (first
     | (go_at_call 35;((with_reducible refine (HC.out _).mono ?_);rintro e w6 ⟨g,g1,g2,rfl,hb,hgg,hr,h1,h2⟩);have H6:=Lib.hid (show Below w.heap.size w w6∧SeesF w6 (· < w6.heap.size) (some ⟨g,0,none⟩) W from ⟨zaf HB.out.1 hb,by rw [HF.out];exact three_seesF rfl rfl HL.out hr ⟨h1,fun h=>by cases h⟩ ⟨h2,fun h=>by cases h⟩ ⟨SeesP.on2 HB.out.2.1 hb,HB.out.2.2⟩⟩);clear hb hr h1 h2 hgg)
     | (go_at_call 34;((with_reducible refine (HWR.out _ _ _ H6.out.1 H6.out.2).mono ?_);rintro e w7 ⟨A7,c7,rfl,h1,h2⟩);have H7:=Lib.hid (show _∧_ from ⟨h1,h2⟩);clear h1 h2))
    have HD := Lib.hid (show GivesV w (cmB o) (cmE o) (.returned (.tuple #[.slice A7 bs.length c7, .int .i64 er])) w7 from by
     rw [HBE.out.1,HBE.out.2]
     exact ⟨A7,c7,rfl,H7.out.1,zaf H6.out.1 H7.out.2.1,H7.out.2.2⟩)
    go_ret2
    exact HD.out
end Go.Proofs.YtnlhbknajdpnbaaGreatDoor
