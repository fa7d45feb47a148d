/-
  What is proved here: the file with a zone: plain words; Zone of the reference.
-/
import Derived.Test.YtnlhbknajdpnbaaGreatDoorF19
import Derived.Test.YtnlhbknajdpnbaaGreatDoorF30
import Derived.Test.YtnlhbknajdpnbaaGreatDoorF31
import Derived.Test.YtnlhbknajdpnbaaGreatDoorF21
import Derived.Test.YtnlhbknajdpnbaaGreatDoorF15
import Derived.Test.YtnlhbknajdpnbaaGreatDoorF14
set_option linter.unusedVariables false
set_option linter.unusedSimpArgs false
namespace Go.Proofs.YtnlhbknajdpnbaaGreatDoor
open Go.RowKit
set_option maxRecDepth 8000
theorem S_app15 (x y : List UInt8) : S x ++ S y = S (x ++ y) := by
 apply ByteArray.ext
 simp [S]
theorem add_s15 (x y : List UInt8) (hl : x.length + y.length ≤ 1000000) (p q : Operand) (w : World) : (do eqGuard .add 9 p q (.string (S x)) (.string (S y)); binOp .add 9 (.string (S x)) (.string (S y))).run Tryz.prog w = .ok (.string (S (x ++ y))) w := by
 have h:=add_str (S x) (S y) (by rw [zao,zao];exact hl) p q w
 rwa [S_app15] at h
section
variable {P:Program} {ops:Array Oper} {rest:List Oper} {o:Oper} {a:Act} {w:World} {Q:Exit→Act→World→Prop}
theorem wpList_binV (hgd : o.guard = none) (b : BinOp) (T T2 : TypeId) (x y : Operand) (ho : o.op = .binOp b T x y T2) {v vx vy : Value} (hx : a.eval x = vx) (hy : a.eval y = vy) (hr : (do eqGuard b T x y vx vy; binOp b T vx vy).run P w = .ok v w) (hK : wpList P ops Q rest (a.put o.dst v) w) : wpList P ops Q (o :: rest) a w :=
 wpList_plain hgd fun _ hK2=>o_bin b T T2 x y ho hx hy hr (hK2 _ _ hK)
theorem wpList_cvW (hgd : o.guard = none) (T1 T2 : TypeId) (x : Operand) (ho : o.op = .convert T1 T2 x) {v vx : Value} {w' : World} (hx : a.eval x = vx) (hr : (convert T1 T2 vx).run P w = .ok v w') (hK : wpList P ops Q rest (a.put o.dst v) w') : wpList P ops Q (o :: rest) a w := by
 refine wpList_plain hgd fun K hK2=>?_
 unfold Oper.wp execOp
 simp only [ho,hx]
 rw [Sem.run_bind,hr]
 exact hK2 _ _ hK
end
theorem ex_sees {w : World} {g z : Nat} {l : List UInt8} (h : ExR w g l z) : SeesP w (· < w.heap.size) (some ⟨g, 0, none⟩) (Us l) := by
 refine .inr ⟨g,0,rfl,?_,fun j hj=>?_⟩
 · obtain ⟨m, _, h⟩ := h
   exact lt_of_block h
 · rw [zat] at hj
   rw [Nat.zero_add,h.cell (List.getElem?_eq_getElem hj),zeT hj]
def znF (z:Zn):F:=.cons 24351 (zbb z).flatten .nil .nil
def znE (z:Zn):Int:=if zaY z=0 then wrE 1 (znF z) else zaY z
def znB (z:Zn):List UInt8:=if zaY z=0 then wrB 1 (znF z) else []
theorem strV_at15 {L : List (List UInt8)} {j : Nat} {x : List UInt8} (h : L[j]? = some x) : (strV L)[j]? = some (.string (S x)) := by
 unfold strV
 rw [List.getElem?_map,h]
 rfl
theorem flat_snoc {L : List (List UInt8)} {j : Nat} {x : List UInt8} (h : L[j]? = some x) : (L.take (j + 1)).flatten = (L.take j).flatten ++ x := by
 rw [List.take_add_one,h]
 simp
theorem flat_le {L : List (List UInt8)} {b : Nat} (h : ∀ x ∈ L, x.length ≤ b) : L.flatten.length ≤ L.length * b := by
 induction L with
 | nil=>simp
 | cons x r ih =>
   have h1:=h x (List.mem_cons_self ..)
   have h2:=ih fun y hy=>h y (List.mem_cons_of_mem _ hy)
   simp only [List.flatten_cons,List.length_append,List.length_cons]
   rw [Nat.add_mul]
   omega
theorem lines15_le {z : Zn} (hz : zaY z = 0) : (zbb z).length ≤ 3 ∧ (∀ x ∈ zbb z, x.length ≤ 44) := by
 refine ⟨(build_30 hz).2.1,fun x hx=>?_⟩
 obtain ⟨i,hi,rfl⟩:=List.getElem_of_mem hx
 have:=((lines_ok hz).2 i hi).2
 rwa [List.getD_eq_getElem?_getD,List.getElem?_eq_getElem hi] at this
set_option maxHeartbeats 3200000 in
theorem r15_zone (z : Zn) (us : List Value) (hz : Bears z) (hus : zV z = us) (w : World) (ht : TabG w) : Calls Tryz.prog 15 #[.agg us.toArray] w (zaU w (znB z) (znE z)) := by
 have hbu:=fun u=>r_zbuild z us hz hus u
 obtain ⟨v,hv⟩ : ∃v,zaY z=v:=⟨_,rfl⟩
 rw [hv] at hbu
 have HUL:Hid ((Tryz.prog.info? 46).map (·.size)=some us.length):=Lib.hid (by rw [←hus];exact zeW)
 have HB:=Lib.hid (Below.refl w.heap.size w)
 by_cases h0:v=0
 · have d0 : (v != 0) = false := by simpa using h0
   have hv0:zaY z=0:=hv.trans h0
   obtain ⟨hl3,h44⟩:=lines15_le hv0
   have hfl:=flat_le h44
   have HW := Lib.hid (show ∀ (X : Option Addr) (cx : Nat) (u : World), Below w.heap.size w u → SeesQ u (· < u.heap.size) X (znF z) → Calls Tryz.prog 25 #[.int .i64 1, .slice X 1 cx] u (zaU u (znB z) (znE z)) from fun X cx u hb hx => by
    have q1:znB z=wrB 1 (znF z):=by unfold znB;rw [if_pos hv0]
    have q2:znE z=wrE 1 (znF z):=by unfold znE;rw [if_pos hv0]
    rw [q1,q2]
    exact zgG 1 (znF z) 1 rfl X cx u (ht.on hb) (by decide) (by decide) (by show (0+0+1) < _;decide) ⟨by decide,by omega,trivial,trivial⟩ ⟨by omega,trivial,trivial⟩ hx)
   obtain ⟨bs,hbs⟩ : ∃q,znB z=q:=⟨_,rfl⟩
   obtain ⟨er,her⟩ : ∃q,znE z=q:=⟨_,rfl⟩
   rw [hbs,her] at HW
   have HF:Hid (znF z=.cons 24351 (zbb z).flatten .nil .nil):=Lib.hid rfl
   obtain ⟨W,hW⟩ : ∃q,znF z=q:=⟨_,rfl⟩
   rw [hW] at HW HF
   obtain ⟨L,hL⟩ : ∃q,zbb z=q:=⟨_,rfl⟩
   rw [hL] at hbu HF hl3 h44 hfl
   obtain ⟨n,hn⟩ : ∃q,L.length=q:=⟨_,rfl⟩
   rw [hn] at hbu hl3 hfl
   have HBE := Lib.hid (show znB z = bs ∧ znE z = er ∧ L.length = n ∧ L.flatten.length ≤ 132 ∧ (∀ j, (L.take j).flatten.length ≤ 132) ∧ (∀ x ∈ L, x.length ≤ 44) from ⟨hbs, her, hn, by omega, fun j => by
    have h1:=flat_le (L:=L.take j) (b:=44) fun x hx=>h44 x (List.mem_of_mem_take hx)
    have h2:(L.take j).length≤3:=by rw [List.length_take,hn];omega
    have h3:(L.take j).length*44≤3*44:=Nat.mul_le_mul_right _ h2
    omega,h44⟩)
   have HBU:=Lib.hid hbu
   subst h0
   clear hbu hv hv0 h44 hfl hbs her hW hL hn ht hus hz
   go_enter Tryz.func15,Tryz.ntmps15
   go_wp2_with (first
    | ((with_reducible refine zbl (d:=1) ?_);refine zax (op:=⟨some 1,_,_,_,_,_⟩) rfl 46 _ rfl us rfl ?_;intro g1 w1 hf hr;have H1:=Lib.hid (show _∧_ from ⟨hf.bl HB.out,hr⟩);clear hf hr)
    | ((with_reducible refine zaa (d:=9) ?_);refine zaJ rfl 46 (.tmp 1) rfl g1 rfl us _ H1.out.2 Tryz.underlying46 rfl HUL.out ?_)
    | (go_at_call 38;((with_reducible refine (HBU.out _).mono ?_);rintro e w2 ⟨A2,rfl,hs,hb⟩);have H2:=Lib.hid (show Below w.heap.size w w2∧Strs w2 A2 L from ⟨zaf H1.out.1 hb,hs⟩);clear hs hb))
   go_loop [6,7] (fun s i=>∃(j:Nat),j≤n∧i=.int .i64 (j:Int)∧s=.string (S (L.take j).flatten)) (fun _ i=>n - (intOf i).toNat)
   case atStart=>exact ⟨0,by omega,rfl,rfl⟩
   case round =>
    obtain ⟨j,hj,rfl,rfl⟩:=hrel
    by_cases hlt:j < n
    · have dj : decide ((j : Int) < (n : Int)) = true := by simp; omega
      obtain ⟨x,hx⟩ : ∃x,L[j]? = some x:=⟨_,List.getElem?_eq_getElem (by rw [HBE.out.2.2.1];exact hlt)⟩
      have hsx:=strV_at15 hx
      have hs2:Sees w2 w2.heap.size A2 (strV L):=H2.out.2
      rcases hs2 with hs2 | ⟨b,off,rfl,hb,hc⟩
      · rw [hs2] at hsx;simp at hsx
      have c0:w2.cell? ⟨b,off+j,none⟩=some (.string (S x)):=(hc j (by have:=(List.getElem?_eq_some_iff.1 hsx).1;exact this)).trans hsx
      have hst:=flat_snoc hx
      have h1:=HBE.out.2.2.2.2.1 j
      have h2:=HBE.out.2.2.2.2.2 x (List.mem_of_getElem? hx)
      obtain ⟨pre,hpre⟩ : ∃q,(L.take j).flatten=q:=⟨_,rfl⟩
      rw [hpre] at hst h1 ⊢
      have HST:=Lib.hid (show (L.take (j+1)).flatten=pre++x∧pre.length≤132∧x.length≤44 from ⟨hst,h1,h2⟩)
      clear hx hsx hc hb hst hpre h1 h2
      go_wp2_with (first
       | ((with_reducible refine zal (d:=27) ?_);go_must (refine wpList_binV rfl .add 9 9 (.tmp 22) (.tmp 26) rfl rfl rfl (add_s15 pre x (by have:=HST.out;omega) _ _ _) ?_)))
      go_round
      case rel=>exact ⟨j+1,by omega,by first | rfl | go_num,by rw [HST.out.1]⟩
      case measure=>simp [intOf];omega
    · obtain rfl : j = n := by omega
      have dj:decide ((j:Int) < (j:Int))=false:=by simp
      have hall:(L.take j).flatten=L.flatten:=by rw [List.take_of_length_le (by rw [HBE.out.2.2.1];exact Nat.le_refl _)]
      rw [hall]
      obtain ⟨X,hX⟩ : ∃q,L.flatten=q:=⟨_,rfl⟩
      have hlen:=HBE.out.2.2.2.1
      rw [hX] at HF hlen ⊢
      obtain ⟨k,hk⟩ : ∃q,X.length=q:=⟨_,rfl⟩
      have HX:=Lib.hid (show X.length=k∧k≤132 from ⟨hk,by omega⟩)
      clear hall hX hlen hk
      go_wp2_with (first
       | ((with_reducible refine zal (d:=29) ?_);obtain ⟨W5,cap5,z5,hcv,hex,hbl,hcp⟩:=ex_conv (S X) X rfl w2;go_must (refine wpList_cvW rfl 9 27 (.tmp 28) rfl rfl hcv ?_);have H5:=Lib.hid (show Below w.heap.size w W5∧SeesP W5 (· < W5.heap.size) (some ⟨w2.heap.size,0,none⟩) (Us X) from ⟨zaf H2.out.1 hbl,ex_sees hex⟩);clear hcv hex hbl)
       | (go_at_call 39;((with_reducible refine (zcT 24351 X (S X).size (zao X).symm (by have:=HX.out;have:=zao X;omega) _ _ (fun h=>by cases h) _ H5.out.2).mono ?_);rintro e w6 ⟨A6,c6,rfl,hc,hs,hb⟩);have H6:=Lib.hid (show Below w.heap.size w w6∧SeesP w6 (· < w6.heap.size) A6 (Us X)∧(A6=none→c6=0)∧(S X).size≤c6 from ⟨zaf H5.out.1 hb,hs.imp zdD,hc⟩);clear hc hs hb)
       | ((with_reducible refine zal (d:=31) ?_);go_must (refine zap rfl 30 64 1 _ rfl Tryz.underlying30 (pe1 rfl) (bs1 _ _ _) ?_);intro g7 w7 hf hr;have H7:=Lib.hid (show Below w.heap.size w w7∧SeesQ w7 (· < w7.heap.size) (some ⟨g7,0,none⟩) W from ⟨zaf H6.out.1 hf.bw,by rw [HF.out];exact one_prim (zao X).symm hr ⟨SeesP.on2 H6.out.2.1 hf.bw,H6.out.2.2⟩⟩);clear hf hr)
       | (go_at_call 25;((with_reducible refine (HW.out _ _ _ H7.out.1 H7.out.2).mono ?_);rintro e w8 ⟨A8,c8,rfl,h1,h2,h3⟩);have H8:=Lib.hid (show _∧_∧_ from ⟨h1,h2,h3⟩);clear h1 h2 h3))
      have HD := Lib.hid (show zaU w (znB z) (znE z) (.returned (.tuple #[.slice A8 bs.length c8, .int .i64 er])) w8 from by
       rw [HBE.out.1,HBE.out.2.1]
       exact ⟨A8,c8,rfl,H8.out.1.imp fun b hb=>⟨Nat.le_trans H7.out.1.size hb.1,hb.2⟩,zaf H7.out.1 H8.out.2.1,H8.out.2.2⟩)
      go_ret2
      exact HD.out
 · have d0 : (v != 0) = true := by simpa using h0
   have HF := Lib.hid (show ∀ u, Below w.heap.size w u → zaU w (znB z) (znE z) (.returned (.tuple #[.slice none 0 0, .int .i64 v])) u from fun u hb => by
    unfold znB znE
    rw [hv,if_neg h0,if_neg h0]
    exact ⟨none,0,rfl,.inl rfl,hb,Nat.le_refl _,fun _=>rfl⟩)
   have HBU:=Lib.hid hbu
   clear hbu hv h0 ht hz hus
   go_enter Tryz.func15,Tryz.ntmps15
   go_wp2_with (first
    | ((with_reducible refine zbl (d:=1) ?_);refine zax (op:=⟨some 1,_,_,_,_,_⟩) rfl 46 _ rfl us rfl ?_;intro g1 w1 hf hr;have H1:=Lib.hid (show _∧_ from ⟨hf.bl HB.out,hr⟩);clear hf hr)
    | ((with_reducible refine zaa (d:=9) ?_);refine zaJ rfl 46 (.tmp 1) rfl g1 rfl us _ H1.out.2 Tryz.underlying46 rfl HUL.out ?_)
    | (go_at_call 38;((with_reducible refine (HBU.out _).mono ?_);rintro e w2 ⟨A2,rfl,hs,hb⟩);have H2:=Lib.hid (HF.out _ (zaf H1.out.1 hb));clear hs hb))
   go_ret2
   exact H2.out
end Go.Proofs.YtnlhbknajdpnbaaGreatDoor
namespace Go.Proofs.YtnlhbknajdpnbaaGreatDoor
open Go.RowKit
theorem SeesT.first {w : World} {p : Nat → Prop} {A : Option Addr} {x : Tm} {L : List Tm} (h : SeesT w p A (x :: L)) : SeesT w p A [x] := by
 obtain ⟨vs,h1,h2,h3⟩:=h
 have hl:7≤vs.length:=by rw [h2];simp;omega
 refine ⟨vs.take 7,?_,by rw [List.length_take];simp;omega,fun k y hy=>?_⟩
 · rcases h1 with h1 | ⟨b, off, rfl, hb, hc⟩
   · subst h1;simp at hl
   · refine .inr ⟨b, off, rfl, hb, fun j hj => ?_⟩
     have hj7:j < 7:=by rw [List.length_take] at hj;omega
     rw [hc j (by omega),List.getElem?_take,if_pos hj7]
 · have hk : k = 0 := by
    have:=(List.getElem?_eq_some_iff.1 hy).1
    simpa using this
   subst hk
   obtain rfl:x=y:=by simpa using hy
   obtain ⟨Ad,cd,g0,g1,g2⟩:=h3 0 x rfl
   refine ⟨Ad,cd,g0,g1,fun j hj=>?_⟩
   rw [List.getElem?_take,if_pos (by omega)]
   exact g2 j hj
theorem UseN1.of {P : Program} {f : FuncId} {args : Array Value} {w : World} {l : List Int} (h : Calls P f args w fun e w' => ∃ A c, e = .returned (.slice A 1 c) ∧ SeesP w' (· < w'.heap.size) A (Is l) ∧ Below w.heap.size w w') : Calls P f args w fun e w' => ∃ A c, e = .returned (.slice A 1 c) ∧ Below w.heap.size w w' :=
 h.mono fun e w' h=>by obtain ⟨A,c,h1,_,h2⟩:=h;exact ⟨A,c,h1,h2⟩
end Go.Proofs.YtnlhbknajdpnbaaGreatDoor
namespace Go.Proofs.YtnlhbknajdpnbaaGreatDoor
open Go.RowKit
theorem listF_vb {l : List Tm} (h : ∀ x ∈ l, x.d.length ≤ 2000) : (listF l).vb 2000 := by
 have ho:∀n s:Nat,s≤4→(octL n s).length≤2000:=fun n s hs=>by rw [zav];omega
 have g : (zdu l).vb 2000 := by
  induction l with
  | nil=>trivial
  | cons y r ih =>
    refine ⟨by decide,Nat.zero_le _,⟨by decide,Nat.zero_le _,?_,by decide,h y (List.mem_cons_self ..),trivial,trivial⟩,ih fun x hx=>h x (List.mem_cons_of_mem _ hx)⟩
    exact ⟨by decide,ho _ _ (by decide),trivial,by decide,ho _ _ (by decide),trivial,by decide,ho _ _ (by decide),trivial,by decide,ho _ _ (by decide),trivial,by decide,ho _ _ (by decide),trivial,by decide,ho _ _ (by decide),trivial,trivial⟩
 exact ⟨by decide,Nat.zero_le _,⟨by decide,ho _ _ (by decide),trivial,g⟩,trivial⟩
theorem enc_vb (l : List Tm) : (encF l).vb 2000 := by
 unfold encF
 split
 · rename_i h
   obtain ⟨_,_,hv⟩:=encE_ok h
   exact listF_vb fun x hx => by
    have:=(vT_bd (hv x hx)).2.2.2.2.2.2.2.2
    omega
 · trivial
section
variable {w w':World} {D:Nat} {A:Option Addr}
end
theorem HeldT.block {w wr : World} {g n cp : Nat} {L : List Tm} (h : HeldT w wr (.slice (some ⟨g, 0, none⟩) n cp) L) (hn : L.length = n) : ∃ vs, RowV wr g vs ∧ n * 7 ≤ vs.length ∧ w.heap.size ≤ g ∧ ∀ k z, L[k]? = some z → TmIn wr (fun b => newB w wr b ∧ b ≠ g) vs k z := by
 subst hn
 obtain ⟨cs,h1,h2⟩:=h
 rcases h1.2 with ⟨h0,_⟩ | ⟨g',cap,cur,hv,hb,hh,hn,hm,hs,ht⟩
 · cases h0
 · injection hv with hv _ hv2
   injection hv with hv
   injection hv with hv
   subst hv;subst hv2
   refine ⟨cur.toList,⟨_,by rw [hh]⟩,(by have h1:cur.toList.length=cp*7:=hs;show L.length*7≤cur.toList.length;rw [h1];exact Nat.mul_le_mul_right 7 hn),hb,fun k z hz=>?_⟩
   obtain ⟨Ad,cd,g0,g1,g2⟩:=h2.2 k z hz
   have hk:=(List.getElem?_eq_some_iff.1 hz).1
   refine ⟨Ad,cd,g0,g1.imp fun b hb=>⟨hb.1,fun e=>hb.2 (by rw [e];rfl)⟩,fun j hj=>?_⟩
   rw [←g2 j hj,←ht,List.getElem?_take,if_pos (by omega)]
end Go.Proofs.YtnlhbknajdpnbaaGreatDoor
namespace Go.Proofs.YtnlhbknajdpnbaaGreatDoor
open Go.RowKit
set_option maxRecDepth 8000
theorem HoldsN.q {w : World} {p : Nat → Prop} : ∀ {f : F} {cs : List Value}, HoldsN w p f cs → HoldsQ w p f cs
 | .nil,_,h=>h
 | .cons t v k r,cs,⟨Av,cv,Ak,ck,ks,cs',e,h0,h1,h2,h3,h4⟩=>⟨Av,cv,Ak,ck,ks,cs',e,⟨h0.1,fun _=>h0.2.1⟩,h1,h2,HoldsN.q h3,HoldsN.q h4⟩
theorem SeesN.q {w : World} {p : Nat → Prop} {A : Option Addr} {f : F} (h : SeesN w p A f) : SeesQ w p A f := by
 obtain ⟨cs,h1,h2⟩:=h
 exact ⟨cs,h1,h2.q⟩
theorem ix_tm15 (g o n c k : Nat) (hk : k < n) (w : World) : (Instr.indexAt 49 (.slice (some ⟨g, o, none⟩) n c) (.int .i64 (k : Int))).run Tryz.prog w = .ok (.pointer (some ⟨g, o + k * 7, none⟩)) w := by
 have h0:(k:Int) < (n:Int):=by omega
 have h1:(0:Int)≤(k:Int):=by omega
 simp [go_sem,Addr.add,h0,h1]
def zcC (n:Int) (l:List Tm):Bool:=l.all fun x=>decide (x.k=n - 1)
def bioE (n:Int) (l:List Tm):Int:=if n < 2∨4 < n then 3 else if zbt l=0 then (if zcC n l=true then wrE n (encF l) else 14) else zbt l
def bioB (n:Int) (l:List Tm):List UInt8:=if n < 2∨4 < n then [] else if zbt l=0 then (if zcC n l=true then wrB n (encF l) else []) else []
theorem vb_sq : ∀ {f : F}, f.vb 2000 → f.sq
 | .nil,_=>trivial
 | .cons _ _ _ _,h=>⟨Nat.le_trans h.2.1 (by decide),vb_sq h.2.2.1,vb_sq h.2.2.2⟩
theorem fit_snoc {n : Int} {l : List Tm} {j : Nat} {x : Tm} (h : l[j]? = some x) : zcC n (l.take (j + 1)) = (zcC n (l.take j) && decide (x.k = n - 1)) := by
 unfold zcC
 rw [List.take_add_one,h]
 simp
theorem fit_no {n : Int} {l : List Tm} {j : Nat} {x : Tm} (h : l[j]? = some x) (hx : ¬ x.k = n - 1) : zcC n l = false := by
 unfold zcC
 rw [List.all_eq_false]
 exact ⟨x,List.mem_of_getElem? h,by simpa using hx⟩
set_option maxHeartbeats 1600000 in
theorem r15_fits (q : Int) (h2 : 2 ≤ q) (h4 : q ≤ 4) (l : List Tm) (n : Nat) (hn : l.length = n) (hm : n ≤ 1000000) (A : Option Addr) (c : Nat) (w : World) (hs : SeesT w (· < w.heap.size) A l) :
 Calls Tryz.prog 46 #[.int .i64 q,.slice A n c] w fun e w'=>e=.returned (.bool (zcC q l))∧w'=w:=by
 have HS:=Lib.hid (show _∧_ from ⟨hs,hn⟩)
 obtain ⟨R,hR⟩ : ∃z,zcC q l=z:=⟨_,rfl⟩
 rw [hR]
 have HR:=Lib.hid hR
 have es:wrap64 (q - 1)=q - 1:=by unfold wrap64;omega
 clear hs hn hR
 go_enter Tryz.func46,Tryz.ntmps46
 go_wp2
 go_loop [5] (fun i=>∃(j:Nat),j≤n∧i=.int .i64 (j:Int)∧Hid (zcC q (l.take j)=true)) (fun i=>n - (intOf i).toNat)
 case atStart=>exact ⟨0,by omega,rfl,Lib.hid rfl⟩
 case round =>
  obtain ⟨j,hj,rfl,HQ⟩:=hrel
  by_cases hlt:j < n
  · have dj : decide ((j : Int) < (n : Int)) = true := by simp; omega
    obtain ⟨x,hx⟩ : ∃x,l[j]? = some x:=⟨_,List.getElem?_eq_getElem (by rw [HS.out.2];exact hlt)⟩
    obtain ⟨b,off,Ad,cd,rfl,hb,hr,_⟩:=tm_at HS.out.1 hx
    obtain ⟨xk,hxk⟩ : ∃z,x.k=z:=⟨_,rfl⟩
    have c0:w.cell? ⟨b,off+j*7,none⟩=some (.int .i64 xk):=by rw [←hxk];exact hr 0 _ rfl
    have hst:=fit_snoc (n:=q) hx
    rw [HQ.out,hxk] at hst
    have hno:=fit_no (n:=q) hx
    rw [hxk] at hno
    have ixk:=fun w=>ix_tm15 b off n c j hlt w
    by_cases he:xk=q - 1
    · have de : (xk != q - 1) = false := by simpa using he
      have HN:=Lib.hid (show zcC q (l.take (j+1))=true from by rw [hst];simpa using he)
      clear hx hb hr hxk hst hno he
      go_wp2
      go_round
      case rel=>exact ⟨j+1,by omega,by first | rfl | go_num,HN⟩
      case measure=>simp [intOf];omega
    · have de : (xk != q - 1) = true := by simpa using he
      have HN:=Lib.hid (show R=false from by rw [←HR.out];exact hno he)
      clear hx hb hr hxk hst hno he
      go_wp2
      go_ret
      exact ⟨by first | (rw [HN.out];done) | (rw [HN.out];rfl) | simp [HN.out],rfl⟩
  · obtain rfl : j = n := by omega
    have dj:decide ((j:Int) < (j:Int))=false:=by simp
    have HN := Lib.hid (show R = true from by
     have:=HQ.out
     rwa [List.take_of_length_le (by rw [HS.out.2];exact Nat.le_refl _),HR.out] at this)
    go_wp2
    go_ret
    exact ⟨by first | (rw [HN.out];done) | (rw [HN.out];rfl) | simp [HN.out],rfl⟩
set_option maxHeartbeats 3200000 in
theorem zcZ (q : Int) (lo : -9223372036854775808 ≤ q) (hi : q ≤ 9223372036854775807) (l : List Tm) (n : Nat) (hn : l.length = n) (hm : n ≤ 1000000) (A : Option Addr) (c : Nat) (w : World) (ht : TabG w) (hs : SeesT w (· < w.heap.size) A l) :
 Calls Tryz.prog 17 #[.int .i64 q,.slice A n c] w (zaU w (bioB q l) (bioE q l)):=by
 have HG := Lib.hid (show ∀ x, bioE q l = x → bioB q l = [] → ∀ u, Below w.heap.size w u → zaU w (bioB q l) (bioE q l) (.returned (.tuple #[.slice none 0 0, .int .i64 x])) u from fun x hx h0 u hb => by
  rw [hx,h0]
  exact ⟨none,0,rfl,.inl rfl,hb,Nat.le_refl _,fun _=>rfl⟩)
 by_cases h2:q < 2
 · have d2 : decide (q < 2) = true := by simpa using h2
   have HD:=Lib.hid (HG.out 3 (by unfold bioE;rw [if_pos (.inl h2)]) (by unfold bioB;rw [if_pos (.inl h2)]) w (Below.refl _ _))
   clear h2 hs hn hm ht lo hi HG
   go_enter Tryz.func17,Tryz.ntmps17
   go_wp2
   go_ret2
   exact HD.out
 have d2:decide (q < 2)=false:=by simpa using h2
 by_cases h4:4 < q
 · have d4 : decide (4 < q) = true := by simpa using h4
   have HD:=Lib.hid (HG.out 3 (by unfold bioE;rw [if_pos (.inr h4)]) (by unfold bioB;rw [if_pos (.inr h4)]) w (Below.refl _ _))
   clear h2 h4 hs hn hm ht lo hi HG
   go_enter Tryz.func17,Tryz.ntmps17
   go_wp2
   go_ret2
   exact HD.out
 have d4:decide (4 < q)=false:=by simpa using h4
 have e1:bioE q l=if zbt l=0 then (if zcC q l=true then wrE q (encF l) else 14) else zbt l:=by unfold bioE;rw [if_neg (by omega)]
 have e2:bioB q l=if zbt l=0 then (if zcC q l=true then wrB q (encF l) else []) else []:=by unfold bioB;rw [if_neg (by omega)]
 have hen:=r_encode l n hn A c w hs
 have HSN:=Lib.hid (show _∧_∧_ from ⟨hs,hn,ht⟩)
 have HFT:=Lib.hid (fun u (hb:Below w.heap.size w u)=>r15_fits q (by omega) (by omega) l n hn hm A c u (hs.on hb))
 have HW:=Lib.hid (fun (X:Option Addr) (cx lk:Nat) (hl:(encF l).len=lk) (u:World) (hb:Below w.heap.size w u) (hx:SeesQ u (· < u.heap.size) X (encF l))=>zgG q (encF l) lk hl X cx u (ht.on hb) lo hi (by have:=(enc_ok l).2;omega) (enc_ok l).1 (vb_sq (enc_vb l)) hx)
 obtain ⟨v,hv⟩ : ∃v,zbt l=v:=⟨_,rfl⟩
 rw [hv] at e1 e2
 unfold EncIs at hen
 rw [hv] at hen
 obtain ⟨lk,hlk⟩ : ∃z,(encF l).len=z:=⟨_,rfl⟩
 rw [hlk] at hen
 have HEN:=Lib.hid hen
 by_cases h0:v=0
 · have d0 : (v != 0) = false := by simpa using h0
   rw [if_pos h0] at e1 e2
   subst h0
   obtain ⟨fb,hfb⟩ : ∃z,zcC q l=z:=⟨_,rfl⟩
   rw [hfb] at e1 e2 HFT
   rcases fb with _ | _
   · have HD := Lib.hid (fun u hb => HG.out 14 (by rw [e1]; rfl) (by rw [e2]; rfl) u hb)
     clear h2 h4 hs hn hm ht lo hi HG e1 e2 hen hv hlk hfb HW
     go_enter Tryz.func17,Tryz.ntmps17
     go_wp2_with (first
      | (go_at_call 45;((with_reducible refine HEN.out.mono ?_);rintro e w1 ⟨A1,c1,rfl,h1,h2,hb⟩);have H1:=Lib.hid hb;clear h1 h2 hb)
      | (go_at_call 46;((with_reducible refine (HFT.out _ H1.out).mono ?_);rintro e w2 ⟨rfl,hw⟩);(have hw2:=hw.symm;clear hw;subst hw2)))
     have HE:=Lib.hid (HD.out _ H1.out)
     go_ret2
     exact HE.out
   · have HBE := Lib.hid (show bioE q l = wrE q (encF l) ∧ bioB q l = wrB q (encF l) from ⟨by rw [e1]; rfl, by rw [e2]; rfl⟩)
     have HW2:=Lib.hid (fun X cx u hb hx=>HW.out X cx lk hlk u hb hx)
     obtain ⟨bs,hbs⟩ : ∃z,wrB q (encF l)=z:=⟨_,rfl⟩
     obtain ⟨er,her⟩ : ∃z,wrE q (encF l)=z:=⟨_,rfl⟩
     rw [hbs,her] at HW2 HBE
     obtain ⟨W,hW⟩ : ∃z,encF l=z:=⟨_,rfl⟩
     rw [hW] at HEN HW2
     clear h2 h4 hs hn hm ht lo hi HG e1 e2 hen hv hlk hfb HW hbs her hW
     go_enter Tryz.func17,Tryz.ntmps17
     go_wp2_with (first
      | (go_at_call 45;((with_reducible refine HEN.out.mono ?_);rintro e w1 ⟨A1,c1,rfl,h1,h2,hb⟩);have H1:=Lib.hid (show Below w.heap.size w w1∧SeesQ w1 (· < w1.heap.size) A1 W from ⟨hb,(h2.imp zdD).q⟩);clear h1 h2 hb)
      | (go_at_call 46;((with_reducible refine (HFT.out _ H1.out.1).mono ?_);rintro e w2 ⟨rfl,hw⟩);(have hw2:=hw.symm;clear hw;subst hw2))
      | (go_at_call 25;((with_reducible refine (HW2.out _ _ _ H1.out.1 H1.out.2).mono ?_);rintro e w4 ⟨A4,c4,rfl,h1,h2,h3⟩);have H4:=Lib.hid (show _∧_∧_ from ⟨h1,h2,h3⟩);clear h1 h2 h3))
     have HD := Lib.hid (show zaU w (bioB q l) (bioE q l) (.returned (.tuple #[.slice A4 bs.length c4, .int .i64 er])) w4 from by
      rw [HBE.out.1,HBE.out.2]
      exact ⟨A4,c4,rfl,H4.out.1.imp fun b hb=>⟨Nat.le_trans H1.out.1.size hb.1,hb.2⟩,zaf H1.out.1 H4.out.2.1,H4.out.2.2⟩)
     go_ret2
     exact HD.out
 · have d0 : (v != 0) = true := by simpa using h0
   rw [if_neg h0] at e1 e2
   have HD:=Lib.hid (fun u hb=>HG.out v e1 e2 u hb)
   clear h2 h4 hs hn hm ht lo hi HG e1 e2 hen hv hlk HW h0
   go_enter Tryz.func17,Tryz.ntmps17
   go_wp2_with (first
    | (go_at_call 45;((with_reducible refine HEN.out.mono ?_);rintro e w1 ⟨A1,c1,rfl,h1,h2,hb⟩);have H1:=Lib.hid hb;clear h1 h2 hb))
   have HE:=Lib.hid (HD.out _ H1.out)
   go_ret2
   exact HE.out
end Go.Proofs.YtnlhbknajdpnbaaGreatDoor
