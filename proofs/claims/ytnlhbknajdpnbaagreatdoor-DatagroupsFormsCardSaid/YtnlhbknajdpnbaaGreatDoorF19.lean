/-
  What is proved here: what the reference's Encode and Plain return for objects whose Values have at most 4096 bytes.
-/
import Derived.Test.YtnlhbknajdpnbaaGreatDoorF18
import Derived.Test.YtnlhbknajdpnbaaGreatDoorF8
import Derived.Test.YtnlhbknajdpnbaaGreatDoorF15
import Derived.Test.YtnlhbknajdpnbaaGreatDoorF17
import Derived.Deep.DeepMust
import Derived.Test.YtnlhbknajdpnbaaGreatDoorF11
import Derived.Test.YtnlhbknajdpnbaaGreatDoorF9
import Derived.Test.YtnlhbknajdpnbaaGreatDoorF0
import Derived.Test.YtnlhbknajdpnbaaGreatDoorRows
import Derived.Test.YtnlhbknajdpnbaaGreatDoorF6
import Derived.Laws.IdiomStrings
import Derived.Lib.SmallJoins
set_option linter.unusedVariables false
set_option linter.unusedSimpArgs false
namespace Go.Proofs.YtnlhbknajdpnbaaGreatDoor
open Go.RowKit
set_option maxRecDepth 8000
theorem F.gd_sm : ∀ {f : F} {m : Nat}, f.gd m → f.sm
 | .nil,_,_=>trivial
 | .cons t v k r,m,⟨h1,h2,h3,h4,h5,h6,h7,h8⟩=>⟨by omega,F.gd_sm h7,F.gd_sm h8⟩
theorem F.raw_of : ∀ {f : F} {d : Int}, chkE f d = 0 → f.sq → f.raw
 | .nil,_,_,_=>trivial
 | .cons t v k r, d, h, ⟨s1, s2, s3⟩ => by
   by_cases h1:chk1 t v.length k.len d=0
   · by_cases h2 : chkE k (d + 1) = 0
     · rw [chkE_3 h1 h2] at h
       refine ⟨?_,s1,?_,?_,F.raw_of h2 s2,F.raw_of h s3⟩
       all_goals
        unfold chk1 at h1
        split at h1
        · omega
        · rename_i hv
          split at h1
          · omega
          · rename_i hf
            first
             | exact zba (by cases hq:zaA t;exact absurd hq (by simpa using hv);rfl)
             | (intro hc
                have hz:¬0 < v.length:=fun h0=>hf (.inl ⟨hc,h0⟩)
                exact List.eq_nil_of_length_eq_zero (by omega))
             | (intro hc
                have hz:¬0 < k.len:=fun h0=>hf (.inr ⟨hc,h0⟩)
                exact F.len_zero (by omega))
     · rw [chkE_2 h1 h2] at h;exact absurd h h2
   · rw [zeQ h1] at h;exact absurd h h1
def zaU (w : World) (bs : List UInt8) (er : Int) (e : Ending) (w' : World) : Prop :=
 ∃A c,e=.returned (.tuple #[.slice A bs.length c,.int .i64 er])∧SeesP w' (fun b=>w.heap.size≤b∧b < w'.heap.size) A (Us bs)∧Below w.heap.size w w'∧bs.length≤c∧(A=none→c=0)
theorem zge {f : F} {x : Int} {w w' : World} (h : encE f = x) (hx : x ≠ 0) (hb : Below w.heap.size w w') : zaU w (encB f) (encE f) (.returned (.tuple #[.slice none 0 0, .int .i64 x])) w' := by
 have hB:encB f=[]:=by unfold encB;rw [if_neg (by rw [h];exact hx)]
 rw [hB,h]
 exact ⟨none,0,rfl,.inl rfl,hb,Nat.le_refl _,fun _=>rfl⟩
set_option maxHeartbeats 1000000 in
theorem ref_encode_q (f : F) (A : Option Addr) (c : Nat) (w : World) (hsz : f.size < 1125899906842623) (hok : f.ok) (hsm : f.sq) (hs : SeesQ w (· < w.heap.size) A f) :
 Calls Tryz.prog 55 #[.slice A f.len c] w (zaU w (encB f) (encE f)):=by
 have hc:=ref_check 1125899906842624 f A c 1 w (by omega) (Nat.le_refl _) hok (by decide) (by decide) hs.sees
 unfold zdi at hc
 obtain ⟨x,hx⟩ : ∃x,x=chkE f 1:=⟨_,rfl⟩
 rw [←hx] at hc
 have HC:=Lib.hid hc
 clear hc
 by_cases h1:x=0
 · subst h1
   have HX:=Lib.hid (show f.raw∧chkE f 1=0 from ⟨F.raw_of hx.symm hsm,hx.symm⟩)
   have HS:=Lib.hid hs
   clear hx hsm hok hs
   go_enter Tryz.func55,Tryz.ntmps55
   go_wp2_with fail
   refine HC.out.mono ?_
   rintro e w1 ⟨rfl,hb1⟩
   have HB1:=Lib.hid hb1
   have HN:=Lib.hid (ref_count 1125899906842624 f A c w1 _ (by omega) (Nat.le_refl _) (HS.out.sees.on hb1))
   clear hb1 HC
   go_wp2_with fail
   refine HN.out.mono ?_
   rintro e w2 ⟨m,rfl,hm,rfl⟩
   have HM:=Lib.hid hm
   have hmf:=hm.1
   clear hm HN
   by_cases h2:256 < f.size
   · have d1 : decide ((256 : Int) < (m : Int)) = true := by have := HM.out.2.2 h2; simp; omega
     have HF:=Lib.hid (zge (show encE f=2 by unfold encE;rw [if_neg (by rw [HX.out.2];decide),if_pos h2]) (by decide) HB1.out)
     clear h2 HX HS HM HB1
     go_wp2_with fail
     go_ret2
     exact HF.out
   · have d1 : decide ((256 : Int) < (m : Int)) = false := by have := HM.out.2.1 (by omega); simp; omega
     have HR:=Lib.hid (ref_raw 1125899906842624 (by decide) f A c w2 (by omega) HX.out.1 (HS.out.on HB1.out))
     go_wp2_with fail
     refine HR.out.mono ?_
     rintro e w3 ⟨b,A3,c3,rfl,hcl,hcn,hss,he1,he2,hbl,hbw⟩
     have HZ:=Lib.hid (show _∧_∧_ from ⟨hss,he1,he2⟩)
     have HB3:=Lib.hid (zaf HB1.out hbw)
     have hw2:=HB1.out.size
     have HC3:=Lib.hid (show b.length≤c3∧(A3=none→c3=0) from ⟨hcl,hcn⟩)
     clear hss he1 he2 hbw HR hcl hcn
     by_cases h3:4096 < encN f
     · have d2 : decide ((4096 : Int) < (b.length : Int)) = true := by have := HZ.out.2.2 h3; simp; omega
       have HF:=Lib.hid (zge (show encE f=2 by unfold encE;rw [if_neg (by rw [HX.out.2];decide),if_neg h2,if_pos h3]) (by decide) HB3.out)
       clear h2 h3 HX HS HM HB1 HZ HC3
       go_wp2_with fail
       go_ret2
       exact HF.out
     · have hbe := HZ.out.2.1 (by omega)
       have d2:decide ((4096:Int) < (b.length:Int))=false:=by have:=zbu f;rw [←hbe] at this;simp;omega
       have hE:encE f=0:=by unfold encE;rw [if_neg (by rw [HX.out.2];decide),if_neg h2,if_neg h3]
       have hB:encB f=b:=by unfold encB;rw [if_pos hE,hbe]
       have HF := Lib.hid (show zaU w (encB f) (encE f) (.returned (.tuple #[.slice A3 b.length c3, .int .i64 0])) w3 from by
        rw [hB,hE]
        exact ⟨A3,c3,rfl,HZ.out.1.imp fun q hq=>⟨Nat.le_trans hw2 hq.1,hq.2⟩,HB3.out,HC3.out.1,HC3.out.2⟩)
       clear h2 h3 HX HS HM HB1 HZ HC3 hbe hE hB
       go_wp2_with fail
       go_ret2
       exact HF.out
 · have HF := Lib.hid (show ∀ w', Below w.heap.size w w' → zaU w (encB f) (encE f) (.returned (.tuple #[.slice none 0 0, .int .i64 x])) w' from fun w' hb => zge (show encE f = x by unfold encE; rw [if_pos (by omega)]; exact hx.symm) h1 hb)
   have d1:(x != 0)=true:=by simpa using h1
   clear h1 hx hs hsm hok
   go_enter Tryz.func55,Tryz.ntmps55
   go_wp2_with fail
   refine HC.out.mono ?_
   rintro e w1 ⟨rfl,hb1⟩
   have HD:=Lib.hid (HF.out _ hb1)
   clear hb1 HC HF
   go_wp2_with fail
   go_ret2
   exact HD.out
end Go.Proofs.YtnlhbknajdpnbaaGreatDoor
namespace Go.Proofs.YtnlhbknajdpnbaaGreatDoor
open Go.RowKit
set_option maxRecDepth 8000
def wrF (n:Int) (f:F):F:=.cons (gtV n) [] f .nil
def wrE (n:Int) (f:F):Int:=if gtE n=0 then encE (wrF n f) else gtE n
def wrB (n:Int) (f:F):List UInt8:=if gtE n=0 then encB (wrF n f) else []
theorem gtE_in {n : Int} (h : gtE n = 0) : ∃ k : Nat, n = (k : Int) + 1 ∧ k < 18 := by
 unfold gtE at h
 split at h
 · cases h
 · exact ⟨(n - 1).toNat,by omega,by omega⟩
theorem gtV_bd (n : Int) : 0 ≤ gtV n ∧ gtV n ≤ 119 := by
 by_cases h:n < 1∨18 < n
 · rw [(gt_no h).1];decide
 · obtain ⟨k, hk⟩ : ∃ k : Nat, n = (k : Int) + 1 := ⟨(n - 1).toNat, by omega⟩
   have hk18:k < 18:=by omega
   rw [(gt_yes hk hk18).1]
   have:=tagsG_bd k hk18
   omega
theorem wrF_ok {n : Int} {f : F} (h : f.ok) : (wrF n f).ok := by
 have:=gtV_bd n
 exact ⟨by omega,Nat.zero_le _,h,trivial⟩
theorem wrF_sq {n:Int} {f:F} (h:f.sq):(wrF n f).sq:=⟨Nat.zero_le _,h,trivial⟩
theorem wrF_size (n:Int) (f:F):(wrF n f).size=f.size+1:=by simp [wrF,F.size]
theorem wrF_sees {w : World} {g : Nat} {n : Int} {f : F} {A : Option Addr} {ck : Nat} (hr : RowV w g (nodV (gtV n) none 0 0 A f.len ck)) (hs : SeesQ w (· < w.heap.size) A f) : SeesQ w (· < w.heap.size) (some ⟨g, 0, none⟩) (wrF n f) := by
 obtain ⟨ks,k1,k2⟩:=hs
 exact ⟨_,.inr ⟨g,0,rfl,hr.lt,fun j hj=>by rw [Nat.zero_add,hr.cell];rfl⟩,none,0,A,ck,ks,[],rfl,⟨fun _=>rfl,fun h=>absurd h (by simp)⟩,.inl rfl,k1,k2,rfl⟩
set_option maxHeartbeats 1600000 in
theorem zgG (n : Int) (f : F) (lk : Nat) (hlk : f.len = lk) (A : Option Addr) (c : Nat) (w : World) (ht : TabG w) (hlo : -9223372036854775808 ≤ n) (hhi : n ≤ 9223372036854775807) (hsz : f.size < 1125899906842620) (hok : f.ok) (hq : f.sq) (hs : SeesQ w (· < w.heap.size) A f) :
 Calls Tryz.prog 25 #[.int .i64 n,.slice A lk c] w (zaU w (wrB n f) (wrE n f)):=by
 have HG:=Lib.hid (r_tag n w ht hlo hhi)
 have HS:=Lib.hid (show _∧_ from ⟨hs,hlk⟩)
 have HE:Hid (∀(A:Option Addr) (c:Nat) (w:World),SeesQ w (· < w.heap.size) A (wrF n f)→Calls Tryz.prog 55 #[.slice A 1 c] w (zaU w (encB (wrF n f)) (encE (wrF n f)))):=Lib.hid (fun A c w h=>ref_encode_q (wrF n f) A c w (by rw [wrF_size];omega) (wrF_ok hok) (wrF_sq hq) h)
 have HW:=Lib.hid (fun (g:Nat) (u:World) (ck:Nat) (h1:RowV u g (nodV (gtV n) none 0 0 A f.len ck)) (h2:SeesQ u (· < u.heap.size) A f)=>wrF_sees h1 h2)
 have hb1:wrB n f=if gtE n=0 then encB (wrF n f) else []:=rfl
 have hb2:wrE n f=if gtE n=0 then encE (wrF n f) else gtE n:=rfl
 obtain ⟨W,hWr⟩ : ∃z,wrF n f=z:=⟨_,rfl⟩
 rw [hWr] at HE HW hb1 hb2
 obtain ⟨tv,htv⟩ : ∃z,gtV n=z:=⟨_,rfl⟩
 obtain ⟨te,hte⟩ : ∃z,gtE n=z:=⟨_,rfl⟩
 rw [htv] at HG HW
 rw [hte] at HG hb1 hb2
 by_cases h0:te=0
 · have d0 : (te != 0) = false := by simpa using h0
   rw [if_pos h0] at hb1 hb2
   have HF:=Lib.hid (show wrB n f=encB W∧wrE n f=encE W from ⟨hb1,hb2⟩)
   subst h0
   clear hb1 hb2 hWr htv hte ht hs hlk hsz hok hq hlo hhi
   go_enter Tryz.func25,Tryz.ntmps25
   go_wp2_with (first
    | (go_at_call 54;((with_reducible refine HG.out.mono ?_);rintro e w1 ⟨rfl,hw1⟩);(have hw2:=hw1.symm;clear hw1;subst hw2))
    | (go_at_call 56;((with_reducible refine (zeO tv A lk c _).mono ?_);rintro e w2 ⟨rfl,hb⟩);have H2:=Lib.hid hb;clear hb)
    | ((with_reducible refine zal (d:=19) ?_);go_must (refine zap rfl 30 64 1 _ rfl Tryz.underlying30 (pe1 rfl) (bs1 _ _ _) ?_);intro g5 w3 hf hr;have H3:=Lib.hid (show Below w.heap.size w w3∧SeesQ w3 (· < w3.heap.size) (some ⟨g5,0,none⟩) W from ⟨zaf H2.out hf.bw,HW.out g5 w3 c (by rw [HS.out.2];exact hr) (HS.out.1.on (zaf H2.out hf.bw))⟩);clear hf hr)
    | (go_at_call 55;((with_reducible refine (HE.out _ _ _ H3.out.2).mono ?_);rintro e w4 ⟨A4,c4,rfl,h1,h2,h3⟩);have H4:=Lib.hid (show _∧_∧_ from ⟨h1,h2,h3⟩);clear h1 h2 h3))
   have HD := Lib.hid (show zaU w (wrB n f) (wrE n f) (.returned (.tuple #[.slice A4 (encB W).length c4, .int .i64 (encE W)])) w4 from by
    rw [HF.out.1,HF.out.2]
    exact ⟨A4,c4,rfl,H4.out.1.imp fun b hb=>⟨Nat.le_trans H3.out.1.size hb.1,hb.2⟩,zaf H3.out.1 H4.out.2.1,H4.out.2.2⟩)
   go_ret2
   exact HD.out
 · have d0 : (te != 0) = true := by simpa using h0
   rw [if_neg h0] at hb1 hb2
   have HD := Lib.hid (show zaU w (wrB n f) (wrE n f) (.returned (.tuple #[.slice none 0 0, .int .i64 te])) w from by
    rw [hb1,hb2]
    exact ⟨none,0,rfl,.inl rfl,Below.refl _ _,Nat.le_refl _,fun _=>rfl⟩)
   clear hb1 hb2 hWr htv hte ht hs hlk hsz hok hq h0 hlo hhi HE HW
   go_enter Tryz.func25,Tryz.ntmps25
   go_wp2_with (first
    | (go_at_call 54;((with_reducible refine HG.out.mono ?_);rintro e w1 ⟨rfl,hw1⟩);(have hw2:=hw1.symm;clear hw1;subst hw2)))
   go_ret2
   exact HD.out
end Go.Proofs.YtnlhbknajdpnbaaGreatDoor
namespace Go.Proofs.YtnlhbknajdpnbaaGreatDoor
open Go.RowKit
set_option maxRecDepth 8000
def coE (last : Int) : List Int → Int
 | []=>0
 | g::r=>if g < 1∨16 < g then 3 else if g≤last then 17 else coE g r
def tgB (g:Int):UInt8:=UInt8.ofNat (gtV g).toNat
def zdJ:List UInt8:=[48,49,48,56]
def zdQ:List UInt8:=[48,52,48,48,48,48]
def coF (l:List Int):F:=.cons 24321 zdJ .nil (.cons 24374 zdQ .nil (.cons 92 (l.map tgB) .nil .nil))
def cmE (l:List Int):Int:=if coE 0 l=0 then wrE 17 (coF l) else coE 0 l
def cmB (l:List Int):List UInt8:=if coE 0 l=0 then wrB 17 (coF l) else []
theorem coE_at {o : List Int} {j : Nat} {g : Int} (h : o[j]? = some g) (last : Int) : coE last (o.drop j) = if g < 1 ∨ 16 < g then 3 else if g ≤ last then 17 else coE g (o.drop (j + 1)) := by
 have hj:j < o.length:=(List.getElem?_eq_some_iff.1 h).1
 have e : o.drop j = g :: o.drop (j + 1) := by
  rw [List.drop_eq_getElem_cons hj]
  rw [List.getElem?_eq_getElem hj] at h
  injection h with h
  rw [h]
 rw [e]
 rfl
theorem map_snoc {o : List Int} {j : Nat} {g : Int} (h : o[j]? = some g) : (o.take (j + 1)).map tgB = (o.take j).map tgB ++ [tgB g] := by
 rw [List.take_add_one,h]
 simp
theorem pvv3 {a:Act} {x0 x1 x2:Operand} {u0 u1 u2:Value} (h0:a.eval x0=u0) (h1:a.eval x1=u1) (h2:a.eval x2=u2):((#[(0,x0),(1,x1),(2,x2)]:Array (Nat×Operand)).map fun (i,x)=>(i,a.eval x)).toList=[(0,u0),(1,u1),(2,u2)]:=by simp [h0,h1,h2]
theorem pvv4 {a:Act} {x0 x1 x2 x3:Operand} {u0 u1 u2 u3:Value} (h0:a.eval x0=u0) (h1:a.eval x1=u1) (h2:a.eval x2=u2) (h3:a.eval x3=u3):((#[(0,x0),(1,x1),(2,x2),(3,x3)]:Array (Nat×Operand)).map fun (i,x)=>(i,a.eval x)).toList=[(0,u0),(1,u1),(2,u2),(3,u3)]:=by simp [h0,h1,h2,h3]
theorem pvv6 {a:Act} {x0 x1 x2 x3 x4 x5:Operand} {u0 u1 u2 u3 u4 u5:Value} (h0:a.eval x0=u0) (h1:a.eval x1=u1) (h2:a.eval x2=u2) (h3:a.eval x3=u3) (h4:a.eval x4=u4) (h5:a.eval x5=u5):((#[(0,x0),(1,x1),(2,x2),(3,x3),(4,x4),(5,x5)]:Array (Nat×Operand)).map fun (i,x)=>(i,a.eval x)).toList=[(0,u0),(1,u1),(2,u2),(3,u3),(4,u4),(5,u5)]:=by simp [h0,h1,h2,h3,h4,h5]
theorem bs0108:Tryz.prog.builtSlice 5 4 [(0,.int .u8 48),(1,.int .u8 49),(2,.int .u8 48),(3,.int .u8 56)]=some (Us zdJ).toArray:=by kernel_rfl
theorem bs0400:Tryz.prog.builtSlice 5 6 [(0,.int .u8 48),(1,.int .u8 52),(2,.int .u8 48),(3,.int .u8 48),(4,.int .u8 48),(5,.int .u8 48)]=some (Us zdQ).toArray:=by kernel_rfl
theorem bs3n (a1 a2 a3 b1 b2 b3 c1 c2 c3:Value):Tryz.prog.builtSlice 64 3 [(0,.agg #[a1,a2,a3]),(1,.agg #[b1,b2,b3]),(2,.agg #[c1,c2,c3])]=some #[a1,a2,a3,b1,b2,b3,c1,c2,c3]:=by kernel_rfl
theorem int_atV {w : World} {p : Nat → Prop} {A : Option Addr} {o : List Int} {j : Nat} {q : Int} (h : SeesP w p A (o.map (Value.int .i64))) (hq : o[j]? = some q) : ∃ b off, A = some ⟨b, off, none⟩ ∧ p b ∧ w.cell? ⟨b, off + j, none⟩ = some (.int .i64 q) := by
 have hj:j < o.length:=(List.getElem?_eq_some_iff.1 hq).1
 rcases h with h | ⟨b,off,rfl,hp,hc⟩
 · have := congrArg List.length h
   simp at this
   rw [this] at hj
   simp at hj
 · refine ⟨b, off, rfl, hp, ?_⟩
   rw [hc j (by simpa using hj),List.getElem?_map,hq]
   rfl
theorem zdD {w w':World}:∀b,newB w w' b→b < w'.heap.size:=fun b h=>And.right (show w.heap.size≤b∧b < w'.heap.size from h)
def HeldB (w cur:World) (v:Value) (l:List UInt8):Prop:=cur.ownsRow w.heap.size 5 1 v l.length (Us l)
theorem HeldB.start (w:World):HeldB w w (.slice none 0 0) []:=World.ownsRow_nil w _ _ 1
theorem HeldB.on {w a b:World} {v:Value} {l:List UInt8} (h:HeldB w a v l) (hb:Below a.heap.size a b):HeldB w b v l:=zaI h hb
section
variable {P:Program} {ops:Array Oper} {rest:List Oper} {o:Oper} {a:Act} {w:World} {Q:Exit→Act→World→Prop}
theorem zbJ (hgd : o.guard = none) (T1 T2 : TypeId) (x : Operand) (ho : o.op = .convert T1 T2 x) {v vx : Value} (hx : a.eval x = vx) (hr : (convert T1 T2 vx).run P w = .ok v w) (hK : wpList P ops Q rest (a.put o.dst v) w) : wpList P ops Q (o :: rest) a w :=
 wpList_plain hgd fun _ hK2=>o_cv T1 T2 x ho hx hr (hK2 _ _ hK)
end
theorem freeze_row {w : World} {g k : Nat} {vs : List Value} (h : RowV w g vs) : Wr w (w.freeze ⟨g, k, none⟩ 1) g ∧ ∀ j, (w.freeze ⟨g, k, none⟩ 1).cell? ⟨g, j, none⟩ = vs[j]? := by
 obtain ⟨ty,h⟩:=h
 unfold World.freeze
 rw [if_neg (by decide)]
 refine ⟨⟨rfl,rfl,rfl,by simp,fun q hq=>?_⟩,fun j=>?_⟩
 · show (w.heap.modify g _)[q]? = w.heap[q]?
   rw [Array.getElem?_modify,if_neg (fun e=>hq e.symm)]
 · unfold World.cell?
   show (match (w.heap.modify g _)[g]? with | some (.cells c _ _)=>_ | _=>none)=_
   rw [Array.getElem?_modify,if_pos rfl,h]
   simp
theorem zeZ {ops : Array Oper} {rest : List Oper} {o : Oper} {a : Act} {w : World} {Q : Exit → Act → World → Prop} (hgd : o.guard = none) (x : Operand) (ho : o.op = .convert 27 27 x) (g n : Nat) (hx : a.eval x = .slice (some ⟨g, 0, none⟩) n n) {l : List UInt8} (hr : RowV w g (Us l))
 (hK:∀w',Wr w w' g→SeesP w' (fun b=>b=g) (some ⟨g,0,none⟩) (Us l)→wpList Tryz.prog ops Q rest (a.put o.dst (.slice (some ⟨g,0,none⟩) n n)) w'):wpList Tryz.prog ops Q (o::rest) a w:=by
 obtain ⟨ty,hh⟩:=id hr
 have hsh:w.shape? g=some (ty,(Us l).toArray.size):=by unfold World.shape?;rw [hh]
 have hrun : (convert 27 27 (.slice (some ⟨g, 0, none⟩) n n)).run Tryz.prog w = .ok (.slice (some ⟨g, 0, none⟩) n n) (w.freeze ⟨g, (Us l).toArray.size, none⟩ 1) := by
  simp [convert,run_underlying Tryz.underlying27,run_underlying Tryz.underlying5,markStringish,hsh]
 obtain ⟨h1,h2⟩:=freeze_row (k:=(Us l).toArray.size) hr
 refine wpList_plain hgd fun K hK2=>?_
 unfold Oper.wp execOp
 simp only [ho,hx]
 rw [Sem.run_bind,hrun]
 exact hK2 _ _ (hK _ h1 (.inr ⟨g,0,rfl,rfl,fun j hj=>by rw [Nat.zero_add];exact h2 j⟩))
theorem coF_ok (o:List Int) (h:o.length≤16):(coF o).ok:=⟨by decide,by decide,trivial,by decide,by decide,trivial,by decide,by rw [List.length_map];omega,trivial,trivial⟩
theorem coF_size (o:List Int):(coF o).size=3:=rfl
end Go.Proofs.YtnlhbknajdpnbaaGreatDoor
namespace Go.Proofs.YtnlhbknajdpnbaaGreatDoor
def Sub (y:Int):Prop:=∃n:Nat,y=(n:Int)∧n < gP∧n ^ gQ % gP=1
theorem gP1:1 < gP:=by decide
theorem gP_pos:0 < gP:=by decide
theorem pos_of {n : Nat} (h : n ^ gQ % gP = 1) : 0 < n := by
 rcases Nat.eq_zero_or_pos n with rfl | h0
 · rw [Nat.zero_pow (show 0 < gQ by decide),Nat.zero_mod] at h;cases h
 · exact h0
theorem Sub.res {y : Int} (h : Sub y) : resB y = true := by
 obtain ⟨n,rfl,h1,h2⟩:=h
 have h0:=pos_of h2
 unfold gP at h1
 exact resB_mk (by omega) (by omega)
theorem pwZ_q (n:Nat):pwZ (n:Int) 1073741789=((n ^ gQ % gP:Nat):Int):=rfl
theorem Sub.el {y : Int} (h : Sub y) (hne : y ≠ 1) : elB y = true := by
 unfold elB
 rw [h.res]
 obtain ⟨n,rfl,h1,h2⟩:=h
 rw [pwZ_q,h2]
 simpa using hne
theorem Sub.pow {a : Int} (h : Sub a) (k : Int) : Sub (pwZ a k) := by
 obtain ⟨n,rfl,h1,h2⟩:=h
 refine ⟨n ^ k.toNat % gP,rfl,Nat.mod_lt _ gP_pos,?_⟩
 rw [pm_pow,←Nat.pow_mul,Nat.mul_comm]
 exact pm_one gP1 h2 _
theorem sub_four:Sub 4:=⟨4,rfl,by decide,zgQ⟩
theorem four_ne:4 % gP≠1:=by decide
theorem pt_ne {k : Int} (h1 : 1 ≤ k) (h2 : k < 1073741789) : pwZ 4 k ≠ 1 := by
 have h:=pm_order gP1 gQ_prime four_ne zgQ (k:=k.toNat) (by omega) (by unfold gQ;omega)
 intro e
 apply h
 have e2:((4 ^ k.toNat % gP:Nat):Int)=1:=e
 omega
theorem pt_el {k:Int} (h1:1≤k) (h2:k < 1073741789):elB (pwZ 4 k)=true:=(sub_four.pow k).el (pt_ne h1 h2)
end Go.Proofs.YtnlhbknajdpnbaaGreatDoor
namespace Go.Proofs.YtnlhbknajdpnbaaGreatDoor
open Go.RowKit
def GvB (w:World) (n:Nat) (l:List UInt8) (er:Int) (e:Ending) (w':World):Prop:=∃A c,e=.returned (.tuple #[.slice A n c,.int .i64 er])∧Sees w' w'.heap.size A (Us l)∧Below w.heap.size w w'
theorem gvB_nil (w:World) (r:Int):GvB w 0 [] r (.returned (.tuple #[.slice none 0 0,.int .i64 r])) w:=⟨none,0,rfl,.inl rfl,Below.refl _ _⟩
def enN (x:Int):Nat:=if elB x=true then 4 else 0
def enL (x:Int):List UInt8:=if elB x=true then octL x.toNat 4 else []
def enE (x:Int):Int:=if elB x=true then 0 else 10
theorem en_yes {x:Int} (h:elB x=true):enN x=4∧enL x=octL x.toNat 4∧enE x=0:=by simp [enN,enL,enE,h]
theorem en_no {x:Int} (h:elB x=false):enN x=0∧enL x=[]∧enE x=10:=by simp [enN,enL,enE,h]
theorem en_len (x:Int):(enL x).length=enN x:=by unfold enN enL;split <;> simp [zav]
theorem enN_le (x:Int):enN x≤4:=by unfold enN;split <;> omega
theorem four_usZ (x : Int) (h0 : 0 ≤ x) (h : x < 4294967296) : Us (octL x.toNat 4) = [.int .u8 (x / 16777216), .int .u8 ((x / 65536) % 256), .int .u8 ((x / 256) % 256), .int .u8 (x % 256)] := by
 rw [octL4]
 simp only [Us,U,List.map_cons,List.map_nil,UInt8.toNat_ofNat']
 have e1:((x.toNat / 16777216 % 2 ^ 8:Nat):Int)=x / 16777216:=by omega
 have e2:((x.toNat / 65536 % 2 ^ 8:Nat):Int)=x / 65536 % 256:=by omega
 have e3:((x.toNat / 256 % 2 ^ 8:Nat):Int)=x / 256 % 256:=by omega
 have e4:((x.toNat % 2 ^ 8:Nat):Int)=x % 256:=by omega
 rw [e1,e2,e3,e4]
theorem sees_rowZ {wr : World} {t : TypeId} {cs : List Value} {l : List UInt8} (h : Us l = cs) : Sees (wr.alloc (.cells cs.toArray t)) (wr.alloc (.cells cs.toArray t)).heap.size (some ⟨wr.heap.size, 0, none⟩) (Us l) := by
 subst h
 refine .inr ⟨wr.heap.size,0,rfl,by simp,fun j hj=>?_⟩
 rw [Nat.zero_add,cell_of_row _ _ j _ t (0,0) (heap_alloc_new wr _)]
 simp
theorem below_alZ (w:World) (o:Obj):Below w.heap.size w (w.alloc o):=(Below.refl _ w).alloc (Nat.le_refl _) o
theorem ref_fourZ (x : Int) (w : World) (h0 : 0 ≤ x) (h : x < 4294967296) : Calls Tryz.prog 79 #[.int .i64 x] w fun e w' => ∃ A c, e = .returned (.slice A 4 c) ∧ Sees w' w'.heap.size A (Us (octL x.toNat 4)) ∧ Below w.heap.size w w' := by
 have H:=Lib.hid (four_usZ x h0 h)
 go_enter Tryz.func79,Tryz.ntmps79
 go_wp2
 go_ret
 exact ⟨_,4,rfl,sees_rowZ H.out,below_alZ _ _⟩
theorem ref_encode (x : Int) (w : World) : Calls Tryz.prog 51 #[.int .i64 x] w (GvB w (enN x) (enL x) (enE x)) := by
 by_cases hx:elB x=true
 · obtain ⟨h3, h4⟩ := elB_bd hx
   obtain ⟨v1,v2,v3⟩:=en_yes hx
   rw [v1,v2,v3];clear v1 v2 v3
   go_enter Tryz.func51,Tryz.ntmps51
   go_wp2_with fail
   with_reducible refine (zdP x _).mono ?_
   rintro e w' ⟨rfl,rfl⟩
   go_wp2_with fail
   with_reducible refine (ref_fourZ x _ (by omega) (by omega)).mono ?_
   rintro e w1 ⟨A,c,rfl,hs,hb⟩
   have HS:=Lib.hid (And.intro hs hb)
   clear hs hb
   go_wp2
   go_ret2
   exact ⟨A,c,rfl,HS.out.1,HS.out.2⟩
 · have hr : elB x = false := by simpa using hx
   obtain ⟨v1,v2,v3⟩:=en_no hr
   rw [v1,v2,v3];clear v1 v2 v3 hx
   go_enter Tryz.func51,Tryz.ntmps51
   go_wp2_with (go_at_call 77;((with_reducible refine (zdP x _).mono ?_);rintro e w' ⟨rfl,rfl⟩))
   go_ret2
   exact gvB_nil _ _
end Go.Proofs.YtnlhbknajdpnbaaGreatDoor
namespace Go.Proofs.YtnlhbknajdpnbaaGreatDoor
open Go.RowKit
set_option maxRecDepth 8000
def acF (x:Int):F:=.cons 4 (enL x) .nil .nil
def acE (x:Int):Int:=if enE x=0 then wrE 15 (acF x) else enE x
def acB (x:Int):List UInt8:=if enE x=0 then wrB 15 (acF x) else []
theorem one_prim {w : World} {g : Nat} {t : Int} {v : List UInt8} {A : Option Addr} {c n : Nat} (e : v.length = n) (hr : RowV w g [.int .i64 t, .slice A n c, .slice none 0 0]) (h : SeesP w (· < w.heap.size) A (Us v) ∧ (A = none → c = 0) ∧ n ≤ c) : SeesQ w (· < w.heap.size) (some ⟨g, 0, none⟩) (.cons t v .nil .nil) := by
 subst e
 exact ⟨_,.inr ⟨g,0,rfl,hr.lt,fun j hj=>by rw [Nat.zero_add];exact hr.cell j⟩,A,c,none,0,[],[],rfl,⟨h.2.1,fun _=>h.2.2⟩,h.1,.inl rfl,rfl,rfl⟩
set_option maxHeartbeats 1600000 in
theorem r_active (x : Int) (w : World) (ht : TabG w) : Calls Tryz.prog 23 #[.int .i64 x] w (zaU w (acB x) (acE x)) := by
 have HT:=Lib.hid ht
 have HEN:=Lib.hid (ref_encode x w)
 have hlen:=en_len x
 have hle:=enN_le x
 rcases hx:elB x with _ | _
 · obtain ⟨e1, e2, e3⟩ := en_no hx
   rw [e1,e2,e3] at HEN
   have HG := Lib.hid (show ∀ u, Below w.heap.size w u → zaU w (acB x) (acE x) (.returned (.tuple #[.slice none 0 0, .int .i64 10])) u from fun u hb => by
    unfold acB acE
    rw [e3,if_neg (by decide),if_neg (by decide)]
    exact ⟨none,0,rfl,.inl rfl,hb,Nat.le_refl _,fun _=>rfl⟩)
   clear e1 e2 e3 hx hlen hle ht
   go_enter Tryz.func23,Tryz.ntmps23
   go_wp2_with (first
    | (go_at_call 51;((with_reducible refine HEN.out.mono ?_);rintro e w1 ⟨A1,c1,rfl,hs,hb⟩);have H1:=Lib.hid (HG.out _ hb);clear hs hb))
   go_ret2
   exact H1.out
 · obtain ⟨e1, e2, e3⟩ := en_yes hx
   rw [e1,e3] at HEN
   have hl4:(enL x).length=4:=by rw [hlen,e1]
   have HWR := Lib.hid (show ∀ (X : Option Addr) (cx : Nat) (u : World), Below w.heap.size w u → SeesQ u (· < u.heap.size) X (acF x) → Calls Tryz.prog 25 #[.int .i64 15, .slice X 1 cx] u (zaU u (acB x) (acE x)) from fun X cx u hb hx => by
    have q1:acB x=wrB 15 (acF x):=by unfold acB;rw [if_pos e3]
    have q2:acE x=wrE 15 (acF x):=by unfold acE;rw [if_pos e3]
    rw [q1,q2]
    exact zgG 15 (acF x) 1 rfl X cx u (HT.out.on hb) (by decide) (by decide) (by show (0+0+1) < _;decide) ⟨by decide,by rw [hl4];decide,trivial,trivial⟩ ⟨by rw [hl4];decide,trivial,trivial⟩ hx)
   obtain ⟨bs,hbs⟩ : ∃z,acB x=z:=⟨_,rfl⟩
   obtain ⟨er,her⟩ : ∃z,acE x=z:=⟨_,rfl⟩
   rw [hbs,her] at HWR
   have HBE:=Lib.hid (show acB x=bs∧acE x=er from ⟨hbs,her⟩)
   have HF:Hid (acF x=.cons 4 (enL x) .nil .nil):=Lib.hid rfl
   obtain ⟨W,hW⟩ : ∃z,acF x=z:=⟨_,rfl⟩
   rw [hW] at HWR HF
   obtain ⟨L,hL⟩ : ∃z,enL x=z:=⟨_,rfl⟩
   rw [hL] at HEN HF hl4
   have HL:=Lib.hid hl4
   clear e1 e2 e3 hx hlen hle ht hbs her hW hL hl4
   go_enter Tryz.func23,Tryz.ntmps23
   go_wp2_with (first
    | (go_at_call 51; ((with_reducible refine HEN.out.mono ?_); rintro e w1 ⟨A1, c1, rfl, hs, hb⟩); have H1 := Lib.hid (show SeesP w1 (· < w1.heap.size) A1 (Us L) ∧ Below w.heap.size w w1 ∧ (A1 = none → c1 = 0) from ⟨hs, hb, fun h => by
     subst h
     have:=SeesP.none_nil (SeesP.iff_sees.2 hs)
     have:=congrArg List.length this
     rw [zat,HL.out] at this
     cases this⟩);clear hs hb)
    | (go_at_call 39;((with_reducible refine (zcT 4 L 4 HL.out (by decide) A1 c1 H1.out.2.2 _ H1.out.1).mono ?_);rintro e w2 ⟨A2,c2,rfl,hc,hs,hb⟩);have H2:=Lib.hid (show Below w.heap.size w w2∧SeesP w2 (· < w2.heap.size) A2 (Us L)∧(A2=none→c2=0)∧4≤c2 from ⟨zaf H1.out.2.1 hb,hs.imp zdD,hc⟩);clear hc hs hb)
    | ((with_reducible refine zal (d:=16) ?_);go_must (refine zap rfl 30 64 1 _ rfl Tryz.underlying30 (pe1 rfl) (bs1 _ _ _) ?_);intro g3 w3 hf hr;have H3:=Lib.hid (show Below w.heap.size w w3∧SeesQ w3 (· < w3.heap.size) (some ⟨g3,0,none⟩) W from ⟨zaf H2.out.1 hf.bw,by rw [HF.out];exact one_prim HL.out hr ⟨SeesP.on2 H2.out.2.1 hf.bw,H2.out.2.2⟩⟩);clear hf hr)
    | (go_at_call 25;((with_reducible refine (HWR.out _ _ _ H3.out.1 H3.out.2).mono ?_);rintro e w7 ⟨A7,c7,rfl,h1,h2,h3⟩);have H7:=Lib.hid (show _∧_∧_ from ⟨h1,h2,h3⟩);clear h1 h2 h3))
   have HD := Lib.hid (show zaU w (acB x) (acE x) (.returned (.tuple #[.slice A7 bs.length c7, .int .i64 er])) w7 from by
    rw [HBE.out.1,HBE.out.2]
    exact ⟨A7,c7,rfl,H7.out.1.imp fun b hb=>⟨Nat.le_trans H3.out.1.size hb.1,hb.2⟩,zaf H3.out.1 H7.out.2.1,H7.out.2.2⟩)
   go_ret2
   exact HD.out
end Go.Proofs.YtnlhbknajdpnbaaGreatDoor
namespace Go.Proofs.YtnlhbknajdpnbaaGreatDoor
open Go.RowKit
def exB (a b c:UInt8):UInt8:=if c=a then b else c
def exL (a b:UInt8) (x:List UInt8):List UInt8:=x.map (exB a b)
theorem zah (a b:UInt8) (x:List UInt8):(exL a b x).length=x.length:=by simp [exL]
def exTo (a b:UInt8) (x:List UInt8) (k:Nat):List UInt8:=exL a b (x.take k)++x.drop k
theorem zfI (a b:UInt8) (x:List UInt8) (k:Nat) (hk:k≤x.length):(exTo a b x k).length=x.length:=by simp [exTo,exL];omega
theorem exTo_zero (a b:UInt8) (x:List UInt8):exTo a b x 0=x:=by simp [exTo,exL]
theorem exTo_all (a b:UInt8) (x:List UInt8) (k:Nat) (h:x.length≤k):exTo a b x k=exL a b x:=by simp [exTo,List.take_of_length_le h,List.drop_eq_nil_of_le h]
theorem zcK (a b : UInt8) (x : List UInt8) (k : Nat) (hk : k < x.length) : exTo a b x (k + 1) = exL a b (x.take k) ++ (exB a b x[k] :: x.drop (k + 1)) ∧ exTo a b x k = exL a b (x.take k) ++ (x[k] :: x.drop (k + 1)) := by
 unfold exTo
 refine ⟨?_,by rw [←List.drop_eq_getElem_cons hk]⟩
 have:x.take (k+1)=x.take k++[x[k]]:=List.take_succ_eq_append_getElem hk
 rw [this]
 simp only [exL,List.map_append,List.map_cons,List.map_nil,List.append_assoc,List.singleton_append]
theorem exTo_get (a b : UInt8) (x : List UInt8) (k : Nat) (hk : k < x.length) : (exTo a b x k)[k]? = some x[k] := by
 rw [(zcK a b x k hk).2,List.getElem?_append_right (by simp [exL];omega)]
 have:(exL a b (List.take k x)).length=k:=by simp [exL];omega
 rw [this,Nat.sub_self]
 rfl
theorem exTo_keep (a b : UInt8) (x : List UInt8) (k : Nat) (hk : k < x.length) (h : x[k] ≠ a) : exTo a b x (k + 1) = exTo a b x k := by
 rw [(zcK a b x k hk).1,(zcK a b x k hk).2]
 unfold exB
 rw [if_neg h]
theorem exTo_set (a b : UInt8) (x : List UInt8) (k : Nat) (hk : k < x.length) (h : x[k] = a) : exTo a b x (k + 1) = (exTo a b x k).set k b := by
 rw [(zcK a b x k hk).1,(zcK a b x k hk).2,List.set_append_right _ _ (by simp [exL];omega)]
 have:k - (exL a b (List.take k x)).length=0:=by simp [exL];omega
 rw [this]
 unfold exB
 rw [if_pos h]
 rfl
def ExR (w:World) (g:Nat) (l:List UInt8) (z:Nat):Prop:=∃m,l.length≤m∧w.heap[g]? = some (.cells (Us l++List.replicate z (Value.int .u8 0)).toArray 5 (m,m+1))
theorem ExR.cell {w : World} {g : Nat} {l : List UInt8} {z : Nat} (h : ExR w g l z) {k : Nat} {c : UInt8} (hk : l[k]? = some c) : w.cell? ⟨g, k, none⟩ = some (.int .u8 (c.toNat : Int)) := by
 obtain ⟨m,hm,h⟩:=h
 have hl:k < l.length:=(List.getElem?_eq_some_iff.1 hk).1
 rw [cell_of_row w g k _ _ _ h,List.getElem?_toArray,List.getElem?_append_left (by rw [zat];exact hl),zeT hl]
 rw [(List.getElem?_eq_some_iff.1 hk).2]
theorem ExR.free {w : World} {g : Nat} {l : List UInt8} {z : Nat} (h : ExR w g l z) {k : Nat} (hk : k < l.length) : w.frozen? ⟨g, k, none⟩ = false := by
 obtain ⟨m,hm,h⟩:=h
 unfold World.frozen?
 rw [h]
 simp
 omega
theorem ExR.set {w : World} {g : Nat} {l : List UInt8} {z : Nat} (h : ExR w g l z) {k : Nat} (hk : k < l.length) (c : UInt8) : ExR (w.setCell ⟨g, k, none⟩ (.int .u8 (c.toNat : Int))) g (l.set k c) z := by
 obtain ⟨m,hm,h⟩:=h
 refine ⟨m,by rw [List.length_set];exact hm,?_⟩
 rw [Go.Joins.block_setCell h]
 congr 2
 rw [←Us_set]
 simp only [List.setIfInBounds_toArray]
 rw [List.set_append_left _ _ (by rw [zat];exact hk)]
 rfl
theorem ExR.sees {w : World} {g : Nat} {l : List UInt8} {z : Nat} (h : ExR w g l z) : Sees w (g + 1) (some ⟨g, 0, none⟩) (Us l) :=
 .inr ⟨g, 0, rfl, by omega, fun j hj => by
  rw [zat] at hj
  rw [Nat.zero_add,h.cell (c:=l[j]) (by simp [hj]),zeT hj]⟩
theorem ex_conv (s : ByteArray) (x : List UInt8) (hx : s = S x) (w : World) : ∃ W cap z, (convert 9 27 (.string s)).run Tryz.prog w = .ok (.slice (some ⟨w.heap.size, 0, none⟩) s.size cap) W ∧ ExR W w.heap.size x z ∧ Below w.heap.size w W ∧ s.size ≤ cap := by
 refine ⟨_,_,grownCap w s.size 0 5 - s.size,run_bytes_of_string w 9 27 5 s Tryz.underlying9 Tryz.underlying27 Tryz.underlying5,?_,?_,by have:=grownCap_ge w s.size 0 5;omega⟩
 · subst hx
   have e : bytesRow (S x) (grownCap w (S x).size 0 5) = (Us x ++ List.replicate (grownCap w (S x).size 0 5 - (S x).size) (Value.int .u8 0)).toArray := by
    unfold bytesRow
    apply Array.toList_inj.1
    simp only [S,Array.toList_append,Array.toList_map,Array.toList_replicate];rfl
   rw [e]
   exact ⟨_,by simp [Us],heap_alloc_new w.drew _⟩
 · exact ((zbS w.heap.size w 1).alloc (Nat.le_refl _) _)
set_option maxHeartbeats 800000 in
theorem r_fill (s : ByteArray) (x : List UInt8) (hx : s = S x) (w : World) (hm : s.size ≤ 140737488355328) :
 Calls Tryz.prog 95 #[.string s] w fun e w'=>e=.returned (.string (S (exL 32 60 x)))∧Below w.heap.size w w':=by
 have hl:s.size=x.length:=by rw [hx,zao]
 obtain ⟨W,cap,z,hcv,hR,hW,hcap⟩:=ex_conv s x hx w
 have HR:=Lib.hid hR
 have HB:=Lib.hid hW
 have HL:=Lib.hid hl
 obtain ⟨g,hg⟩ : ∃g,g=w.heap.size:=⟨_,rfl⟩
 rw [←hg] at hcv HR HB ⊢
 have HG:=Lib.hid hg
 clear hR hW hl hg hx
 go_enter Tryz.func95,Tryz.ntmps95
 go_wp2
 go_loopw [4] (fun i wr=>∃k:Nat,k≤s.size∧i=.int .i64 k∧Hid (ExR wr g (exTo 32 60 x k) z)∧Hid (Below g w wr)) (fun i _=>s.size - (intOf i).toNat)
 case atStart=>exact ⟨0,Nat.zero_le _,rfl,Lib.hid (by rw [exTo_zero];exact HR.out),HB⟩
 case round =>
  obtain ⟨k,hk,rfl,HE,HW⟩:=hrel
  by_cases hlt:k < s.size
  · have hkx : k < x.length := by have := HL.out; omega
    have c0:=HE.out.cell (exTo_get 32 60 x k hkx)
    have f0:=HE.out.free (k:=k) (by rw [zfI _ _ _ _ (by omega)];exact hkx)
    clear hcv
    by_cases h:x[k]=32
    · have hi : (x[k].toNat : Int) = ((32 : UInt8).toNat : Int) := by rw [h]
      have h2 : Hid (ExR (wr.setCell ⟨g, k, none⟩ (.int .u8 ((60 : UInt8).toNat : Int))) g (exTo 32 60 x (k + 1)) z) := Lib.hid (by
       rw [exTo_set _ _ _ _ hkx h]
       exact HE.out.set (by rw [zfI _ _ _ _ (by omega)];exact hkx) _)
      have h3:Hid (Below g w (wr.setCell ⟨g,k,none⟩ (.int .u8 ((60:UInt8).toNat:Int)))):=Lib.hid (HW.out.setCell (p:=⟨g,k,none⟩) (Nat.le_refl _) _)
      rw [hi] at c0
      clear hi h hkx
      go_wp2
      go_roundw
      case rel=>exact ⟨k+1,by omega,by go_num,h2,h3⟩
      case measure=>simp [intOf];omega
    · have d0 : ((x[k].toNat : Int) == 32) = false := by
       simp only [beq_eq_false_iff_ne]
       intro e
       exact h (UInt8.toNat_inj.1 (Int.ofNat_inj.1 e))
      have h2:Hid (ExR wr g (exTo 32 60 x (k+1)) z):=Lib.hid (by rw [exTo_keep _ _ _ _ hkx h];exact HE.out)
      clear h
      go_wp2
      go_roundw
      case rel=>exact ⟨k+1,by omega,by go_num,h2,HW⟩
      case measure=>simp [intOf];omega
  · have hE : ExR wr g (exL 32 60 x) z := by have := HE.out; rwa [exTo_all _ _ _ _ (by have := HL.out; omega)] at this
    have hc:=zcD wr _ _ _ hE.sees s.size cap (by rw [zah];exact HL.out)
    clear hE hcv
    go_wp2
    go_ret
    exact ⟨rfl,HW.out⟩
end Go.Proofs.YtnlhbknajdpnbaaGreatDoor
