/-
  What is proved here: what the reference's list returns, for bytes that lie in memory: the objects that the program's Parse reads.
-/
import Derived.Test.YtnlhbknajdpnbaaGreatDoorRows
import Derived.Test.YtnlhbknajdpnbaaGreatDoorF0
import Derived.Test.YtnlhbknajdpnbaaGreatDoorF39
import Derived.Test.YtnlhbknajdpnbaaGreatDoorF8
import Derived.Test.YtnlhbknajdpnbaaGreatDoorF9
import Derived.Deep.CutRange
import Derived.Deep.DeepCutAuto
import Derived.BigQuiet
import Derived.Deep.CutBlock
set_option linter.unusedVariables false
set_option linter.unusedSimpArgs false
namespace Go.Proofs.YtnlhbknajdpnbaaGreatDoor
open Go.RowKit
theorem zbd {fn : Func} {t u v x : Tmp} (h : fn.results = #[.tmp t, .tmp u, .tmp v, .tmp x]) (tmps : Array Value) (P : Program) (w : World) :
 (results fn tmps).run P w=.ok (.tuple #[tmps.getD t undef,tmps.getD u undef,tmps.getD v undef,tmps.getD x undef]) w:=by
 simp [results,h]
def zbM (op : Bool) (ob : Nat → List UInt8 → Except Int ObR) (m c : Nat) (l : List UInt8) : Except Int (F × List UInt8 × Nat) :=
 if op = true then zbF ob m c l else match zbH ob m c l with
  | .error e=>.error e
  | .ok (f,c')=>.ok (f,[],c')
def Cont (op:Bool) (l:List UInt8):Prop:=l≠[]∧(op=true→(2≤l.length→l.take 2≠[0,0])∧(l.length < 2→l.getD 0 0≠0))
theorem hdr_one {l : List UInt8} (h : l.length = 1) (h0 : l.getD 0 0 ≠ 0) : hdrE l = 6 := by
 match l,h with
 | [a], _ =>
   have ha:=UInt8.toNat_lt a
   have hn:a.toNat≠0:=fun e=>h0 (UInt8.toNat_inj.1 e)
   unfold hdrE
   by_cases h31:a.toNat % 32=31
   · have : tagE [a] = 6 := by simp only [tagE]; rw [if_pos h31]
     rw [this];rfl
   · have hv : zaA (a.toNat : Int) = true := by rw [valid_in (by omega) (by omega)]; simp; omega
     have:tagE [a]=0:=by simp only [tagE];rw [if_neg h31,hv];rfl
     rw [this,if_neg (by decide),if_pos]
     unfold hdrZ
     have:1≤tagN (tagV [a]:Nat):=by unfold tagN;split <;> omega
     simp;omega
theorem pO_hdr {st : Bool} {k c : Nat} {l : List UInt8} (h : hdrE l ≠ 0) : pObj st k c l = .error (hdrE l) := by
 cases k <;> (unfold pObj;rw [if_pos h])
theorem pO_adm {st : Bool} {k c : Nat} {l : List UInt8} {x : Int} (h : hdrE l = 0) (hx : admE st (tagV l) (hdrF l) (hdrN l) (9 - (k : Int)) c = x) (hn : x ≠ 0) : pObj st k c l = .error x := by
 cases k with
 | zero =>
   unfold pObj
   rw [if_neg (by omega)]
   rw [←hx];rfl
 | succ k =>
   unfold pObj
   have e:(9:Int) - ((k+1:Nat):Int)=8 - (k:Int):=by omega
   rw [e] at hx
   rw [if_neg (by omega),if_pos (by rw [hx];exact hn),hx]
theorem loopU_end0 (ob : Nat → List UInt8 → Except Int ObR) (m c : Nat) : zbM false ob m c [] = .ok (.nil, [], c) := by
 unfold zbM;rw [if_neg (by decide),zfw]
theorem loopU_end1 {ob : Nat → List UInt8 → Except Int ObR} {m c : Nat} {l : List UInt8} (h : 2 ≤ l.length) (h2 : l.take 2 = [0, 0]) : zbM true ob (m + 1) c l = .ok (.nil, l.drop 2, c) := by
 unfold zbM;rw [if_pos rfl,zft h h2]
theorem loopU_short {ob : Nat → List UInt8 → Except Int ObR} {m c : Nat} {l : List UInt8} (h : l.length < 2) {acc : F} : zfe acc (zbM true ob m c l) = .error 6 := by
 unfold zbM;rw [if_pos rfl];exact zfV h
theorem loopU_err {op st : Bool} {k m c : Nat} {l : List UInt8} {x : Int} (h : Cont op l) (hx : pObj st k c l = .error x) : zbM op (pObj st k) (m + 1) c l = .error x := by
 unfold zbM
 cases op with
 | false=>rw [if_neg (by decide),loopL_err h.1 hx]
 | true =>
   rw [if_pos rfl]
   by_cases h2:2≤l.length
   · exact loopM_err h2 ((h.2 rfl).1 h2) hx
   · have h1 : l.length = 1 := by
      have:=List.length_pos_iff.2 h.1
      omega
     have hE:=hdr_one h1 ((h.2 rfl).2 (by omega))
     rw [pO_hdr (by rw [hE];decide),hE] at hx
     injection hx with hx
     subst hx
     simp only [zbF]
     rw [if_pos (by omega)]
theorem loopU_ok {op st : Bool} {k m c : Nat} {l : List UInt8} {t : Int} {v : List UInt8} {kf : F} {rest : List UInt8} {c' : Nat} (h : Cont op l) (hx : pObj st k c l = .ok (t, v, kf, rest, c')) :
 zbM op (pObj st k) (m+1) c l=zfe (.cons t v kf .nil) (zbM op (pObj st k) m c' rest):=by
 have hr:=zcb st k c l t v kf rest c' hx
 unfold zbM
 cases op with
 | false =>
   rw [if_neg (by decide),if_neg (by decide),loopL_ok h.1 hx]
   cases zbH (pObj st k) m c' rest with
   | error e=>rfl
   | ok q=>obtain ⟨f,c2⟩:=q;rfl
 | true =>
   rw [if_pos rfl,if_pos rfl]
   exact loopM_ok (by omega) ((h.2 rfl).1 (by omega)) hx
def RLIs (w : World) (n : Nat) (r : Except Int (F × List UInt8 × Nat)) (e : Ending) (w' : World) : Prop :=
 Below w.heap.size w w'∧match r with
 | .error x=>e=.returned (.tuple #[.slice none 0 0,.int .i64 0,.int .i64 0,.int .i64 x])∧x≠0
 | .ok (f,rest,c')=>∃A c,e=.returned (.tuple #[.slice A f.len c,.int .i64 ((n - rest.length:Nat):Int),.int .i64 (c':Int),.int .i64 0])∧SeesF w' (newB w w') A f
def RAll (st : Bool) (k : Nat) : Prop := ∀ (op : Bool) (D : Int) (c : Nat) (l : List UInt8) (A : Option Addr) (cap : Nat) (w : World) (p : Nat → Prop), D = 9 - (k : Int) → (∀ x, p x → x < w.heap.size) → c ≤ 256 → l.length ≤ 4096 → l.length ≤ cap → SeesP w p A (Us l) →
 Calls Tryz.prog 28 #[.slice A l.length cap,.int .i64 D,.int .i64 (c:Int),.bool st,.bool op] w (RLIs w l.length (zbM op (pObj st k) l.length c l))
def RLR (w : World) (p : Nat → Prop) (op : Bool) (ob : Nat → List UInt8 → Except Int ObR) (res : Except Int (F × List UInt8 × Nat)) (v : Value) (acc : F) (A : Option Addr) (l : List UInt8) (m aN cN : Nat) (wr : World) : Prop :=
 Held w wr v acc∧SeesP wr p A (Us l)∧Below w.heap.size w wr∧l.length - aN≤m∧zfe acc (zbM op ob m cN (l.drop aN))=res
theorem tagN_len {l : List UInt8} (h : tagE l = 0) : tagN (tagV l : Nat) ≤ l.length ∧ 1 ≤ tagN (tagV l : Nat) := by
 refine ⟨?_,by unfold tagN;split <;> omega⟩
 match l with
 | []=>simp [tagE] at h
 | [a] =>
   have ha:=UInt8.toNat_lt a
   have e : tagN ((tagV [a] : Nat) : Int) = 1 := by
    show tagN ((a.toNat:Nat):Int)=1
    unfold tagN
    rw [if_neg (by omega)]
   rw [e]
   simp
 | a::b::r=>have:=zfN (tagV (a::b::r):Nat);simp only [List.length_cons];omega
theorem tagV_le (l : List UInt8) : tagV l ≤ 65535 := by
 match l with
 | []=>simp [tagV]
 | [a]=>have:=UInt8.toNat_lt a;simp only [tagV];omega
 | a :: b :: r =>
   have:=UInt8.toNat_lt a
   have:=UInt8.toNat_lt b
   simp only [tagV]
   split <;> omega
theorem hdrE_tag {l:List UInt8} (h:tagE l≠0):hdrE l=tagE l:=by unfold hdrE;rw [if_pos h]
theorem rz_err {st : Bool} {k c : Nat} {l : List UInt8} (hT : tagE l = 0) (hx : rzE (zaE (tagV l)) st (l.drop (tagN (tagV l : Nat))) ≠ 0) :
 pObj st k c l=.error (rzE (zaE (tagV l)) st (l.drop (tagN (tagV l:Nat)))):=by
 by_cases h:hdrE l=0
 · obtain ⟨h1, _, _⟩ := rz_good (st := st) hT h
   by_cases hf:(hdrF l=128∧zaE (tagV l)=false)∨(st=true∧zbp (hdrF l) (hdrN l)=false)
   · rw [if_pos hf] at h1
     rw [h1]
     exact pO_adm h (by unfold admE;rw [if_pos hf]) (by decide)
   · rw [if_neg hf] at h1
     exact absurd h1 hx
 · rw [rz_bad hT h]
   exact pO_hdr h
theorem rz_fine {st : Bool} {l : List UInt8} (hT : tagE l = 0) (hx : rzE (zaE (tagV l)) st (l.drop (tagN (tagV l : Nat))) = 0) :
 hdrE l=0∧(∀c d,admE st (tagV l) (hdrF l) (hdrN l) d c=if 8 < d then 7 else if 256 < c+1 then 2 else 0) ∧
 rzN (l.drop (tagN (tagV l:Nat)))=(if hdrF l=128 then -1 else (hdrN l:Int))∧tagN (tagV l:Nat)+rzK (l.drop (tagN (tagV l:Nat)))=hdrS l:=by
 by_cases h:hdrE l=0
 · obtain ⟨h1, h2, h3⟩ := rz_good (st := st) hT h
   by_cases hf:(hdrF l=128∧zaE (tagV l)=false)∨(st=true∧zbp (hdrF l) (hdrN l)=false)
   · rw [if_pos hf] at h1
     rw [h1] at hx;cases hx
   · exact ⟨h,fun c d=>by unfold admE;rw [if_neg hf],h2,h3⟩
 · rw [rz_bad hT h] at hx
   exact absurd hx h
theorem pO_long {st : Bool} {j c : Nat} {l : List UInt8} (h : hdrE l = 0) (ha : admE st (tagV l) (hdrF l) (hdrN l) (8 - (j : Int)) c = 0) (hf : hdrF l ≠ 128) (hl : (l.drop (hdrS l)).length < hdrN l) : pObj st (j + 1) c l = .error 6 := by
 unfold pObj
 rw [if_neg (by omega),if_neg (by omega),if_neg hf,if_pos hl]
theorem pO_prim {st : Bool} {j c : Nat} {l : List UInt8} (h : hdrE l = 0) (ha : admE st (tagV l) (hdrF l) (hdrN l) (8 - (j : Int)) c = 0) (hf : hdrF l ≠ 128) (hl : hdrN l ≤ (l.drop (hdrS l)).length) (hc : zaE (tagV l : Nat) = false) :
 pObj st (j+1) c l=.ok (tagV l,(l.drop (hdrS l)).take (hdrN l),.nil,(l.drop (hdrS l)).drop (hdrN l),c+1):=by
 unfold pObj
 rw [if_neg (by omega),if_neg (by omega),if_neg hf,if_neg (by omega),if_pos hc]
theorem pO_con {st : Bool} {j c : Nat} {l : List UInt8} (h : hdrE l = 0) (ha : admE st (tagV l) (hdrF l) (hdrN l) (8 - (j : Int)) c = 0) (hf : hdrF l ≠ 128) (hl : hdrN l ≤ (l.drop (hdrS l)).length) (hc : zaE (tagV l : Nat) = true) :
 pObj st (j + 1) c l = match zbM false (pObj st j) (hdrN l) (c + 1) ((l.drop (hdrS l)).take (hdrN l)) with
  | .error e=>.error e
  | .ok (f,_,c')=>.ok (tagV l,[],f,(l.drop (hdrS l)).drop (hdrN l),c'):=by
 unfold pObj zbM
 rw [if_neg (by omega),if_neg (by omega),if_neg hf,if_neg (by omega),if_neg (by rw [hc];decide),if_neg (by decide)]
 cases zbH (pObj st j) (hdrN l) (c+1) ((l.drop (hdrS l)).take (hdrN l)) with
 | error e=>rfl
 | ok q=>obtain ⟨f,c2⟩:=q;rfl
theorem pO_ind {st : Bool} {j c : Nat} {l : List UInt8} (h : hdrE l = 0) (ha : admE st (tagV l) (hdrF l) (hdrN l) (8 - (j : Int)) c = 0) (hf : hdrF l = 128) :
 pObj st (j + 1) c l = match zbM true (pObj st j) (l.drop (hdrS l)).length (c + 1) (l.drop (hdrS l)) with
  | .error e=>.error e
  | .ok (f,rest,c')=>.ok (tagV l,[],f,rest,c'):=by
 unfold pObj zbM
 rw [if_neg (by omega),if_neg (by omega),if_pos hf,if_pos rfl]
 cases zbF (pObj st j) (l.drop (hdrS l)).length (c+1) (l.drop (hdrS l)) with
 | error e=>rfl
 | ok q=>rfl
theorem own_val {w : World} {base : Nat} {v : Value} {l : List UInt8} (h : w.ownsRow base 5 1 v l.length (Us l)) : ∃ A c, v = .slice A l.length c ∧ (A = none → c = 0) ∧ SeesP w (fun b => base ≤ b ∧ b < w.heap.size) A (Us l) := by
 rcases h.2 with ⟨e,h0⟩ | ⟨g,cap,cur,e,hb,hh,hn,hmx,hs,ht⟩
 · have : l = [] := List.eq_nil_of_length_eq_zero h0
   subst this
   exact ⟨none,0,e,fun _=>rfl,.inl rfl⟩
 · refine ⟨_, cap, e, (fun e2 => by cases e2), Or.inr ⟨g, 0, rfl, ⟨hb, lt_of_block hh⟩, fun i hi => ?_⟩⟩
   rw [zat] at hi
   rw [Nat.zero_add,cell_of_row w g i cur _ (0,0) hh,←ht,List.getElem?_take,if_pos (by omega),Array.getElem?_toList]
theorem zgN {B : Nat} {a b c : World} (h : Below B a b) (hB : B ≤ b.heap.size) (hg : b.grownBy c (Value.slice none 0 0).ownBlock) : Below B a c :=
 ⟨hg.os.trans h.os,hg.tape.trans h.tape,hg.output.trans h.output,Nat.le_trans h.size hg.size,fun j hj=>(hg.block j (Nat.lt_of_lt_of_le hj hB) (by simp [Value.ownBlock])).trans (h.block j hj)⟩
theorem zeo {ob : Nat → List UInt8 → Except Int ObR} (hob : ∀ c l t v k rest c', ob c l = .ok (t, v, k, rest, c') → rest <:+ l) :
 ∀(m c:Nat) (l:List UInt8) {f:F} {rest:List UInt8} {c':Nat},zbF ob m c l=.ok (f,rest,c')→rest <:+ l
 | 0,_,_,_,_,_,h=>by simp [zbF] at h
 | m + 1, c, l, f, rest, c', h => by
   unfold zbF at h
   split at h
   · cases h
   · split at h
     · injection h with h
       injection h with _ h
       injection h with h1 h2
       subst h1
       exact List.drop_suffix _ _
     · split at h
       · cases h
       · rename_i t v k r2 c2 heq
         have h1:=hob _ _ _ _ _ _ _ heq
         split at h
         · cases h
         · rename_i f2 r3 c3 heq2
           have h2:=zeo hob m c2 r2 heq2
           injection h with h
           injection h with _ h
           injection h with h3 h4
           subst h3
           exact h2.trans h1
theorem zfn (st : Bool) : ∀ (k c : Nat) (l : List UInt8) (t : Int) (v : List UInt8) (kf : F) (rest : List UInt8) (c' : Nat), pObj st k c l = .ok (t, v, kf, rest, c') → rest <:+ l
 | 0,c,l,_,_,_,_,_,h=>by unfold pObj at h;split at h <;> cases h
 | k + 1, c, l, t, v, kf, rest, c', h => by
   unfold pObj at h
   split at h
   · cases h
   · split at h
     · cases h
     · split at h
       · split at h
         · cases h
         · rename_i f2 r2 c2 heq
           have h2:=zeo (zfn st k) _ _ _ heq
           simp only [Except.ok.injEq,Prod.mk.injEq] at h
           obtain ⟨_,_,_,h3,h4⟩:=h
           subst h3
           exact h2.trans (List.drop_suffix _ _)
       · split at h
         · cases h
         · split at h
           · simp only [Except.ok.injEq, Prod.mk.injEq] at h
             obtain ⟨_,_,_,h3,h4⟩:=h
             subst h3
             exact (List.drop_suffix _ _).trans (List.drop_suffix _ _)
           · split at h
             · cases h
             · rename_i f2 c2 heq
               simp only [Except.ok.injEq,Prod.mk.injEq] at h
               obtain ⟨_,_,_,h3,h4⟩:=h
               subst h3
               exact (List.drop_suffix _ _).trans (List.drop_suffix _ _)
def RObj (w2 : World) (t n0 : Nat) (r : Except Int ObR) (s xx nn : Int) (wx : World) : Prop :=
 Below w2.heap.size w2 wx∧match r with
 | .error e=>xx=e∧e≠0
 | .ok (t', v, kf, rest, c') => xx = 0 ∧ s = (c' : Int) ∧ t' = (t : Int) ∧ nn = ((n0 - rest.length : Nat) : Int) ∧ rest.length ≤ n0 ∧ ∃ Av cv Ak ck, wx.heap[w2.heap.size]? = some (.cells #[.int .i64 (t : Int), .slice Av v.length cv, .slice Ak kf.len ck] 64 (0, 0)) ∧
  (Av=none→cv=0)∧SeesP wx (newB w2 wx) Av (Us v)∧SeesF wx (newB w2 wx) Ak kf
set_option maxRecDepth 20000 in
set_option maxHeartbeats 40000000 in
theorem zet (st : Bool) (k : Nat) (hk8 : k ≤ 8) (hI : ∀ j, k = j + 1 → RAll st j) : RAll st k := by
 intro op D c l A cap w p hD hp hc hl hcap hs
 obtain ⟨i0,hi,hz0,hz1,hz2⟩:=info_parts zcq
 obtain ⟨i1,hi1,hy0,hy1,hy2⟩:=info_parts zaW
 have HI:=Lib.hid hI
 have HP:=Lib.hid hp
 have HD0:=Lib.hid hD
 have hD1:1≤D:=by omega
 have hD9:D≤9:=by omega
 have H0:=Lib.hid (show RLR w p op (pObj st k) (zbM op (pObj st k) l.length c l) (.slice none 0 0) .nil A l l.length 0 c w from ⟨Held.start w w,hs,Below.refl _ _,Nat.sub_le _ _,joinM_nil _⟩)
 clear hs hI hp hD
 go_enter Tryz.func28,Tryz.ntmps28
 go_wp2_with fail
 go_loopw [14,15,2] (fun v a s wr=>∃(acc:F) (m aN cN:Nat),a=.int .i64 (aN:Int)∧s=.int .i64 (cN:Int)∧aN≤l.length∧acc.len+(l.length - aN)≤4096∧cN≤256∧Hid (RLR w p op (pObj st k) (zbM op (pObj st k) l.length c l) v acc A l m aN cN wr)) (fun _ a _ _=>l.length - (intOf a).toNat)
 case atStart=>exact ⟨.nil,l.length,0,c,rfl,rfl,Nat.zero_le _,by simp only [F.len];omega,hc,H0⟩
 case round =>
  clear H0
  obtain ⟨acc,m,aN,cN,rfl,rfl,haN,hlen,hcN,HL⟩:=hrel
  go_upto_if 21 with fail
  go_cut [] from 21 to 167 (fun wx=>Hid (wx=wr∧Cont op (l.drop aN)))
  case first =>
   have hdl:(l.drop aN).length=l.length - aN:=List.length_drop
   cases op with
   | false =>
     by_cases h0:aN=l.length
     · obtain ⟨A2, c2, hv, hs2⟩ := HL.out.1.slice
       subst hv
       have hd : RLIs w l.length (zbM false (pObj st k) l.length c l) (.returned (.tuple #[.slice A2 acc.len c2, .int .i64 (aN : Int), .int .i64 (cN : Int), .int .i64 0])) wr := by
        obtain ⟨_,_,h3,_,h5⟩:=HL.out
        rw [←h5,List.drop_eq_nil_of_le (by omega),loopU_end0]
        refine ⟨h3,A2,c2,?_,?_⟩
        · rw [F.app_nil,h0];rfl
        · rw [F.app_nil];exact hs2
       have HD:=Lib.hid hd
       have d0:decide ((l.length:Int)≤(aN:Int))=true:=by simp;omega
       have d0':decide (l.length≤aN)=true:=by simp;omega
       clear hd hs2 HL h0 hdl
       go_wp2_with fail
       (try simp only [Exit.inBlock,Exit.then]);refine bodyPost_ret (zbd rfl _ _ _) rfl ?_
       exact HD.out
     · have d0 : decide ((l.length : Int) ≤ (aN : Int)) = false := by simp; omega
       have d0':decide (l.length≤aN)=false:=by simp;omega
       have HC:=Lib.hid (show Cont false (l.drop aN) from ⟨fun e=>by rw [e] at hdl;simp at hdl;omega,fun e=>by cases e⟩)
       clear hdl h0
       go_wp2_with fail
       go_meet
       exact Lib.hid ⟨rfl,HC.out⟩
   | true =>
     have hbad : l.length - aN < 2 → RLIs w l.length (zbM true (pObj st k) l.length c l) (.returned (.tuple #[.slice none 0 0, .int .i64 0, .int .i64 0, .int .i64 6])) wr := fun h2 => by
      obtain ⟨_,_,h3,_,h5⟩:=HL.out
      rw [←h5,loopU_short (by omega)]
      exact ⟨h3,rfl,by decide⟩
     by_cases h0:aN=l.length
     · have HD := Lib.hid (hbad (by omega))
       have d0:decide ((l.length:Int)≤(aN:Int))=true:=by simp;omega
       have d0':decide (l.length≤aN)=true:=by simp;omega
       clear hbad HL h0 hdl
       go_wp2_with fail
       (try simp only [Exit.inBlock,Exit.then]);refine bodyPost_ret (zbd rfl _ _ _) rfl ?_
       exact HD.out
     · have d0 : decide ((l.length : Int) ≤ (aN : Int)) = false := by simp; omega
       have d0':decide (l.length≤aN)=false:=by simp;omega
       have hal:aN < l.length:=by omega
       obtain ⟨b0,o0,rfl,hp0,g0⟩:=zbh HL.out.2.1 (k:=aN) hal
       obtain ⟨n0,hn0⟩ : ∃n,n=(l[aN]'hal).toNat:=⟨_,rfl⟩
       have hg0:(l.drop aN).getD 0 0=l[aN]:=by simp [List.getD,List.getElem?_drop,List.getElem?_eq_getElem hal]
       rw [←hn0] at g0
       by_cases h1:l.length=aN+1
       · have d1 : decide ((l.length : Int) ≤ (aN : Int) + 1) = true := by simp; omega
         have d1':decide (l.length≤aN+1)=true:=by simp;omega
         by_cases hz:n0=0
         · have dz : ((n0 : Int) == 0) = true := by simp; omega
           have HD:=Lib.hid (hbad (by omega))
           clear hbad HL h0 hdl hn0 hg0 hz h1
           go_wp2_with fail
           (try simp only [Exit.inBlock,Exit.then]);refine bodyPost_ret (zbd rfl _ _ _) rfl ?_
           exact HD.out
         · have dz : ((n0 : Int) == 0) = false := by simp; omega
           have HC:=Lib.hid (show Cont true (l.drop aN) from ⟨fun e=>by rw [e] at hdl;simp at hdl;omega,fun _=>⟨fun h=>by omega,fun _ e=>hz (by rw [hn0,←hg0,e];rfl)⟩⟩)
           clear hbad HL h0 hdl hn0 hg0 hz h1
           go_wp2_with fail
           go_meet
           exact Lib.hid ⟨rfl,HC.out⟩
       · have d1 : decide ((l.length : Int) ≤ (aN : Int) + 1) = false := by simp; omega
         have d1':decide (l.length≤aN+1)=false:=by simp;omega
         have hal1:aN+1 < l.length:=by omega
         obtain ⟨b1,o1,e1,_,g1⟩:=zbh HL.out.2.1 (k:=aN+1) hal1
         injection e1 with e1
         injection e1 with e2 e3
         subst e2 e3
         obtain ⟨n1,hn1⟩ : ∃n,n=(l[aN+1]'hal1).toNat:=⟨_,rfl⟩
         rw [←hn1] at g1
         have h00:=take_two (l:=l.drop aN) (by omega)
         simp only [List.getElem_drop,Nat.add_zero] at h00
         rw [←hn0,←hn1] at h00
         by_cases hz:n0=0
         · have dz : ((n0 : Int) == 0) = true := by simp; omega
           by_cases hz1:n1=0
           · have dz1 : ((n1 : Int) == 0) = true := by simp; omega
             obtain ⟨A2,c2,hv,hs2⟩:=HL.out.1.slice
             subst hv
             have hd : RLIs w l.length (zbM true (pObj st k) l.length c l) (.returned (.tuple #[.slice A2 acc.len c2, .int .i64 ((aN : Int) + 2), .int .i64 (cN : Int), .int .i64 0])) wr := by
              obtain ⟨_,_,h3,hm,h5⟩:=HL.out
              obtain ⟨m',rfl⟩ : ∃m',m=m'+1:=⟨m - 1,by omega⟩
              rw [←h5,loopU_end1 (by omega) (h00.2 ⟨hz,hz1⟩)]
              refine ⟨h3,A2,c2,?_,?_⟩
              · rw [F.app_nil,List.length_drop,List.length_drop,show ((l.length - (l.length - aN - 2):Nat):Int)=(aN:Int)+2 by omega]
              · rw [F.app_nil];exact hs2
             have HD:=Lib.hid hd
             clear hbad hd hs2 HL h0 hdl hn0 hg0 hz h1 hz1 hn1 h00
             go_wp2_with fail
             (try simp only [Exit.inBlock,Exit.then]);refine bodyPost_ret (zbd rfl _ _ _) rfl ?_
             exact HD.out
           · have dz1 : ((n1 : Int) == 0) = false := by simp; omega
             have HC:=Lib.hid (show Cont true (l.drop aN) from ⟨fun e=>by rw [e] at hdl;simp at hdl;omega,fun _=>⟨fun _ e=>hz1 (h00.1 e).2,fun h=>by omega⟩⟩)
             clear hbad HL h0 hdl hn0 hg0 hz h1 hz1 hn1 h00
             go_wp2_with fail
             go_meet
             exact Lib.hid ⟨rfl,HC.out⟩
         · have dz : ((n0 : Int) == 0) = false := by simp; omega
           have HC:=Lib.hid (show Cont true (l.drop aN) from ⟨fun e=>by rw [e] at hdl;simp at hdl;omega,fun _=>⟨fun _ e=>hz (h00.1 e).1,fun h=>by omega⟩⟩)
           clear hbad HL h0 hdl hn0 hg0 hz h1 hn1 h00
           go_wp2_with fail
           go_meet
           exact Lib.hid ⟨rfl,HC.out⟩
  case rest =>
   obtain ⟨hwr,hcont⟩:=hcut.out
   have hwr2:=hwr.symm
   subst hwr2
   clear hwr
   have hdl:(l.drop aN).length=l.length - aN:=List.length_drop
   have hal : aN < l.length := by
    have:=List.length_pos_iff.2 hcont.1
    omega
   obtain ⟨b0,o0,rfl,hp0,g0⟩:=zbh HL.out.2.1 (k:=aN) hal
   have HB:=Lib.hid (show SeesP wr p (some ⟨b0,o0,none⟩) (Us l) from HL.out.2.1)
   obtain ⟨B,hB⟩ : ∃B,B=l.drop aN:=⟨_,rfl⟩
   have HTG:=ref_tag (some ⟨b0,o0+aN,none⟩) (cap - aN) (l.drop aN) wr p (zbs HB.out (by omega)) (by omega)
   rw [hdl] at HTG
   unfold zgC at HTG
   rw [←hB] at HTG hdl hcont
   have hm1:0 < m:=by have:=HL.out.2.2.2.1;omega
   have HER := Lib.hid (show ∀ x w', pObj st k cN B = .error x → x ≠ 0 → Below w.heap.size w w' → RLIs w l.length (zbM op (pObj st k) l.length c l) (.returned (.tuple #[.slice none 0 0, .int .i64 0, .int .i64 0, .int .i64 x])) w' from fun x w' h1 h2 h3 => by
    obtain ⟨m',rfl⟩ : ∃m',m=m'+1:=⟨m - 1,by omega⟩
    obtain ⟨_,_,_,_,h5⟩:=HL.out
    rw [←h5,←hB,loopU_err hcont h1]
    exact ⟨h3,rfl,h2⟩)
   have HBe:=Lib.hid (show Below w.heap.size w wr from HL.out.2.2.1)
   have HC:=Lib.hid (show Cont op B∧B=l.drop aN∧B.length=l.length - aN from ⟨hcont,hB,hdl⟩)
   clear hcont hcut g0 hdl hB
   obtain ⟨x,hx⟩ : ∃x,x=tagE B:=⟨_,rfl⟩
   rw [←hx] at HTG
   by_cases hx0:x=0
   · subst hx0
     rw [if_pos rfl,if_pos rfl] at HTG
     have htl:=tagN_len hx.symm
     obtain ⟨t,ht⟩ : ∃t,t=tagV B:=⟨_,rfl⟩
     have htv:t≤65535:=by rw [ht];exact tagV_le B
     rw [←ht] at HTG htl
     obtain ⟨z,hz⟩ : ∃z,z=tagN (t:Nat):=⟨_,rfl⟩
     rw [←hz] at HTG htl
     rw [HC.out.2.2] at htl
     obtain ⟨a1,ha1⟩ : ∃a1,a1=aN+z:=⟨_,rfl⟩
     have e1:(aN:Int)+(z:Int)=(a1:Int):=by omega
     have ha1l:a1≤l.length:=by omega
     obtain ⟨xs,hxs⟩ : ∃xs,xs=rzE (zaE (t:Int)) st (B.drop z):=⟨_,rfl⟩
     obtain ⟨N,hN⟩ : ∃N,N=if xs=0 then rzN (B.drop z) else 0:=⟨_,rfl⟩
     obtain ⟨K,hK⟩ : ∃K,K=if xs=0 then rzK (B.drop z) else 0:=⟨_,rfl⟩
     have hRl:(B.drop z).length=l.length - a1:=by rw [List.length_drop,HC.out.2.2];omega
     have HSZ : ∀ (As : Option Addr) (u : World), SeesP u p As (Us (B.drop z)) → Calls Tryz.prog 60 #[.slice As (l.length - a1) (cap - a1), .bool (zaE (t : Int)), .bool st] u fun e w' => e = .returned (.tuple #[.int .i64 N, .int .i64 (K : Int), .int .i64 xs]) ∧ w' = u := fun As u hu => by
      have h:=ref_size (zaE (t:Int)) st As (cap - a1) (B.drop z) u p hu (by omega)
      unfold zeV at h
      rw [hRl,←hxs,←hN] at h
      rw [hK]
      split
      · rename_i h0;rw [if_pos h0] at h;exact h
      · rename_i h0;rw [if_neg h0] at h;exact h
     have HS1:=Lib.hid HSZ
     have HCn:=Lib.hid (fun u=>zcV (t:Int) (by omega) (by omega) u)
     have HBz:=Lib.hid (show B.drop z=l.drop a1 by rw [HC.out.2.1,List.drop_drop,ha1])
     have HT:=Lib.hid (show tagE B=0∧t=tagV B∧z=tagN (t:Nat)∧xs=rzE (zaE (t:Int)) st (B.drop z)∧(N=if xs=0 then rzN (B.drop z) else 0)∧(K=if xs=0 then rzK (B.drop z) else 0)∧a1=aN+z from ⟨hx.symm,ht,hz,hxs,hN,hK,ha1⟩)
     clear HSZ hx ht hz hxs hN hK hRl ha1
     go_upto_if 73 with (go_at_call 59;refine HTG.mono ?_;rintro e w1 ⟨rfl,hq1⟩;have HQ1:=Lib.hid hq1;clear hq1)
     clear HTG
     go_upto_region 14 with fail
     go_cut [17,18,19] from 21 to 167 (fun v17 v18 v19 wx=>v17=.int .i64 (K:Int)∧v18=.int .i64 xs∧v19=.int .i64 N∧Hid (∃q,wx=wr.drewN q))
     case first =>
      have HS2 := Lib.hid (show ∀ As n, SeesP wr p As (Us (l.drop a1)) → Calls Tryz.prog 60 #[.slice As (l.length - a1) (cap - a1), .bool (zaE (t : Int)), .bool st] (w1.drewN n) fun e w' => e = .returned (.tuple #[.int .i64 N, .int .i64 (K : Int), .int .i64 xs]) ∧ w' = w1.drewN n from fun As n hu => HS1.out As _ (by
       obtain ⟨q,rfl⟩:=HQ1.out
       rw [HBz.out]
       exact hu.keep fun _ _=>rfl))
      by_cases hca:cap=a1
      · have HS3 := Lib.hid (fun n => HS2.out (some ⟨b0, o0, none⟩) n (zbU (by omega)))
        have e0:cap - a1=0:=by omega
        rw [e0] at HS3
        clear HS1 HS2
        go_quiet ((first | (go_at_call 29;exact Calls.quiet_of_same (HCn.out _)) | (go_at_call 60;exact Calls.quiet_of_same (HS3.out _))))
        go_wp2_with fail
        go_meet
        refine ⟨rfl,rfl,rfl,Lib.hid ?_⟩
        obtain ⟨q,rfl⟩:=HQ1.out
        exact ⟨_,World.drewN_drewN _ _ _⟩
      · have hca2 : a1 < cap := by omega
        have HS3:=Lib.hid (fun n=>HS2.out (some ⟨b0,o0+a1,none⟩) n (zbs HB.out (by omega)))
        clear HS1 HS2
        go_quiet ((first | (go_at_call 29;exact Calls.quiet_of_same (HCn.out _)) | (go_at_call 60;exact Calls.quiet_of_same (HS3.out _))))
        go_wp2_with fail
        go_meet
        refine ⟨rfl,rfl,rfl,Lib.hid ?_⟩
        obtain ⟨q,rfl⟩:=HQ1.out
        exact ⟨_,World.drewN_drewN _ _ _⟩
     case rest =>
      obtain ⟨rfl,rfl,rfl,hq⟩:=hcut
      obtain ⟨w2,hw2⟩ : ∃w2,w2=wc:=⟨_,rfl⟩
      subst hw2
      have hb0:b0 < w.heap.size:=HP.out _ hp0
      have HL2 := Lib.hid (show RLR w p op (pObj st k) (zbM op (pObj st k) l.length c l) u14 acc (some ⟨b0, o0, none⟩) l m aN cN w2 from by
       obtain ⟨q,rfl⟩:=hq.out
       obtain ⟨h1,h2,h3,h4,h5⟩:=HL.out
       exact ⟨h1.grown hb0 (zaD (zbS _ _ q)),h2.keep fun _ _=>rfl,zbq h3 q,h4,h5⟩)
      clear hq HL HB HBe HQ1 HS1 HCn
      by_cases hxs:xs=0
      · subst hxs
        obtain ⟨t1,t2,t3,t4,t5,t6,t7⟩:=HT.out
        rw [t2] at t3 t4
        rw [t3] at t4 t5 t6
        obtain ⟨hE,hadm,hN,hS⟩:=rz_fine t1 t4.symm
        rw [if_pos rfl,hN] at t5
        rw [if_pos rfl] at t6
        rw [←t6] at hS
        have hss:=zfH hE
        have hrg:=zfJ hE
        obtain ⟨a2,ha2⟩ : ∃a2,a2=aN+hdrS B:=⟨_,rfl⟩
        have hBl:=HC.out.2.2
        have e2:(a1:Int)+(K:Int)=(a2:Int):=by rw [←t3] at hS;omega
        have ha2l:a2≤l.length:=by omega
        have ha2a:aN+2≤a2:=by omega
        have hBd:B.drop (hdrS B)=l.drop a2:=by rw [ha2,←List.drop_drop,←HC.out.2.1]
        obtain ⟨n,hn⟩ : ∃n,n=hdrN B:=⟨_,rfl⟩
        have hn32:n < 4294967296:=by rw [hn];exact hrg.2.2
        have HY:=Lib.hid (show hdrE B=0∧(∀c d,admE st (tagV B) (hdrF B) (hdrN B) d c=if 8 < d then 7 else if 256 < c+1 then 2 else 0)∧B.drop (hdrS B)=l.drop a2∧t=tagV B∧n=hdrN B∧(B.drop (hdrS B)).length=l.length - a2 from ⟨hE,hadm,hBd,t2,hn,by rw [hBd,List.length_drop]⟩)
        have HN:=Lib.hid (show N=if hdrF B=128 then -1 else (n:Int) by rw [t5,hn])
        clear HT t1 t2 t3 t4 t5 t6 t7 hE hadm hN hS hss hrg ha2 hBl hBd hn htl
        by_cases h8:8 < D
        · have HD := Lib.hid (HER.out 7 w2 (pO_adm HY.out.1 (by rw [HY.out.2.1, if_pos (by have := HD0.out; omega)]) (by decide)) (by decide) HL2.out.2.2.1)
          have d8:decide (8 < D)=true:=by simpa using h8
          clear h8 HER HY HN HL2
          go_wp2_with fail
          (try simp only [Exit.inBlock,Exit.then]);refine bodyPost_ret (zbd rfl _ _ _) rfl ?_
          exact HD.out
        · have d8 : decide (8 < D) = false := by simpa using h8
          by_cases h2:256 < cN+1
          · have HD := Lib.hid (HER.out 2 w2 (pO_adm HY.out.1 (by rw [HY.out.2.1, if_neg (by have := HD0.out; omega), if_pos h2]) (by decide)) (by decide) HL2.out.2.2.1)
            have d9:decide ((256:Int) < (cN:Int)+1)=true:=by simp;omega
            have d9':decide (256 < cN+1)=true:=by simp;omega
            clear h2 HER HY HN HL2
            go_wp2_with fail
            (try simp only [Exit.inBlock,Exit.then]);refine bodyPost_ret (zbd rfl _ _ _) rfl ?_
            exact HD.out
          · obtain ⟨j, rfl⟩ : ∃ j, k = j + 1 := ⟨k - 1, by have := HD0.out; omega⟩
            have HA:=Lib.hid (show admE st (tagV B) (hdrF B) (hdrN B) (8 - (j:Int)) cN=0 by rw [HY.out.2.1,if_neg (by omega),if_neg h2])
            obtain ⟨c1,hc1⟩ : ∃c1,c1=cN+1:=⟨_,rfl⟩
            have ec:(cN:Int)+1=(c1:Int):=by omega
            have hc1l:c1≤256:=by omega
            have HC1:=Lib.hid hc1
            clear hc1
            have d9:decide ((256:Int) < (c1:Int))=false:=by simp;omega
            have d9':decide (256 < c1)=false:=by simp;omega
            by_cases hlong:hdrF B≠128∧l.length - a2 < n
            · have hNn : N = (n : Int) := by rw [HN.out, if_neg hlong.1]
              have d10:decide ((l.length:Int) - (a2:Int) < (n:Int))=true:=by have:=hlong.2;exact decide_eq_true (by omega)
              have HD:=Lib.hid (HER.out 6 w2 (pO_long HY.out.1 HA.out hlong.1 (by rw [HY.out.2.2.2.2.2,←HY.out.2.2.2.2.1];exact hlong.2)) (by decide) HL2.out.2.2.1)
              clear hlong HER HY HN HL2 HA
              subst hNn
              go_wp2_with fail
              (try simp only [Exit.inBlock,Exit.then]);refine bodyPost_ret (zbd rfl _ _ _) rfl ?_
              exact HD.out
            · have d10 : decide ((l.length : Int) - (a2 : Int) < N) = false := by
               rw [decide_eq_false_iff_not]
               rw [HN.out]
               by_cases hf:hdrF B=128
               · rw [if_pos hf];omega
               · rw [if_neg hf]
                 have:¬l.length - a2 < n:=fun h=>hlong ⟨hf,h⟩
                 omega
              have hN1 : -1 ≤ N ∧ N < 4294967296 := by
               rw [HN.out]
               split <;> omega
              have HLo:=Lib.hid hlong
              clear hlong
              go_upto_block 3 with fail
              go_cut [2,17,18,19] from 21 to 167 (fun v2 v17 v18 v19 wx=>∃s xx nn:Int,v2=.int .i64 s∧v18=.int .i64 xx∧v19=.int .i64 nn∧Hid (RObj w2 t (l.length - a2) (pObj st (j+1) cN B) s xx nn wx))
              case first =>
               by_cases hf:hdrF B=128
               · have hNm : N = -1 := by rw [HN.out, if_pos hf]
                 subst hNm
                 clear HN HLo d10
                 by_cases hca:cap=a2
                 · have hcE : (cap = a2) = True := eq_true hca
                   have e0:cap - a2=0:=by omega
                   have hih:=HI.out j rfl true (D+1) c1 (l.drop a2) (some ⟨b0,o0,none⟩) 0 (w2.alloc (.cells #[.int .i64 (t:Int),.slice none 0 0,.slice none 0 0] 64)) p (by have:=HD0.out;omega) (fun y hy=>by have h1:=HP.out y hy;have h2:=HL2.out.2.2.1.size;simp;omega) hc1l (by rw [List.length_drop];omega) (by rw [List.length_drop];omega) (SeesP.keep (zbU (by omega)) fun y hy=>World.cell?_alloc_lt w2 _ y (by have h1:=HP.out _ hy;have h2:=HL2.out.2.2.1.size;omega))
                   rw [List.length_drop] at hih
                   have HIH:=Lib.hid hih
                   clear hih HI HL2 hca
                   go_wp2_with fail
                   refine HIH.out.mono ?_
                   rintro e w4 ⟨hb4,hres⟩
                   clear HIH
                   have b4:w4.heap[w2.heap.size]? = some (.cells #[.int .i64 (t:Int),.slice none 0 0,.slice none 0 0] 64 (0,0)):=(hb4.block _ (by simp)).trans (heap_alloc_new w2 _)
                   have hbw:=zaf ((Below.refl _ _).alloc (Nat.le_refl _) (.cells #[.int .i64 (t:Int),.slice none 0 0,.slice none 0 0] 64)) (hb4.mono (Nat.le_refl _))
                   have q2:=cell_of_row w4 w2.heap.size 2 _ _ _ b4
                   have r2:=frozen_of_row w4 w2.heap.size 2 _ _ b4
                   simp only [List.getElem?_toArray,List.getElem?_cons_succ,List.getElem?_cons_zero] at q2
                   obtain ⟨r,hr⟩ : ∃r,zbM true (pObj st j) (l.length - a2) c1 (l.drop a2)=r:=⟨_,rfl⟩
                   rw [hr] at hres
                   cases r with
                   | error x =>
                     obtain ⟨rfl,hx⟩:=hres
                     have HF := Lib.hid (show ∀ s nn u, RObj w2 t (l.length - a2) (pObj st (j + 1) cN B) s x nn (w4.setCell ⟨w2.heap.size, 2, none⟩ u) from fun s nn u => by
                      rw [pO_ind HY.out.1 HA.out hf,←HC1.out,HY.out.2.2.2.2.2,HY.out.2.2.1,hr]
                      exact ⟨hbw.setCell (p:=⟨w2.heap.size,2,none⟩) (Nat.le_refl _) u,rfl,hx⟩)
                     clear b4 hbw hr hx hb4 HER
                     go_wp2_with fail
                     go_meet
                     exact ⟨_,_,_,rfl,rfl,rfl,Lib.hid (HF.out _ _ _)⟩
                   | ok q =>
                     obtain ⟨f,rest,c'⟩:=q
                     obtain ⟨Ak,ck,rfl,sk⟩:=hres
                     have hsuf:=zeo (zfn st j) _ _ _ (by unfold zbM at hr;rw [if_pos rfl] at hr;exact hr)
                     have hrl:rest.length≤l.length - a2:=by have:=hsuf.length_le;rwa [List.length_drop] at this
                     have HF := Lib.hid (show ∀ c2 : Nat, RObj w2 t (l.length - a2) (pObj st (j + 1) cN B) (c' : Int) 0 ((l.length - a2 - rest.length : Nat) : Int) (w4.setCell ⟨w2.heap.size, 2, none⟩ (.slice Ak f.len ck)) from fun _ => by
                      rw [pO_ind HY.out.1 HA.out hf,←HC1.out,HY.out.2.2.2.2.2,HY.out.2.2.1,hr]
                      refine ⟨hbw.setCell (p:=⟨w2.heap.size,2,none⟩) (Nat.le_refl _) _,rfl,rfl,by rw [HY.out.2.2.2.1],rfl,hrl,none,0,Ak,ck,zai (i:=2) b4 _,fun _=>rfl,.inl rfl,?_⟩
                      refine (sk.keep fun q hq=>World.cell?_of_block (Below.heap_setCell _ _ _ _ ?_)).imp fun y hy=>⟨?_,?_⟩
                      · have h1:=hq.1;simp only [World.size_alloc] at h1;simp only;omega
                      · have h1:=hy.1;simp only [World.size_alloc] at h1;omega
                      · have h1:=hy.2;simpa using h1)
                     clear b4 hbw hr hb4 HER sk hsuf
                     go_wp2_with fail
                     go_meet
                     exact ⟨_,_,_,rfl,rfl,rfl,Lib.hid (HF.out 0)⟩
                 · have hca2 : a2 < cap := by omega
                   have hih:=HI.out j rfl true (D+1) c1 (l.drop a2) (some ⟨b0,o0+a2,none⟩) (cap - a2) (w2.alloc (.cells #[.int .i64 (t:Int),.slice none 0 0,.slice none 0 0] 64)) p (by have:=HD0.out;omega) (fun y hy=>by have h1:=HP.out y hy;have h2:=HL2.out.2.2.1.size;simp;omega) hc1l (by rw [List.length_drop];omega) (by rw [List.length_drop];omega) (SeesP.keep (zbs HL2.out.2.1 (by omega)) fun y hy=>World.cell?_alloc_lt w2 _ y (by have h1:=HP.out _ hy;have h2:=HL2.out.2.2.1.size;omega))
                   rw [List.length_drop] at hih
                   have HIH:=Lib.hid hih
                   clear hih HI HL2
                   go_wp2_with fail
                   refine HIH.out.mono ?_
                   rintro e w4 ⟨hb4,hres⟩
                   clear HIH
                   have b4:w4.heap[w2.heap.size]? = some (.cells #[.int .i64 (t:Int),.slice none 0 0,.slice none 0 0] 64 (0,0)):=(hb4.block _ (by simp)).trans (heap_alloc_new w2 _)
                   have hbw:=zaf ((Below.refl _ _).alloc (Nat.le_refl _) (.cells #[.int .i64 (t:Int),.slice none 0 0,.slice none 0 0] 64)) (hb4.mono (Nat.le_refl _))
                   have q2:=cell_of_row w4 w2.heap.size 2 _ _ _ b4
                   have r2:=frozen_of_row w4 w2.heap.size 2 _ _ b4
                   simp only [List.getElem?_toArray,List.getElem?_cons_succ,List.getElem?_cons_zero] at q2
                   obtain ⟨r,hr⟩ : ∃r,zbM true (pObj st j) (l.length - a2) c1 (l.drop a2)=r:=⟨_,rfl⟩
                   rw [hr] at hres
                   cases r with
                   | error x =>
                     obtain ⟨rfl,hx⟩:=hres
                     have HF := Lib.hid (show ∀ s nn u, RObj w2 t (l.length - a2) (pObj st (j + 1) cN B) s x nn (w4.setCell ⟨w2.heap.size, 2, none⟩ u) from fun s nn u => by
                      rw [pO_ind HY.out.1 HA.out hf,←HC1.out,HY.out.2.2.2.2.2,HY.out.2.2.1,hr]
                      exact ⟨hbw.setCell (p:=⟨w2.heap.size,2,none⟩) (Nat.le_refl _) u,rfl,hx⟩)
                     clear b4 hbw hr hx hb4 HER
                     go_wp2_with fail
                     go_meet
                     exact ⟨_,_,_,rfl,rfl,rfl,Lib.hid (HF.out _ _ _)⟩
                   | ok q =>
                     obtain ⟨f,rest,c'⟩:=q
                     obtain ⟨Ak,ck,rfl,sk⟩:=hres
                     have hsuf:=zeo (zfn st j) _ _ _ (by unfold zbM at hr;rw [if_pos rfl] at hr;exact hr)
                     have hrl:rest.length≤l.length - a2:=by have:=hsuf.length_le;rwa [List.length_drop] at this
                     have HF := Lib.hid (show ∀ c2 : Nat, RObj w2 t (l.length - a2) (pObj st (j + 1) cN B) (c' : Int) 0 ((l.length - a2 - rest.length : Nat) : Int) (w4.setCell ⟨w2.heap.size, 2, none⟩ (.slice Ak f.len ck)) from fun _ => by
                      rw [pO_ind HY.out.1 HA.out hf,←HC1.out,HY.out.2.2.2.2.2,HY.out.2.2.1,hr]
                      refine ⟨hbw.setCell (p:=⟨w2.heap.size,2,none⟩) (Nat.le_refl _) _,rfl,rfl,by rw [HY.out.2.2.2.1],rfl,hrl,none,0,Ak,ck,zai (i:=2) b4 _,fun _=>rfl,.inl rfl,?_⟩
                      refine (sk.keep fun q hq=>World.cell?_of_block (Below.heap_setCell _ _ _ _ ?_)).imp fun y hy=>⟨?_,?_⟩
                      · have h1:=hq.1;simp only [World.size_alloc] at h1;simp only;omega
                      · have h1:=hy.1;simp only [World.size_alloc] at h1;omega
                      · have h1:=hy.2;simpa using h1)
                     clear b4 hbw hr hb4 HER sk hsuf
                     go_wp2_with fail
                     go_meet
                     exact ⟨_,_,_,rfl,rfl,rfl,Lib.hid (HF.out 0)⟩
               · have hNn : N = (n : Int) := by rw [HN.out, if_neg hf]
                 subst hNn
                 have hnn : n ≤ l.length - a2 := by
                  have h:=HLo.out
                  by_cases h2:l.length - a2 < n
                  · exact absurd ⟨hf,h2⟩ h
                  · omega
                 have hnl:hdrN B≤(B.drop (hdrS B)).length:=by rw [HY.out.2.2.2.2.2,←HY.out.2.2.2.2.1];exact hnn
                 have hln:((l.drop a2).take n).length=n:=by rw [List.length_take,List.length_drop];omega
                 have dN:decide ((n:Int) < 0)=false:=decide_eq_false (by omega)
                 have HCn:=Lib.hid (fun u=>zcV (t:Int) (by omega) (by omega) u)
                 clear HN HLo d10
                 cases hcb:zaE (t:Int)
                 · have hcB : zaE (tagV B : Nat) = false := by rw [← HY.out.2.2.2.1]; exact hcb
                   by_cases hca:cap=a2
                   · have hcE : (cap = a2) = True := eq_true hca
                     have e0:cap - a2=0:=by omega
                     have HS3:=Lib.hid (show SeesP (w2.alloc (.cells #[.int .i64 (t:Int),.slice none 0 0,.slice none 0 0] 64)) p (some ⟨b0,o0,none⟩) (Us ((l.drop a2).take n)) from SeesP.keep (zcx (zbU (by omega))) fun y hy=>World.cell?_alloc_lt w2 _ y (by have h1:=HP.out _ hy;have h2:=HL2.out.2.2.1.size;omega))
                     clear HI HL2 hca
                     go_wp2_with (first | (go_at_call 29;refine (HCn.out _).mono ?_;rintro e w' ⟨rfl,rfl⟩) | (at_builtin;(refine zbe rfl (.const (.slice none 0 0)) (.tmp 117) 27 rfl (w2.alloc (.cells #[.int .i64 (t:Int),.slice none 0 0,.slice none 0 0] 64)).heap.size 5 i1 (.int .u8 0) Tryz.underlying27 hi1 hy0 hy1 hy2 rfl (.slice none 0 0) 0 [] rfl (World.ownsRow_nil _ _ _ _) (some ⟨b0,o0,none⟩) 0 ((l.drop a2).take n) (by rw [hln];simp [Act.eval]) (fun e=>by cases e) (fun e=>by cases e) HS3.out.src (by unfold maxLen;omega) (by omega) (Nat.le_refl _) ?_);(intro v1 w4 ho1 hg1;rw [Nat.zero_add,List.nil_append] at ho1;obtain ⟨Av,cv,hv1,hn0,hsv⟩:=own_val ho1;rw [hln] at hv1;subst hv1;have b4:w4.heap[w2.heap.size]? = some (.cells #[.int .i64 (t:Int),.slice none 0 0,.slice none 0 0] 64 (0,0)):=(hg1.block _ (by simp) (by simp [Value.ownBlock])).trans (heap_alloc_new w2 _);have hbw:=zgN ((Below.refl _ _).alloc (Nat.le_refl _) (.cells #[.int .i64 (t:Int),.slice none 0 0,.slice none 0 0] 64)) (by simp) hg1;have q1:=cell_of_row w4 w2.heap.size 1 _ _ _ b4;have r1:=frozen_of_row w4 w2.heap.size 1 _ _ b4;simp only [List.getElem?_toArray,List.getElem?_cons_succ,List.getElem?_cons_zero] at q1;have HZ:=Lib.hid (show _∧_∧_∧_ from ⟨b4,hbw,hn0,hsv⟩);clear b4 hbw hn0 hsv ho1 hg1)))
                     have HF := Lib.hid (show ∀ c2 : Nat, RObj w2 t (l.length - a2) (pObj st (j + 1) cN B) (c1 : Int) 0 (n : Int) (w4.setCell ⟨w2.heap.size, 1, none⟩ (.slice Av n cv)) from fun _ => by
                      obtain ⟨b4,hbw,hn0,hsv⟩:=HZ.out
                      rw [pO_prim HY.out.1 HA.out hf hnl hcB,←HC1.out,←HY.out.2.2.2.2.1,HY.out.2.2.1]
                      refine ⟨hbw.setCell (p:=⟨w2.heap.size,1,none⟩) (Nat.le_refl _) _,rfl,rfl,by rw [HY.out.2.2.2.1],by rw [List.length_drop,List.length_drop];omega,by rw [List.length_drop,List.length_drop];omega,Av,cv,none,0,by rw [hln];exact zai (i:=1) b4 _,hn0,?_,SeesF.nil_⟩
                      refine (hsv.keep fun q hq=>World.cell?_of_block (Below.heap_setCell _ _ _ _ ?_)).imp fun y hy=>⟨?_,?_⟩
                      · have h1:=hq.1;simp only [World.size_alloc] at h1;simp only;omega
                      · have h1:=hy.1;simp only [World.size_alloc] at h1;omega
                      · have h1:=hy.2;simpa using h1)
                     clear HZ HER
                     go_meet
                     exact ⟨_,_,_,rfl,rfl,rfl,Lib.hid (HF.out 0)⟩
                   · have hca2 : a2 < cap := by omega
                     have HS3:=Lib.hid (show SeesP (w2.alloc (.cells #[.int .i64 (t:Int),.slice none 0 0,.slice none 0 0] 64)) p (some ⟨b0,o0+a2,none⟩) (Us ((l.drop a2).take n)) from SeesP.keep (zcx (zbs HL2.out.2.1 (by omega))) fun y hy=>World.cell?_alloc_lt w2 _ y (by have h1:=HP.out _ hy;have h2:=HL2.out.2.2.1.size;omega))
                     clear HI HL2
                     go_wp2_with (first | (go_at_call 29;refine (HCn.out _).mono ?_;rintro e w' ⟨rfl,rfl⟩) | (at_builtin;(refine zbe rfl (.const (.slice none 0 0)) (.tmp 117) 27 rfl (w2.alloc (.cells #[.int .i64 (t:Int),.slice none 0 0,.slice none 0 0] 64)).heap.size 5 i1 (.int .u8 0) Tryz.underlying27 hi1 hy0 hy1 hy2 rfl (.slice none 0 0) 0 [] rfl (World.ownsRow_nil _ _ _ _) (some ⟨b0,o0+a2,none⟩) (cap - a2) ((l.drop a2).take n) (by rw [hln];simp [Act.eval]) (fun e=>by cases e) (fun e=>by cases e) HS3.out.src (by unfold maxLen;omega) (by omega) (Nat.le_refl _) ?_);(intro v1 w4 ho1 hg1;rw [Nat.zero_add,List.nil_append] at ho1;obtain ⟨Av,cv,hv1,hn0,hsv⟩:=own_val ho1;rw [hln] at hv1;subst hv1;have b4:w4.heap[w2.heap.size]? = some (.cells #[.int .i64 (t:Int),.slice none 0 0,.slice none 0 0] 64 (0,0)):=(hg1.block _ (by simp) (by simp [Value.ownBlock])).trans (heap_alloc_new w2 _);have hbw:=zgN ((Below.refl _ _).alloc (Nat.le_refl _) (.cells #[.int .i64 (t:Int),.slice none 0 0,.slice none 0 0] 64)) (by simp) hg1;have q1:=cell_of_row w4 w2.heap.size 1 _ _ _ b4;have r1:=frozen_of_row w4 w2.heap.size 1 _ _ b4;simp only [List.getElem?_toArray,List.getElem?_cons_succ,List.getElem?_cons_zero] at q1;have HZ:=Lib.hid (show _∧_∧_∧_ from ⟨b4,hbw,hn0,hsv⟩);clear b4 hbw hn0 hsv ho1 hg1)))
                     have HF := Lib.hid (show ∀ c2 : Nat, RObj w2 t (l.length - a2) (pObj st (j + 1) cN B) (c1 : Int) 0 (n : Int) (w4.setCell ⟨w2.heap.size, 1, none⟩ (.slice Av n cv)) from fun _ => by
                      obtain ⟨b4,hbw,hn0,hsv⟩:=HZ.out
                      rw [pO_prim HY.out.1 HA.out hf hnl hcB,←HC1.out,←HY.out.2.2.2.2.1,HY.out.2.2.1]
                      refine ⟨hbw.setCell (p:=⟨w2.heap.size,1,none⟩) (Nat.le_refl _) _,rfl,rfl,by rw [HY.out.2.2.2.1],by rw [List.length_drop,List.length_drop];omega,by rw [List.length_drop,List.length_drop];omega,Av,cv,none,0,by rw [hln];exact zai (i:=1) b4 _,hn0,?_,SeesF.nil_⟩
                      refine (hsv.keep fun q hq=>World.cell?_of_block (Below.heap_setCell _ _ _ _ ?_)).imp fun y hy=>⟨?_,?_⟩
                      · have h1:=hq.1;simp only [World.size_alloc] at h1;simp only;omega
                      · have h1:=hy.1;simp only [World.size_alloc] at h1;omega
                      · have h1:=hy.2;simpa using h1)
                     clear HZ HER
                     go_meet
                     exact ⟨_,_,_,rfl,rfl,rfl,Lib.hid (HF.out 0)⟩
                 · have hcB : zaE (tagV B : Nat) = true := by rw [← HY.out.2.2.2.1]; exact hcb
                   by_cases hca:cap=a2
                   · have hcE : (cap = a2) = True := eq_true hca
                     have e0:cap - a2=0:=by omega
                     have hih:=HI.out j rfl false (D+1) c1 ((l.drop a2).take n) (some ⟨b0,o0,none⟩) 0 (w2.alloc (.cells #[.int .i64 (t:Int),.slice none 0 0,.slice none 0 0] 64)) p (by have:=HD0.out;omega) (fun y hy=>by have h1:=HP.out y hy;have h2:=HL2.out.2.2.1.size;simp;omega) hc1l (by rw [hln];omega) (by rw [hln];omega) (SeesP.keep (zcx (zbU (by omega))) fun y hy=>World.cell?_alloc_lt w2 _ y (by have h1:=HP.out _ hy;have h2:=HL2.out.2.2.1.size;omega))
                     rw [hln] at hih
                     have HIH:=Lib.hid hih
                     clear hih HI HL2 hca
                     go_wp2_with (go_at_call 29;refine (HCn.out _).mono ?_;rintro e w' ⟨rfl,rfl⟩)
                     refine HIH.out.mono ?_
                     rintro e w4 ⟨hb4,hres⟩
                     clear HIH
                     have b4:w4.heap[w2.heap.size]? = some (.cells #[.int .i64 (t:Int),.slice none 0 0,.slice none 0 0] 64 (0,0)):=(hb4.block _ (by simp)).trans (heap_alloc_new w2 _)
                     have hbw:=zaf ((Below.refl _ _).alloc (Nat.le_refl _) (.cells #[.int .i64 (t:Int),.slice none 0 0,.slice none 0 0] 64)) (hb4.mono (Nat.le_refl _))
                     have q2:=cell_of_row w4 w2.heap.size 2 _ _ _ b4
                     have r2:=frozen_of_row w4 w2.heap.size 2 _ _ b4
                     simp only [List.getElem?_toArray,List.getElem?_cons_succ,List.getElem?_cons_zero] at q2
                     obtain ⟨r,hr⟩ : ∃r,zbM false (pObj st j) (n) c1 ((l.drop a2).take n)=r:=⟨_,rfl⟩
                     rw [hr] at hres
                     cases r with
                     | error x =>
                       obtain ⟨rfl,hx⟩:=hres
                       have HF := Lib.hid (show ∀ s nn u, RObj w2 t (l.length - a2) (pObj st (j + 1) cN B) s x nn (w4.setCell ⟨w2.heap.size, 2, none⟩ u) from fun s nn u => by
                        rw [pO_con HY.out.1 HA.out hf hnl hcB,←HC1.out,←HY.out.2.2.2.2.1,HY.out.2.2.1,hr]
                        exact ⟨hbw.setCell (p:=⟨w2.heap.size,2,none⟩) (Nat.le_refl _) u,rfl,hx⟩)
                       clear b4 hbw hr hx hb4 HER
                       go_wp2_with fail
                       go_meet
                       exact ⟨_,_,_,rfl,rfl,rfl,Lib.hid (HF.out _ _ _)⟩
                     | ok q =>
                       obtain ⟨f,rest,c'⟩:=q
                       obtain ⟨Ak,ck,rfl,sk⟩:=hres
                       have HF := Lib.hid (show ∀ c2 : Nat, RObj w2 t (l.length - a2) (pObj st (j + 1) cN B) (c' : Int) 0 (n : Int) (w4.setCell ⟨w2.heap.size, 2, none⟩ (.slice Ak f.len ck)) from fun _ => by
                        rw [pO_con HY.out.1 HA.out hf hnl hcB,←HC1.out,←HY.out.2.2.2.2.1,HY.out.2.2.1,hr]
                        refine ⟨hbw.setCell (p:=⟨w2.heap.size,2,none⟩) (Nat.le_refl _) _,rfl,rfl,by rw [HY.out.2.2.2.1],by rw [List.length_drop,List.length_drop];omega,by rw [List.length_drop,List.length_drop];omega,none,0,Ak,ck,zai (i:=2) b4 _,fun _=>rfl,.inl rfl,?_⟩
                        refine (sk.keep fun q hq=>World.cell?_of_block (Below.heap_setCell _ _ _ _ ?_)).imp fun y hy=>⟨?_,?_⟩
                        · have h1:=hq.1;simp only [World.size_alloc] at h1;simp only;omega
                        · have h1:=hy.1;simp only [World.size_alloc] at h1;omega
                        · have h1:=hy.2;simpa using h1)
                       clear b4 hbw hr hb4 HER sk
                       go_wp2_with fail
                       go_meet
                       exact ⟨_,_,_,rfl,rfl,rfl,Lib.hid (HF.out 0)⟩
                   · have hca2 : a2 < cap := by omega
                     have hih:=HI.out j rfl false (D+1) c1 ((l.drop a2).take n) (some ⟨b0,o0+a2,none⟩) (cap - a2) (w2.alloc (.cells #[.int .i64 (t:Int),.slice none 0 0,.slice none 0 0] 64)) p (by have:=HD0.out;omega) (fun y hy=>by have h1:=HP.out y hy;have h2:=HL2.out.2.2.1.size;simp;omega) hc1l (by rw [hln];omega) (by rw [hln];omega) (SeesP.keep (zcx (zbs HL2.out.2.1 (by omega))) fun y hy=>World.cell?_alloc_lt w2 _ y (by have h1:=HP.out _ hy;have h2:=HL2.out.2.2.1.size;omega))
                     rw [hln] at hih
                     have HIH:=Lib.hid hih
                     clear hih HI HL2
                     go_wp2_with (go_at_call 29;refine (HCn.out _).mono ?_;rintro e w' ⟨rfl,rfl⟩)
                     refine HIH.out.mono ?_
                     rintro e w4 ⟨hb4,hres⟩
                     clear HIH
                     have b4:w4.heap[w2.heap.size]? = some (.cells #[.int .i64 (t:Int),.slice none 0 0,.slice none 0 0] 64 (0,0)):=(hb4.block _ (by simp)).trans (heap_alloc_new w2 _)
                     have hbw:=zaf ((Below.refl _ _).alloc (Nat.le_refl _) (.cells #[.int .i64 (t:Int),.slice none 0 0,.slice none 0 0] 64)) (hb4.mono (Nat.le_refl _))
                     have q2:=cell_of_row w4 w2.heap.size 2 _ _ _ b4
                     have r2:=frozen_of_row w4 w2.heap.size 2 _ _ b4
                     simp only [List.getElem?_toArray,List.getElem?_cons_succ,List.getElem?_cons_zero] at q2
                     obtain ⟨r,hr⟩ : ∃r,zbM false (pObj st j) (n) c1 ((l.drop a2).take n)=r:=⟨_,rfl⟩
                     rw [hr] at hres
                     cases r with
                     | error x =>
                       obtain ⟨rfl,hx⟩:=hres
                       have HF := Lib.hid (show ∀ s nn u, RObj w2 t (l.length - a2) (pObj st (j + 1) cN B) s x nn (w4.setCell ⟨w2.heap.size, 2, none⟩ u) from fun s nn u => by
                        rw [pO_con HY.out.1 HA.out hf hnl hcB,←HC1.out,←HY.out.2.2.2.2.1,HY.out.2.2.1,hr]
                        exact ⟨hbw.setCell (p:=⟨w2.heap.size,2,none⟩) (Nat.le_refl _) u,rfl,hx⟩)
                       clear b4 hbw hr hx hb4 HER
                       go_wp2_with fail
                       go_meet
                       exact ⟨_,_,_,rfl,rfl,rfl,Lib.hid (HF.out _ _ _)⟩
                     | ok q =>
                       obtain ⟨f,rest,c'⟩:=q
                       obtain ⟨Ak,ck,rfl,sk⟩:=hres
                       have HF := Lib.hid (show ∀ c2 : Nat, RObj w2 t (l.length - a2) (pObj st (j + 1) cN B) (c' : Int) 0 (n : Int) (w4.setCell ⟨w2.heap.size, 2, none⟩ (.slice Ak f.len ck)) from fun _ => by
                        rw [pO_con HY.out.1 HA.out hf hnl hcB,←HC1.out,←HY.out.2.2.2.2.1,HY.out.2.2.1,hr]
                        refine ⟨hbw.setCell (p:=⟨w2.heap.size,2,none⟩) (Nat.le_refl _) _,rfl,rfl,by rw [HY.out.2.2.2.1],by rw [List.length_drop,List.length_drop];omega,by rw [List.length_drop,List.length_drop];omega,none,0,Ak,ck,zai (i:=2) b4 _,fun _=>rfl,.inl rfl,?_⟩
                        refine (sk.keep fun q hq=>World.cell?_of_block (Below.heap_setCell _ _ _ _ ?_)).imp fun y hy=>⟨?_,?_⟩
                        · have h1:=hq.1;simp only [World.size_alloc] at h1;simp only;omega
                        · have h1:=hy.1;simp only [World.size_alloc] at h1;omega
                        · have h1:=hy.2;simpa using h1)
                       clear b4 hbw hr hb4 HER sk
                       go_wp2_with fail
                       go_meet
                       exact ⟨_,_,_,rfl,rfl,rfl,Lib.hid (HF.out 0)⟩
              case rest =>
               obtain ⟨s,xx,nn,rfl,rfl,rfl,HR⟩:=hcut
               obtain ⟨w5,hw5⟩ : ∃w5,w5=wc:=⟨_,rfl⟩
               subst hw5
               obtain ⟨r,hr⟩ : ∃r,pObj st (j+1) cN B=r:=⟨_,rfl⟩
               have hR:=HR.out
               rw [hr] at hR
               obtain ⟨hb5,hR⟩:=hR
               clear HR HN HLo d10 d9 d9' d8 HA HI
               cases r with
               | error x =>
                 obtain ⟨rfl,hx⟩:=hR
                 have HD:=Lib.hid (HER.out xx w5 hr hx (zaf HL2.out.2.2.1 hb5))
                 have d1:(xx != 0)=true:=by simpa using hx
                 clear hx hr HER HL2 hb5
                 go_wp2_with fail
                 (try simp only [Exit.inBlock,Exit.then]);refine bodyPost_ret (zbd rfl _ _ _) rfl ?_
                 exact HD.out
               | ok q =>
                 obtain ⟨t',v,kf,rest,c'⟩:=q
                 obtain ⟨rfl,rfl,rfl,rfl,hrl,Av,cv,Ak,ck,b5,hn0,hv,hk⟩:=hR
                 obtain ⟨a3,ha3⟩ : ∃a3,a3=l.length - rest.length:=⟨_,rfl⟩
                 have e3:(a2:Int)+((l.length - a2 - rest.length:Nat):Int)=(a3:Int):=by omega
                 have hrest : rest = l.drop a3 := by
                  have h1:=zfn st (j+1) cN B _ _ _ _ _ hr
                  rw [HC.out.2.1] at h1
                  have h2:=h1.trans (List.drop_suffix aN l)
                  rw [ha3]
                  exact List.suffix_iff_eq_drop.1 h2
                 have hrl2:=zcb st (j+1) cN B _ _ _ _ _ hr
                 have hBl:=HC.out.2.2
                 rw [hBl] at hrl2
                 have ha3l:a3≤l.length:=by omega
                 have ha3m:aN+2≤a3:=by omega
                 obtain ⟨cs,hown0,hh0⟩:=HL2.out.1
                 obtain ⟨hown,hh⟩:=Held.carry hb0 (zaD hb5) hown0 hh0
                 have HW:=Lib.hid (zbP hown0)
                 have HHH:=Lib.hid hh
                 have q0:=cell_of_row w5 w2.heap.size 0 _ _ _ b5
                 have q1:=cell_of_row w5 w2.heap.size 1 _ _ _ b5
                 have q2:=cell_of_row w5 w2.heap.size 2 _ _ _ b5
                 simp only [List.getElem?_toArray,List.getElem?_cons_succ,List.getElem?_cons_zero] at q0 q1 q2
                 have HN:=Lib.hid (show (Av=none→cv=0)∧SeesP w5 (newB w2 w5) Av (Us v)∧SeesF w5 (newB w2 w5) Ak kf∧rest=l.drop a3 from ⟨hn0,hv,hk,hrest⟩)
                 have HB5:=Lib.hid hb5
                 have hsz2:=HL2.out.2.2.1.size
                 have hsz5:=hb5.size
                 have HST:=Lib.hid (loopU_ok (m:=m - 1) HC.out.1 hr)
                 have hc':=hrl2.2
                 have hal2:acc.len+1+(l.length - a3)≤4096:=by omega
                 clear hn0 hv hk hrest hh hh0 hown0 b5 hr HER hb5 ha3 hBl hrl hrl2 HY
                 go_wp2_with (at_builtin;refine wpList_append_lies _ rfl (.tmp 164) (.tmp 166) 30 rfl w.heap.size 64 i0 _ 3 56 Tryz.underlying30 hi hz0 hz1 hz2 rfl (by decide) u14 acc.len cs rfl (hown.alloc _) ⟨_,0,none⟩ 1 1 _ rfl rfl (World.news_of_block (heap_alloc_new _ _)) (zbW _ _ _ _ _ _ _) (by decide) (by unfold maxLen;omega) (by omega) (by simp;omega) _ rfl ?_;intro g cap2 w6 ho hg6 hl6 _)
                 have hb2:Below w5.heap.size w5 _:=(Below.refl w5.heap.size w5).alloc (Nat.le_refl _) (.cells #[.int .i64 (t:Int),.slice Av v.length cv,.slice Ak kf.len ck] 64)
                 have hsn:=Held.snoc (wr:=w2) HB5.out.size hb2 HN.out.1 HN.out.2.1 HN.out.2.2.1 hsz2 HW.out cs HHH.out ho hg6 hl6
                 have hkeep : ∀ q : Addr, q.block < w.heap.size → w6.cell? q = w2.cell? q := fun q hq => by
                  refine (World.cell?_of_block (hg6.block q.block (by have:=hb2.size;omega) ?_)).trans ((hb2.cell (by omega)).trans (HB5.out.cell (by omega)))
                  rcases HW.out with h4 | ⟨g2,h4,h5,_⟩
                  · rw [h4];simp
                  · rw [h4];intro e;injection e with e;omega
                 have hbel : Below w.heap.size w w6 := by
                  have h1:=zaf (zaf HL2.out.2.2.1 HB5.out) hb2
                  refine ⟨hg6.os.trans h1.os,hg6.tape.trans h1.tape,hg6.output.trans h1.output,Nat.le_trans h1.size hg6.size,fun jj hj=>?_⟩
                  refine (hg6.block jj (Nat.lt_of_lt_of_le hj h1.size) ?_).trans (h1.block jj hj)
                  rcases HW.out with h4 | ⟨g2,h4,h5,_⟩
                  · rw [h4];simp
                  · rw [h4];intro e;injection e with e;omega
                 have HF := Lib.hid (show RLR w p op (pObj st (j + 1)) (zbM op (pObj st (j + 1)) l.length c l) _ _ (some ⟨b0, o0, none⟩) l (m - 1) a3 c' w6 from ⟨hsn, HL2.out.2.1.keep fun q hq => hkeep q (HP.out _ hq), hbel, by have := HL2.out.2.2.2.1; omega, by
                  have h5:=HL2.out.2.2.2.2
                  rw [←HC.out.2.1,show m=m - 1+1 by omega,HST.out,zgM,HN.out.2.2.2] at h5
                  exact h5⟩)
                 clear hb2 hsn hkeep hbel ho hg6 hl6 HL2 HST HC
                 go_roundw
                 case rel=>exact ⟨_,m - 1,a3,c',rfl,rfl,ha3l,by rw [F.len_app];simp only [F.len];omega,hc',HF⟩
                 case measure=>simp [intOf];omega
      · have HD := Lib.hid (HER.out xs w2 (by
         obtain ⟨t1,t2,t3,t4,_⟩:=HT.out
         rw [t2] at t3 t4
         rw [t3] at t4
         rw [t4]
         exact rz_err t1 (by rw [←t4];exact hxs)) hxs HL2.out.2.2.1)
        have d1:(xs != 0)=true:=by simpa using hxs
        clear hxs HER HT HL2
        go_wp2_with fail
        (try simp only [Exit.inBlock,Exit.then]);refine bodyPost_ret (zbd rfl _ _ _) rfl ?_
        exact HD.out
   · rw [if_neg hx0, if_neg hx0] at HTG
     have HD:=Lib.hid (fun q=>HER.out x (wr.drewN q) (by rw [hx];exact (pO_hdr (by rw [hdrE_tag (by omega)];omega)).trans (by rw [hdrE_tag (by omega)])) hx0 (zbq HBe.out q))
     have d1:(x != 0)=true:=by simpa using hx0
     clear hx hx0 HER
     go_wp2_with (go_at_call 59;refine HTG.mono ?_;rintro e w1 ⟨rfl,q1,rfl⟩)
     (try simp only [Exit.inBlock,Exit.then]);refine bodyPost_ret (zbd rfl _ _ _) rfl ?_
     exact HD.out _
end Go.Proofs.YtnlhbknajdpnbaaGreatDoor
