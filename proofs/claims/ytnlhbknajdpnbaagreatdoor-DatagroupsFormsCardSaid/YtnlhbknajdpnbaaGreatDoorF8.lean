/-
  What is proved here: what the program's Encode returns, for objects that lie in memory.
-/
import Derived.Test.YtnlhbknajdpnbaaGreatDoorRows
import Derived.Test.YtnlhbknajdpnbaaGreatDoorF0
import Derived.Test.YtnlhbknajdpnbaaGreatDoorF4
import Derived.Laws.CopyOwn
import Derived.Test.YtnlhbknajdpnbaaGreatDoorF5
import Derived.Deep.RegionWith
set_option linter.unusedVariables false
set_option linter.unusedSimpArgs false
namespace Go.Proofs.YtnlhbknajdpnbaaGreatDoor
open Go.RowKit
set_option maxRecDepth 8000
def encE (f:F):Int:=if chkE f 1≠0 then chkE f 1 else if 256 < f.size then 2 else if 4096 < encN f then 2 else 0
def encB (f:F):List UInt8:=if encE f=0 then enc f else []
theorem zfu : ∀ {f : F} {d : Int}, chkE f d = 0 → f.tags
 | .nil,_,_=>trivial
 | .cons t v k r, d, h => by
   by_cases h1:chk1 t v.length k.len d=0
   · by_cases h2 : chkE k (d + 1) = 0
     · rw [chkE_3 h1 h2] at h
       refine ⟨?_,zfu h2,zfu h⟩
       cases hv:zaA t
       · unfold chk1 at h1;rw [if_pos hv] at h1;omega
       · exact zba hv
     · rw [chkE_2 h1 h2] at h;omega
   · rw [zeQ h1] at h;omega
theorem encN_le : ∀ {f : F}, f.ok → encN f ≤ f.size * 140737488351300
 | .nil,_=>by simp [encN]
 | .cons t v k r, h => by
   obtain ⟨_,hv,hk,hr⟩:=h
   have h1:=encN_le hk
   have h2:=encN_le hr
   have h3:=zfN t
   have h4:=lb_le8 (v.length+encN k)
   simp only [encN,F.size]
   omega
def GivesC (w : World) (bs : List UInt8) (er : Int) (e : Ending) (w' : World) : Prop :=
 ∃A c,e=.returned (.tuple #[.slice A bs.length c,.int .i64 er])∧Sees w' w'.heap.size A (Us bs)∧Below w.heap.size w w'∧bs.length≤c
def zdH (w : World) (bs : List UInt8) (er : Int) (e : Ending) (w' : World) : Prop :=
 ∃A c,e=.returned (.tuple #[.slice A bs.length c,.int .i64 er])∧SeesP w' (fun b=>w.heap.size≤b∧b < w'.heap.size) A (Us bs)∧Below w.heap.size w w'∧bs.length≤c
theorem new_of_own {w w' : World} {g k cap : Nat} {l : List UInt8} (ho : Out w' w.heap.size g k cap l) : SeesP w' (fun b => w.heap.size ≤ b ∧ b < w'.heap.size) (some ⟨g, 0, none⟩) (Us l) := by
 rcases Sees.of_own ho with h | ⟨b,o,e,hlt,hc⟩
 · exact .inl h
 · injection e with e
   injection e with e1 e2
   subst e1 e2
   exact .inr ⟨_,_,rfl,ho.lt _ rfl,hc⟩
theorem enc_fail {f : F} {x : Int} {w w' : World} (h : encE f = x) (hx : x ≠ 0) (hb : Below w.heap.size w w') : zdH w (encB f) (encE f) (.returned (.tuple #[.slice none 0 0, .int .i64 x])) w' := by
 have:encB f=[]:=by unfold encB;rw [h,if_neg hx]
 rw [this,h]
 exact ⟨none,0,rfl,.inl rfl,hb,Nat.le_refl _⟩
theorem enc_done {f : F} {g : Nat} {w w' : World} (h : encE f = 0) (ho : Out w' w.heap.size g (encN f) (encN f) (enc f)) (hb : Below w.heap.size w w') :
 zdH w (encB f) (encE f) (.returned (.tuple #[.slice (some ⟨g,0,none⟩) (encN f) (encN f),.int .i64 0])) w':=by
 have:encB f=enc f:=by unfold encB;rw [if_pos h]
 rw [this,h]
 refine ⟨_,encN f,by rw [zbu],new_of_own ho,hb,by rw [zbu];exact Nat.le_refl _⟩
set_option maxHeartbeats 1000000 in
theorem tlv_encode_n (f : F) (A : Option Addr) (c : Nat) (w : World) (hsz : f.size < 1125899906842624) (hok : f.ok) (hs : SeesF w (· < w.heap.size) A f) :
 Calls Tryz.prog 63 #[.slice A f.len c] w (zdH w (encB f) (encE f)):=by
 obtain ⟨i0,hi,hz0,hz1,hz2⟩:=info_parts zaW
 have hc:=tlv_check 1125899906842624 f A c 1 w _ hsz (Nat.le_refl _) hok (by decide) (by decide) hs
 unfold ChkIs at hc
 obtain ⟨x,hx⟩ : ∃x,x=chkE f 1:=⟨_,rfl⟩
 rw [←hx] at hc
 by_cases h1:x=0
 · subst h1
   rw [if_pos rfl] at hc
   have HC:=Lib.hid hc
   clear hc
   by_cases h2:256 < f.size
   · have hf := enc_fail (w := w) (w' := w) (show encE f = 2 by unfold encE; rw [if_neg (by omega), if_pos h2]) (by decide) (Below.refl _ _)
     have HF:=Lib.hid hf
     have d1:decide ((256:Int) < (f.size:Int))=true:=by simp;omega
     clear hf h2 hx hs
     go_enter Tryz.func63,Tryz.ntmps63
     go_wp2_with (go_at_call 84;refine HC.out.mono ?_;rintro e w' ⟨rfl,rfl⟩)
     go_ret2
     exact HF.out
   · have d1 : decide ((256 : Int) < (f.size : Int)) = false := by simp; omega
     have hle:=encN_le hok
     have hS:=tlv_size 1125899906842624 (Nat.le_refl _) f A c w hsz hok (by omega) hs
     have HS:=Lib.hid hS
     clear hS
     by_cases h3:4096 < encN f
     · have hf : ∀ w', Below w.heap.size w w' → zdH w (encB f) (encE f) (.returned (.tuple #[.slice none 0 0, .int .i64 2])) w' := fun w' hb => enc_fail (show encE f = 2 by unfold encE; rw [if_neg (by omega), if_neg h2, if_pos h3]) (by decide) hb
       have HF:=Lib.hid hf
       have d2:decide ((4096:Int) < (encN f:Int))=true:=by simp;omega
       clear hf h2 h3 hx hs hle
       go_enter Tryz.func63,Tryz.ntmps63
       go_wp2_with (first | (go_at_call 84;refine HC.out.mono ?_;rintro e w' ⟨rfl,rfl⟩) | (go_at_call 85;refine HS.out.mono ?_;rintro e w' ⟨rfl,hb⟩;have HB:=Lib.hid hb;clear hb))
       go_ret2
       exact HF.out _ HB.out
     · have d2 : decide ((4096 : Int) < (encN f : Int)) = false := by simp; omega
       have hE:encE f=0:=by unfold encE;rw [if_neg (by omega),if_neg h2,if_neg h3]
       have HA:=Lib.hid (show f.ok∧f.tags∧encE f=0∧SeesF w (· < w.heap.size) A f from ⟨hok,zfu hx.symm,hE,hs⟩)
       have h3:encN f≤4096:=by omega
       clear h2 hx hs hle hE hok
       go_enter Tryz.func63,Tryz.ntmps63
       go_wp2_with (first | (go_at_call 84;refine HC.out.mono ?_;rintro e w' ⟨rfl,rfl⟩) | (go_at_call 85;refine HS.out.mono ?_;rintro e w1 ⟨rfl,hb⟩;have HB:=Lib.hid hb;clear hb) | (at_make;refine wpList_make_own _ rfl _ _ 27 rfl w'.heap.size 5 i0 (.int .u8 0) 1 Tryz.underlying27 hi hz0 hz1 _ _ _ (encN f) rfl rfl (by simp) (by rw [hz2];omega) (by unfold maxLen;omega) HB.out.size ?_;intro w2 hown hgrow))
       have hb2:=HB.out.grown hgrow HB.out.size (by simp)
       have hA:=app_list 1125899906842624 (Nat.le_refl _) f A c w'.heap.size w1.heap.size 0 (encN f) [] w2 hsz HA.out.1 HA.out.2.1 h3 (HA.out.2.2.2.keep fun _ hq=>hb2.cell hq) hb2.size hown (by omega)
       rw [Nat.zero_add,List.nil_append] at hA
       refine hA.mono ?_
       rintro e w3 ⟨rfl,ho,hg⟩
       have hd:=enc_done HA.out.2.2.1 ho (hb2.grown hg hb2.size (by intro k hk;injection hk with hk;rw [←hk];exact HB.out.size))
       have HD:=Lib.hid hd
       clear hd ho hg hA hb2 hown hgrow
       go_wp2_with fail
       go_ret2
       exact HD.out
 · rw [if_neg h1] at hc
   have HC:=Lib.hid hc
   have hf:=enc_fail (w:=w) (w':=w) (show encE f=x by unfold encE;rw [if_pos (by omega)];exact hx.symm) h1 (Below.refl _ _)
   have HF:=Lib.hid hf
   have d1:(x != 0)=true:=by simpa using h1
   clear hc h1 hx hf hs
   go_enter Tryz.func63,Tryz.ntmps63
   go_wp2_with (go_at_call 84;refine HC.out.mono ?_;rintro e w' ⟨rfl,rfl⟩)
   go_ret2
   exact HF.out
theorem tlv_encode_c (f : F) (A : Option Addr) (c : Nat) (w : World) (hsz : f.size < 1125899906842624) (hok : f.ok) (hs : SeesF w (· < w.heap.size) A f) :
 Calls Tryz.prog 63 #[.slice A f.len c] w (GivesC w (encB f) (encE f)) :=
 (tlv_encode_n f A c w hsz hok hs).mono fun _ _ ⟨A,c,h1,h2,h3,h4⟩=>⟨A,c,h1,h2.imp fun _ hb=>hb.2,h3,h4⟩
end Go.Proofs.YtnlhbknajdpnbaaGreatDoor
namespace Go.Proofs.YtnlhbknajdpnbaaGreatDoor
open Go.RowKit
set_option maxRecDepth 8000
def Lists (w : World) (B : Nat) (vs : List Value) (ls : List (List UInt8)) : Prop :=
 vs.length=ls.length∧∀(i:Nat) (l:List UInt8),ls[i]? = some l→∃(A:Option Addr) (c:Nat),vs[i]? = some (Value.slice A l.length c)∧Sees w B A (Us l)
def SeesL (w:World) (B:Nat) (A:Option Addr) (ls:List (List UInt8)):Prop:=∃vs,Sees w B A vs∧Lists w B vs ls
theorem Lists.below {w w' : World} {B : Nat} {vs : List Value} {ls : List (List UInt8)} (h : Lists w B vs ls) (hb : Below B w w') : Lists w' B vs ls :=
 ⟨h.1,fun i l hl=>by obtain ⟨A,c,hv,hs⟩:=h.2 i l hl;exact ⟨A,c,hv,hs.below hb⟩⟩
theorem Lists.more {w : World} {B B' : Nat} {vs : List Value} {ls : List (List UInt8)} (h : Lists w B vs ls) (hB : B ≤ B') : Lists w B' vs ls :=
 ⟨h.1,fun i l hl=>by obtain ⟨A,c,hv,hs⟩:=h.2 i l hl;exact ⟨A,c,hv,hs.more hB⟩⟩
theorem SeesL.on {w w' : World} {A : Option Addr} {ls : List (List UInt8)} (h : SeesL w w.heap.size A ls) (hb : Below w.heap.size w w') : SeesL w' w'.heap.size A ls := by
 obtain ⟨vs,h1,h2⟩:=h
 exact ⟨vs,h1.on hb,(h2.below hb).more hb.size⟩
theorem SeesL.nil_ {w:World} {B:Nat} {A:Option Addr}:SeesL w B A []:=⟨[],.inl rfl,rfl,fun i l h=>by simp at h⟩
def Owned (w : World) (base : Nat) (e : TypeId) (vs : List Value) (ls : List (List UInt8)) : Prop :=
 vs.length=ls.length∧∀(i:Nat) (l:List UInt8),ls[i]? = some l→∃(A:Option Addr) (c:Nat),vs[i]? = some (Value.slice A l.length c)∧w.ownsRow base e 1 (.slice A l.length c) l.length (Us l)
theorem Owned.nil_ {w:World} {base:Nat} {e:TypeId}:Owned w base e [] []:=⟨rfl,fun i l h=>by simp at h⟩
theorem own_apart {w : World} {base base' : Nat} {e e' : TypeId} {v v' : Value} {n n' : Nat} {xs xs' : List Value} (h : w.ownsRow base e 1 v n xs) (h' : w.ownsRow base' e' 1 v' n' xs') (hne : e ≠ e') :
 v.ownBlock=none∨v.ownBlock≠v'.ownBlock:=by
 rcases h.2 with ⟨rfl,_⟩ | ⟨g,cap,cur,rfl,_,hh,_⟩
 · left;rfl
 · right
   rcases h'.2 with ⟨rfl,_⟩ | ⟨g',cap',cur',rfl,_,hh',_⟩
   · simp [Value.ownBlock]
   · intro he
     have:g=g':=by simpa [Value.ownBlock] using he
     subst this
     rw [hh] at hh'
     injection hh' with hh'
     injection hh' with _ ht
     exact hne ht
theorem Owned.kept {w w' : World} {base base' : Nat} {e e' : TypeId} {vs : List Value} {ls : List (List UInt8)} {v' : Value} {n' : Nat} {xs' : List Value} (h : Owned w base e vs ls) (h' : w.ownsRow base' e' 1 v' n' xs') (hne : e ≠ e')
 (hg:w.grownBy w' v'.ownBlock):Owned w' base e vs ls :=
 ⟨h.1,fun i l hl=>by obtain ⟨A,c,hv,hs⟩:=h.2 i l hl;exact ⟨A,c,hv,hs.kept hg (own_apart hs h' hne)⟩⟩
theorem Owned.alloc {w : World} {base : Nat} {e : TypeId} {vs : List Value} {ls : List (List UInt8)} (h : Owned w base e vs ls) (o : Obj) : Owned (w.alloc o) base e vs ls :=
 ⟨h.1,fun i l hl=>by obtain ⟨A,c,hv,hs⟩:=h.2 i l hl;exact ⟨A,c,hv,hs.alloc o⟩⟩
theorem Owned.new {w w' : World} {base : Nat} {e : TypeId} {vs : List Value} {ls : List (List UInt8)} (h : Owned w base e vs ls) (hg : w.grownBy w' none) : Owned w' base e vs ls :=
 ⟨h.1, fun i l hl => by
  obtain ⟨A,c,hv,hs⟩:=h.2 i l hl
  refine ⟨A,c,hv,hs.kept hg ?_⟩
  rcases hs.2 with ⟨h0,_⟩ | ⟨g,cap,cur,h0,_⟩
  · left;rw [h0];rfl
  · right;rw [h0];simp [Value.ownBlock]⟩
theorem Owned.far {w w' : World} {base : Nat} {e : TypeId} {vs : List Value} {ls : List (List UInt8)} {g : Nat} (h : Owned w base e vs ls) (hg : w.grownBy w' (some g)) (hlt : ∀ v ∈ vs, v.ownBlock ≠ some g) : Owned w' base e vs ls :=
 ⟨h.1, fun i l hl => by
  obtain ⟨A,c,hv,hs⟩:=h.2 i l hl
  exact ⟨A,c,hv,hs.kept hg (.inr (hlt _ (List.mem_of_getElem? hv)))⟩⟩
theorem Owned.snoc {w : World} {base : Nat} {e : TypeId} {vs : List Value} {ls : List (List UInt8)} {A : Option Addr} {c : Nat} {l : List UInt8} (h : Owned w base e vs ls) (hs : w.ownsRow base e 1 (.slice A l.length c) l.length (Us l)) :
 Owned w base e (vs++[Value.slice A l.length c]) (ls++[l]):=by
 refine ⟨by simp [h.1],fun i l' hl=>?_⟩
 rw [List.getElem?_append] at hl ⊢
 rw [h.1]
 split at hl
 · rename_i hlt
   rw [if_pos hlt]
   exact h.2 i l' hl
 · rename_i hlt
   rw [if_neg hlt]
   have h0 : i - ls.length = 0 := by
    have:=(List.getElem?_eq_some_iff.1 hl).1
    simpa using this
   rw [h0] at hl ⊢
   simp at hl
   subst hl
   exact ⟨A,c,by simp,hs⟩
theorem zff {P : Program} {w : World} {ops : Array Oper} {rest : List Oper} {o : Oper} {a : Act} {Q : Exit → Act → World → Prop} (hgd : o.guard = none) (d s : Operand) (dT sT : TypeId)
 (ho:o.op=.call { callee:=.builtin .copy,args:=#[d,s],argTypes:=#[dT,sT] }) (elem:TypeId) (hu:P.underlying dT=some (.slice elem)) (hsz:(P.info? elem).map (·.size)=some 1)
 (base g n cap:Nat) (xs:List Value) (hd:a.eval d=.slice (some ⟨g,0,none⟩) n cap) (hown:w.ownsRow base elem 1 (.slice (some ⟨g,0,none⟩) n cap) n xs)
 (A:Option Addr) (sLen sCap B:Nat) (ss:List Value) (hs:a.eval s=.slice A sLen sCap) (hl:ss.length=sLen) (hsees:Sees w B A ss) (h1:∀v∈ss,v.oneCell'=true)
 (hK:∀w',w'.ownsRow base elem 1 (.slice (some ⟨g,0,none⟩) n cap) n (ss.take n++xs.drop ss.length)→w.grownBy w' (some g)→wpList P ops Q rest (a.put o.dst (goInt (Nat.min sLen n))) w') :
 wpList P ops Q (o::rest) a w:=by
 subst hl
 have hxl:xs.length=n:=by simpa using hown.1
 by_cases h0:Nat.min ss.length n=0
 · refine wpList_copy_nothing hgd d s dT sT ho elem hu hsz _ _ n cap ss.length sCap hd hs h0 ?_
   have h0' : ss.take n = [] ∧ xs.drop ss.length = xs := by
    rcases Nat.eq_zero_or_pos n with rfl | hn
    · have : xs = [] := List.eq_nil_of_length_eq_zero hxl
      subst this;simp
    · have : ss.length = 0 := by
       have h:=h0
       simp only [Nat.min_def] at h
       split at h <;> omega
      have:ss=[]:=List.eq_nil_of_length_eq_zero this
      subst this;simp
   have h:=hK w (by rw [h0'.1,h0'.2];exact hown) (World.grownBy.refl _ _)
   rw [h0] at h
   exact h
 · obtain ⟨m, hm⟩ : ∃ m, Nat.min ss.length n = m := ⟨_, rfl⟩
   have hm1:m≤n:=by rw [←hm];exact Nat.min_le_right _ _
   have hm2:m≤ss.length:=by rw [←hm];exact Nat.min_le_left _ _
   have hm3 : m = n ∨ m = ss.length := by
    rw [←hm];simp only [Nat.min_def];split
    · right;rfl
    · left;rfl
   have hpos:0 < ss.length:=by omega
   have hcl:(ss.take n).length=m:=by rw [List.length_take];omega
   obtain ⟨b,off,rfl,hb,hc⟩:=hsees.at_ (k:=0) hpos
   rcases hown.2 with ⟨h',_⟩ | ⟨g',cap',cur,h',hbg,hg,hnc,hcm,hcs,htake⟩
   · simp at h'
   · simp only [Value.slice.injEq, Option.some.injEq, Addr.mk.injEq, and_true, true_and] at h'
     obtain ⟨rfl,rfl⟩:=h'
     have hcs':cur.toList.length=cap:=by rw [Array.length_toList,hcs,Nat.mul_one]
     have hx:xs=cur.toList.take n:=by rw [←htake,Nat.mul_one]
     refine wpList_copy_own hgd d s dT sT ho elem hu hsz g 0 n cap ⟨b,off,none⟩ ss.length sCap hd hs cur elem hg (ss.take n) (by rw [hcl];exact hm.symm) ?_ (by rw [hcl,hcs];omega) (fun v hv=>h1 v (List.mem_of_mem_take hv)) ?_
     · intro j v hj
       rw [List.getElem?_take] at hj
       split at hj
       · have hjl : j < ss.length := (List.getElem?_eq_some_iff.1 hj).1
         have hadd:(⟨b,off,none⟩ : Addr).add j=⟨b,off+j,none⟩:=by unfold Addr.add;split <;> simp_all
         rw [hadd,hc j hjl,hj]
       · cases hj
     · rw [hcl]
       rw [hm] at hK
       refine hK _ ?_ ⟨rfl,rfl,rfl,by simp [World.setRow],fun k _ hk=>setRow_other w g k _ (fun e=>hk (by simp [e]))⟩
       have hlen : (ss.take n ++ xs.drop ss.length).length = n := by
        rw [List.length_append,hcl,List.length_drop,hxl];omega
       refine ⟨by simpa using hlen,.inr ⟨g,cap,_,rfl,hbg,setRow_heap w g cur _ elem _ hg,hnc,hcm,?_,?_⟩⟩
       · simp only [List.take_zero, List.nil_append, List.size_toArray, List.length_append, List.length_drop, hcl, Nat.zero_add, Nat.mul_one]
         omega
       · simp only [List.take_zero, List.nil_append, Nat.mul_one, Nat.zero_add]
         rw [hx]
         rcases hm3 with e | e
         · rw [List.take_append_of_le_length (by omega), List.take_of_length_le (by omega)]
           have:(cur.toList.take n).drop ss.length=[]:=List.drop_eq_nil_of_le (by rw [List.length_take];omega)
           rw [this,List.append_nil]
         · have e2 : ss.take n = ss := List.take_of_length_le (by omega)
           rw [e2,e,List.take_append,List.take_of_length_le (by omega),List.drop_take]
end Go.Proofs.YtnlhbknajdpnbaaGreatDoor
namespace Go.Proofs.YtnlhbknajdpnbaaGreatDoor
open Go.RowKit
set_option maxRecDepth 8000
def zfe (acc : F) : Except Int (F × List UInt8 × Nat) → Except Int (F × List UInt8 × Nat)
 | .error e=>.error e
 | .ok (f,r,c)=>.ok (acc.app f,r,c)
theorem zfV {ob : Nat → List UInt8 → Except Int ObR} {m c : Nat} {l : List UInt8} (h : l.length < 2) {acc : F} : zfe acc (zbF ob m c l) = .error 6 := by
 cases m with
 | zero=>rfl
 | succ m=>simp only [zbF];rw [if_pos h];rfl
theorem zft {ob : Nat → List UInt8 → Except Int ObR} {m c : Nat} {l : List UInt8} (h : 2 ≤ l.length) (h2 : l.take 2 = [0, 0]) : zbF ob (m + 1) c l = .ok (.nil, l.drop 2, c) := by
 simp only [zbF];rw [if_neg (by omega),if_pos h2]
theorem loopM_err {ob : Nat → List UInt8 → Except Int ObR} {m c : Nat} {l : List UInt8} (h : 2 ≤ l.length) (h2 : l.take 2 ≠ [0, 0]) {x : Int} (hx : ob c l = .error x) : zbF ob (m + 1) c l = .error x := by
 simp only [zbF];rw [if_neg (by omega),if_neg h2,hx]
theorem loopM_ok {ob : Nat → List UInt8 → Except Int ObR} {m c : Nat} {l : List UInt8} (h : 2 ≤ l.length) (h2 : l.take 2 ≠ [0, 0]) {t : Int} {v : List UInt8} {k : F} {rest : List UInt8} {c' : Nat} (hx : ob c l = .ok (t, v, k, rest, c')) :
 zbF ob (m+1) c l=zfe (.cons t v k .nil) (zbF ob m c' rest):=by
 simp only [zbF];rw [if_neg (by omega),if_neg h2,hx]
 simp only
 cases zbF ob m c' rest with
 | error e=>rfl
 | ok q2=>obtain ⟨f,r,c2⟩:=q2;rfl
theorem zgM (a b : F) (r : Except Int (F × List UInt8 × Nat)) : zfe a (zfe b r) = zfe (a.app b) r := by
 cases r with
 | error e=>rfl
 | ok q=>obtain ⟨f,r,c⟩:=q;simp only [zfe];rw [F.app_assoc]
theorem joinM_nil (r : Except Int (F × List UInt8 × Nat)) : zfe .nil r = r := by
 cases r with
 | error e=>rfl
 | ok q=>obtain ⟨f,r,c⟩:=q;rfl
theorem take_two {l : List UInt8} (h : 2 ≤ l.length) : (l.take 2 = [0, 0]) ↔ ((l[0]'(by omega)).toNat = 0 ∧ (l[1]'(by omega)).toNat = 0) := by
 match l,h with
 | a :: b :: r, _ =>
   simp only [List.take_succ_cons,List.take_zero,List.getElem_cons_zero,List.getElem_cons_succ,List.cons.injEq,and_true]
   constructor
   · rintro ⟨rfl,rfl⟩;exact ⟨rfl,rfl⟩
   · rintro ⟨h1,h2⟩;exact ⟨UInt8.toNat_inj.1 h1,UInt8.toNat_inj.1 h2⟩
theorem zbU {w:World} {p:Nat→Prop} {A:Option Addr} {l:List UInt8} {k:Nat} (h:l.length≤k):SeesP w p A (Us (l.drop k)):=.inl (by rw [List.drop_eq_nil_of_le h];rfl)
theorem zbs {w : World} {p : Nat → Prop} {b o : Nat} {l : List UInt8} {k : Nat} (h : SeesP w p (some ⟨b, o, none⟩) (Us l)) (hk : k ≤ l.length) : SeesP w p (some ⟨b, o + k, none⟩) (Us (l.drop k)) := by
 rcases h with h | ⟨b2,o2,e,hp,hc⟩
 · have : l = [] := by simpa [Us] using h
   subst this
   exact .inl (by simp [Us])
 · injection e with e
   injection e with e1 e2
   subst e1 e2
   refine .inr ⟨b,o+k,rfl,hp,fun j hj=>?_⟩
   rw [Us_drop,List.length_drop] at hj
   rw [Nat.add_assoc,hc _ (by omega),Us_drop,List.getElem?_drop]
theorem zcx {w : World} {p : Nat → Prop} {A : Option Addr} {l : List UInt8} {k : Nat} (h : SeesP w p A (Us l)) : SeesP w p A (Us (l.take k)) := by
 rcases h with h | ⟨b,o,e,hp,hc⟩
 · have : l = [] := by simpa [Us] using h
   subst this
   exact .inl (by simp [Us])
 · refine .inr ⟨b, o, e, hp, fun j hj => ?_⟩
   rw [Us_take,List.length_take] at hj
   rw [hc j (by omega),Us_take,List.getElem?_take,if_pos (by omega)]
end Go.Proofs.YtnlhbknajdpnbaaGreatDoor
namespace Go.Proofs.YtnlhbknajdpnbaaGreatDoor
open Go.RowKit
set_option maxRecDepth 8000
theorem info_u8s:(Tryz.prog.info? 5).map (·.size)=some 1:=by kernel_rfl
theorem zbf:(Tryz.prog.info? 64).map (·.size)=some 3:=by kernel_rfl
set_option maxHeartbeats 400000 in
theorem clone_bytes (A : Option Addr) (l : List UInt8) (c : Nat) (w : World) (p : Nat → Prop) (hp : ∀ x, p x → x < w.heap.size) (hl : l.length ≤ 140737488351232) (hs : SeesP w p A (Us l)) :
 Calls Tryz.prog 107 #[.slice A l.length c] w fun e w'=>∃g,e=.returned (.slice (some ⟨g,0,none⟩) l.length l.length)∧SeesP w' (newB w w') (some ⟨g,0,none⟩) (Us l)∧Below w.heap.size w w':=by
 obtain ⟨i0,hi,hz0,hz1,hz2⟩:=info_parts zaW
 have HS:=Lib.hid (hs.imp hp)
 clear hs
 go_enter Tryz.func107,Tryz.ntmps107
 go_wp2_with (first | (at_make;refine wpList_make_full _ rfl _ _ 27 rfl w.heap.size 5 i0 (.int .u8 0) 1 Tryz.underlying27 hi hz0 hz1 _ _ _ _ l.length rfl rfl rfl rfl (by rw [hz2];omega) (by unfold maxLen;omega) (Nat.le_refl _) ?_;intro w1 hown hgrow;have hb:=(Below.refl w.heap.size w).grown hgrow (Nat.le_refl _) (by simp);have hsee:=(show Sees w w.heap.size A (Us l) from HS.out).below hb) | (with_reducible refine zff rfl (.tmp 7) (.tmp 8) 27 27 rfl 5 Tryz.underlying27 info_u8s w.heap.size w.heap.size l.length l.length _ rfl hown A l.length c w.heap.size (Us l) rfl (zat _) hsee (zcE _) ?_;intro w2 ho hg))
 have hb2:=hb.grown hg hb.size (by simp)
 rw [List.take_of_length_le (by rw [zat];exact Nat.le_refl _),List.drop_eq_nil_of_le (by simp [Us,Value.cells,toList_madeCells_one]),List.append_nil] at ho
 have hse:=Sees.of_own ho
 have HF := Lib.hid (show SeesP w2 (newB w w2) (some ⟨w.heap.size, 0, none⟩) (Us l) ∧ Below w.heap.size w w2 from ⟨by
  rcases hse with h | ⟨b,o,e,hlt,hc⟩
  · exact .inl h
  · injection e with e
    injection e with e1 e2
    subst e1 e2
    exact .inr ⟨_,_,rfl,⟨Nat.le_refl _,hlt⟩,hc⟩,hb2⟩)
 clear hb2 hse ho hg hown hgrow hb hsee
 go_wp2_with fail
 go_ret
 exact ⟨_,rfl,HF.out.1,HF.out.2⟩
def ObSt (w : World) (R : Nat) (st : Bool) (N t f n s c : Nat) (w2 : World) : Prop :=
 w.grownBy w2 (some R)∧Rd w2 R st c∧w2.heap[w.heap.size]? = some (.cells #[.int .i64 0,.slice none 0 0,.slice none 0 0] 64 (0,0)) ∧
 w2.heap[N]? = some (.cells #[.int .i64 t,.int .u8 f,.int .i64 n,.int .i64 s] 137 (0,0))∧w.heap.size < N∧R < w.heap.size
theorem zcW {a b : World} {R k : Nat} {o : Obj} (hg : a.grownBy b (some R)) (h : a.heap[k]? = some o) (hk : k ≠ R) : b.heap[k]? = some o :=
 (hg.block k (lt_of_block h) (by intro e;injection e with e;exact hk e)).trans h
theorem ObSt.grown {w w2 w3 : World} {R : Nat} {st : Bool} {N t f n s c c' : Nat} (h : ObSt w R st N t f n s c w2) (hg : w2.grownBy w3 (some R)) (hr : Rd w3 R st c') : ObSt w R st N t f n s c' w3 := by
 obtain ⟨h1,_,h3,h4,h5,h6⟩:=h
 exact ⟨zae h1 hg,hr,zcW hg h3 (by omega),zcW hg h4 (by omega),h5,h6⟩
theorem ObSt.mk' {w w1 w2 : World} {R : Nat} {st : Bool} {t f n s c c' : Nat} (hr : Rd w R st c) (hb1 : Below (w.alloc (.cells #[.int .i64 0, .slice none 0 0, .slice none 0 0] 64)).heap.size (w.alloc (.cells #[.int .i64 0, .slice none 0 0, .slice none 0 0] 64)) w1)
 (hg:(w1.alloc (.cells #[.int .i64 t,.int .u8 f,.int .i64 n,.int .i64 s] 137)).grownBy w2 (some R)) (hr2:Rd w2 R st c'):ObSt w R st w1.heap.size t f n s c' w2:=by
 have hR:=lt_of_block hr
 have hs:=hb1.size
 simp only [World.size_alloc] at hs
 refine ⟨?_,hr2,?_,?_,by omega,hR⟩
 · exact zae (zaD (zaf ((Below.refl _ _).alloc (Nat.le_refl _) _) (hb1.mono (Nat.le_refl _)))) (zae (zaB w1 _ (some R)) hg)
 · refine zcW hg (zaw ?_ _) (by omega)
   exact (hb1.block w.heap.size (by simp)).trans (heap_alloc_new w _)
 · exact zcW hg (heap_alloc_new w1 _) (by omega)
def Fin (w w3 W:World):Prop:=w3.heap.size≤W.heap.size∧(∀k,k < w3.heap.size→k≠w.heap.size→W.heap[k]? = w3.heap[k]?)∧W.os=w3.os∧W.tape=w3.tape∧W.output=w3.output
theorem Fin.set (w w3 : World) (a b c : Value) : Fin w w3 (((w3.setCell ⟨w.heap.size, 0, none⟩ a).setCell ⟨w.heap.size, 1, none⟩ b).setCell ⟨w.heap.size, 2, none⟩ c) := by
 refine ⟨by simp,fun k _ hk=>?_,rfl,rfl,rfl⟩
 rw [Below.heap_setCell _ _ _ k hk,Below.heap_setCell _ _ _ k hk,Below.heap_setCell _ _ _ k hk]
theorem Fin.alloc {w w3 W : World} (h : Fin w w3 W) (o : Obj) : Fin w w3 (W.alloc o) := by
 obtain ⟨h1,h2,h3,h4,h5⟩:=h
 exact ⟨by simp;omega,fun k hk hk2=>(Below.heap_alloc W o k (by omega)).trans (h2 k hk hk2),h3,h4,h5⟩
theorem Fin.drewN {w w3 W:World} (h:Fin w w3 W) (n:Nat):Fin w w3 (W.drewN n):=h
theorem Fin.cell {w w3 W:World} (h:Fin w w3 W) {q:Addr} (h1:q.block < w3.heap.size) (h2:q.block≠w.heap.size):W.cell? q=w3.cell? q:=World.cell?_of_block (h.2.1 _ h1 h2)
theorem Fin.grown {w w3 W : World} {R : Nat} (h : Fin w w3 W) (hg : w.grownBy w3 (some R)) : w.grownBy W (some R) := by
 obtain ⟨h2,h3,h4,h5,h6⟩:=h
 exact ⟨h4.trans hg.os,h5.trans hg.tape,h6.trans hg.output,Nat.le_trans hg.size h2,fun k hk hk2=>(h3 k (Nat.lt_of_lt_of_le hk hg.size) (Nat.ne_of_lt hk)).trans (hg.block k hk hk2)⟩
theorem Fin.rd {w w3 W : World} {R : Nat} {st : Bool} {c : Nat} (h : Fin w w3 W) (hr : Rd w3 R st c) (hR : R < w.heap.size) : Rd W R st c :=
 (h.2.1 R (lt_of_block hr) (by omega)).trans hr
theorem hdr_yes {l : List UInt8} {A : Option Addr} {cap : Nat} {w : World} {R : Nat} {p : Nat → Prop} (hp : ∀ x, p x → oldB w R x) (hl : l.length ≤ 4096) (hs : SeesP w p A (Us l)) (hE : hdrE l = 0) {t f n s : Nat} (h1 : tagV l = t) (h2 : hdrF l = f) (h3 : hdrN l = n) (h4 : hdrS l = s) :
 ∀u,Below w.heap.size w u→Calls Tryz.prog 103 #[.slice A l.length cap] u fun e w'=>e=.returned (.tuple #[.agg #[.int .i64 t,.int .u8 f,.int .i64 n,.int .i64 s],.int .i64 0])∧Below u.heap.size u w':=fun u hu=>by
 have h:=zgb A cap l u ((hs.keep fun q hq=>hu.cell (hp _ hq).1).imp fun b hb=>Nat.lt_of_lt_of_le (hp b hb).1 hu.size) (by omega)
 refine h.mono fun e w' hh=>⟨?_,hh.2⟩
 have h5:=hh.1
 rw [if_pos hE,h1,h2,h3,h4] at h5
 exact h5
def Pre (w : World) (R : Nat) (st : Bool) (A : Option Addr) (ll cap : Nat) (d : Int) (t f n s c : Nat) (x : Int) : Prop :=
 (∀u,Below w.heap.size w u→Calls Tryz.prog 103 #[.slice A ll cap] u fun e w'=>e=.returned (.tuple #[.agg #[.int .i64 t,.int .u8 f,.int .i64 n,.int .i64 s],.int .i64 0])∧Below u.heap.size u w') ∧
 (∀u,Rd u R st c→Calls Tryz.prog 104 #[.pointer (some ⟨R,0,none⟩),.agg #[.int .i64 t,.int .u8 f,.int .i64 n,.int .i64 s],.int .i64 d] u (AdmIs u R st x c))∧Rd w R st c
theorem pre_of {l : List UInt8} {A : Option Addr} {cap : Nat} {w : World} {R : Nat} {p : Nat → Prop} {st : Bool} {c : Nat} {d : Int} (hp : ∀ x, p x → oldB w R x) (hl : l.length ≤ 4096) (hc : c ≤ 256) (hr : Rd w R st c) (hs : SeesP w p A (Us l)) (hE : hdrE l = 0) {t f n s : Nat} {x : Int} (h1 : tagV l = t) (h2 : hdrF l = f) (h3 : hdrN l = n) (h4 : hdrS l = s) (h5 : admE st t f n d c = x) :
 Pre w R st A l.length cap d t f n s c x:=by
 have hra:=zfJ hE
 rw [h1,h2,h3] at hra
 refine ⟨hdr_yes hp hl hs hE h1 h2 h3 h4,fun u hu=>?_,hr⟩
 have h:=rd_admit R st c t f n s d hra.1 hra.2.1 hra.2.2 hc u hu
 rw [h5] at h
 exact h
end Go.Proofs.YtnlhbknajdpnbaaGreatDoor
namespace Go.Proofs.YtnlhbknajdpnbaaGreatDoor
open Go.RowKit
set_option maxRecDepth 8000
def obM (t : Int) : Except Int (F × List UInt8 × Nat) → Except Int ObR
 | .error e=>.error e
 | .ok (kf,rest,c')=>.ok (t,[],kf,rest,c')
def obL (t : Int) (rest : List UInt8) : Except Int (F × Nat) → Except Int ObR
 | .error e=>.error e
 | .ok (kf,c')=>.ok (t,[],kf,rest,c')
end Go.Proofs.YtnlhbknajdpnbaaGreatDoor
namespace Go.Proofs.YtnlhbknajdpnbaaGreatDoor
open Go.RowKit
set_option maxRecDepth 8000
theorem ObSt.drewN {w w2 : World} {R : Nat} {st : Bool} {N t f n s c : Nat} (h : ObSt w R st N t f n s c w2) (k : Nat) : ObSt w R st N t f n s c (w2.drewN k) :=
 ⟨⟨h.1.os,h.1.tape,h.1.output,h.1.size,h.1.block⟩,h.2.1,h.2.2.1,h.2.2.2.1,h.2.2.2.2⟩
def CloneC (p : Nat → Prop) (bs : List UInt8) (n : Nat) (w2 : World) : Prop := ∀ (u : World) (A : Option Addr) (cap : Nat), Below w2.heap.size w2 u → SeesP w2 p A (Us bs) →
 Calls Tryz.prog 107 #[.slice A n cap] u fun e w'=>∃g,e=.returned (.slice (some ⟨g,0,none⟩) n n)∧SeesP w' (newB u w') (some ⟨g,0,none⟩) (Us bs)∧Below u.heap.size u w'
theorem cloneC {p : Nat → Prop} {bs : List UInt8} {n : Nat} {w2 : World} (hn : n = bs.length) (hl : n ≤ 4096) (hp : ∀ x, p x → x < w2.heap.size) : CloneC p bs n w2 := by
 subst hn
 intro u A cap hu hs
 exact clone_bytes A bs cap u p (fun x hx=>Nat.lt_of_lt_of_le (hp x hx) hu.size) (by omega) (hs.keep fun q hq=>hu.cell (hp _ hq))
end Go.Proofs.YtnlhbknajdpnbaaGreatDoor
namespace Go.Proofs.YtnlhbknajdpnbaaGreatDoor
open Go.RowKit
set_option maxRecDepth 8000
theorem sees_some {w : World} {p : Nat → Prop} {A : Option Addr} {l : List UInt8} (h : SeesP w p A (Us l)) (hl : 0 < l.length) : ∃ b o, A = some ⟨b, o, none⟩ := by
 obtain ⟨b,o,e,_⟩:=zbh h hl
 exact ⟨b,o,e⟩
def zcu (st:Bool) (l:List UInt8):Except Int (F×Nat):=if 4096 < l.length then .error 2 else zbH (pObj st 8) l.length 0 l
def ParIs (w : World) (r : Except Int (F × Nat)) (e : Ending) (w' : World) : Prop :=
 Below w.heap.size w w'∧match r with
 | .error x=>e=.returned (.tuple #[.slice none 0 0,.int .i64 x])∧x≠0
 | .ok (f,_)=>∃A c,e=.returned (.tuple #[.slice A f.len c,.int .i64 0])∧SeesF w' (newB w w') A f
end Go.Proofs.YtnlhbknajdpnbaaGreatDoor
namespace Go.Proofs.YtnlhbknajdpnbaaGreatDoor
open Go.RowKit
set_option maxRecDepth 8000
theorem zda {n:Nat} (h:n < 256):(UInt8.ofNat n).toNat=n:=by rw [UInt8.toNat_ofNat'];omega
theorem zew (n:Nat):(UInt8.ofNat n).toNat=n % 256:=by rw [UInt8.toNat_ofNat']
theorem tag_read {t : Nat} (hv : zaA (t : Int) = true) (r : List UInt8) : tagE (tagL t ++ r) = 0 ∧ tagV (tagL t ++ r) = t := by
 have hr:=zba hv
 by_cases h:255 < t
 · have hv2 := hv
   unfold zaA at hv2
   rw [if_neg (by omega)] at hv2
   simp only [Bool.and_eq_true,decide_eq_true_eq] at hv2
   have e1:(UInt8.ofNat (t / 256)).toNat=t / 256:=zda (by omega)
   have e2:(UInt8.ofNat t).toNat=t % 256:=zew t
   have e3:t / 256*256+t % 256=t:=by omega
   have e4:t / 256 % 32=31:=by omega
   unfold tagL
   rw [if_pos h]
   simp only [List.cons_append,List.nil_append,tagE,tagV,e1,e2,e3,if_pos e4,hv,if_true,and_self]
 · have hv2 := hv
   unfold zaA at hv2
   rw [if_pos (by omega)] at hv2
   simp only [Bool.and_eq_true,decide_eq_true_eq] at hv2
   have e1:(UInt8.ofNat t).toNat=t:=zda (by omega)
   have e4:¬t % 32=31:=by omega
   unfold tagL
   rw [if_neg h]
   cases r with
   | nil=>simp only [List.append_nil,tagE,tagV,e1,if_neg e4,hv,if_true,and_self]
   | cons b r=>simp only [List.cons_append,List.nil_append,tagE,tagV,e1,if_neg e4,hv,if_true,and_self]
theorem zdC {t:Nat}:(tagL t).length=tagN (t:Int):=zdZ t
theorem hdr_short {t c : Nat} (hv : zaA (t : Int) = true) (hc : c ≤ 127) (r : List UInt8) :
 hdrE (tagL t++UInt8.ofNat c::r)=0∧hdrF (tagL t++UInt8.ofNat c::r)=c∧hdrN (tagL t++UInt8.ofNat c::r)=c∧hdrS (tagL t++UInt8.ofNat c::r)=tagN (t:Int)+1∧tagV (tagL t++UInt8.ofNat c::r)=t:=by
 have ht:=tag_read hv (UInt8.ofNat c::r)
 have hZ:hdrZ (tagL t++UInt8.ofNat c::r)=tagN (t:Int)+1:=by unfold hdrZ;rw [ht.2]
 have hF : hdrF (tagL t ++ UInt8.ofNat c :: r) = c := by
  unfold hdrF
  rw [hZ,Nat.add_sub_cancel]
  have : (tagL t ++ UInt8.ofNat c :: r).getD (tagN (t : Int)) 0 = UInt8.ofNat c := by
   rw [←zdC]
   simp [List.getD]
  rw [this,zda (by omega)]
 have hl:(tagL t++UInt8.ofNat c::r).length=tagN (t:Int)+(r.length+1):=by rw [List.length_append,zdC,List.length_cons]
 refine ⟨?_,hF,?_,?_,ht.2⟩
 · unfold hdrE
   rw [if_neg (by omega),hZ,hF,if_neg (by omega),if_neg (by omega),if_pos hc]
 · unfold hdrN
   rw [hF,if_pos hc]
 · unfold hdrS
   rw [hF,if_pos hc,hZ]
end Go.Proofs.YtnlhbknajdpnbaaGreatDoor
