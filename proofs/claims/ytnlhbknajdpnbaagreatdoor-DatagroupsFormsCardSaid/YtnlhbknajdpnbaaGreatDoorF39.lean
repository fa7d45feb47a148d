/-
  What is proved here: infos read out of objects, and Decode, by the program.
-/
import Derived.Test.YtnlhbknajdpnbaaGreatDoorF14
import Derived.Test.YtnlhbknajdpnbaaGreatDoorF13
import Derived.Test.YtnlhbknajdpnbaaGreatDoorF34
import Derived.Test.YtnlhbknajdpnbaaGreatDoorF36
import Derived.Test.YtnlhbknajdpnbaaGreatDoorF38
import Derived.Test.YtnlhbknajdpnbaaGreatDoorRows
import Derived.BigQuiet
import Derived.Lib.Strings
import Derived.Lib.Slices
import Derived.Lib.Small
import Derived.Lib.Walk
import Derived.Lib.BitFns
import Derived.Deep.RegionWith
import Derived.Laws.ResultCell
import Derived.Laws.Rows
import Derived.ProofKit
import Derived.OpenShut
import Derived.ShutString
import Derived.ChangeOld
import Derived.SizedLaws
import Derived.Deep.CutRange
import Derived.Laws.AppendOwnNone
import Derived.Deep.RegionLaw
import Derived.Deep.AppendLies
import Derived.Lib.AppendZerosOnto
import Derived.Deep.DeepMust
import Derived.Test.YtnlhbknajdpnbaaGreatDoorF0
import Derived.Test.YtnlhbknajdpnbaaGreatDoorF4
import Derived.Test.YtnlhbknajdpnbaaGreatDoorF3
import Derived.Test.YtnlhbknajdpnbaaGreatDoorF9
import Derived.Test.YtnlhbknajdpnbaaGreatDoorF5
import Derived.Test.YtnlhbknajdpnbaaGreatDoorF37
set_option linter.unusedVariables false
set_option linter.unusedSimpArgs false
namespace Go.Proofs.YtnlhbknajdpnbaaGreatDoor
open Go.RowKit
set_option maxRecDepth 8000
theorem info_inf:(Tryz.prog.info? 93).map (fun i=>(i.zero,i.size,i.bytes))=some (some (.agg zerX.toArray),5,40):=by kernel_rfl
theorem bsx (x:Im):Tryz.prog.builtSlice 93 1 [(0,.agg x.cs.toArray)]=some x.cs.toArray:=by kernel_rfl
def HeldI (w wr:World) (v:Value) (L:List Im):Prop:=wr.ownsRow w.heap.size 93 5 v L.length (Ics L)
theorem HeldI.start (w wr:World):HeldI w wr (.slice none 0 0) []:=⟨rfl,.inl ⟨rfl,rfl⟩⟩
theorem HeldI.on {w wr w':World} {v:Value} {L:List Im} (h:HeldI w wr v L) (hb:Below wr.heap.size wr w'):HeldI w w' v L:=zaI h hb
theorem HeldI.slice {w wr : World} {v : Value} {L : List Im} (h : HeldI w wr v L) : ∃ A c, v = .slice A L.length c ∧ ((A = none → c = 0) ∧ L.length ≤ c) ∧ SeesP wr (newB w wr) A (Ics L) := by
 rcases h.2 with ⟨rfl,h0⟩ | ⟨g,cap,cur,rfl,hb,hh,hn,hm,hs,ht⟩
 · have : L = [] := List.eq_nil_of_length_eq_zero h0
   subst this
   exact ⟨none,0,rfl,⟨fun _=>rfl,Nat.le_refl _⟩,.inl rfl⟩
 · refine ⟨_, cap, rfl, ⟨fun h => (by cases h), hn⟩, .inr ⟨g, 0, rfl, ⟨hb, lt_of_block hh⟩, fun j hj => ?_⟩⟩
   have hl:=h.1
   rw [Nat.zero_add,cell_of_row wr g j cur _ (0,0) hh,←ht,List.getElem?_take,if_pos (by omega),Array.getElem?_toList]
def LiIs (o:Option (List Im)) (w:World) (e:Ending) (w':World):Prop:=(o=none→e=.returned (.tuple #[.slice none 0 0,.bool false]))∧(∀L,o=some L→∃A c,e=.returned (.tuple #[.slice A L.length c,.bool true])∧((A=none→c=0)∧L.length≤c)∧SeesP w' (newB w w') A (Ics L))∧Below w.heap.size w w'
theorem LiIs.bad {o : Option (List Im)} {w w' : World} (h : o = none) (hb : Below w.heap.size w w') : LiIs o w (.returned (.tuple #[.slice none 0 0, .bool false])) w' :=
 ⟨fun _=>rfl,fun L hL=>(by rw [h] at hL;cases hL),hb⟩
def DeIs (r:Except Int (F×Nat)) (w:World) (e:Ending) (w':World):Prop:=∃A c,e=.returned (.tuple #[.slice A (deL r).length c,.int .i64 (deE_Ip r)])∧((A=none→c=0)∧(deL r).length≤c)∧SeesP w' (newB w w') A (Ics (deL r))∧Below w.heap.size w w'
theorem DeIs.bad {r : Except Int (F × Nat)} {w w' : World} {x : Int} (h1 : deL r = []) (h2 : deE_Ip r = x) (hb : Below w.heap.size w w') : DeIs r w (.returned (.tuple #[.slice none 0 0, .int .i64 x])) w' :=
 ⟨none,0,by rw [h1,h2];rfl,⟨fun _=>rfl,by rw [h1];exact Nat.le_refl _⟩,by rw [h1];exact .inl rfl,hb⟩
end Go.Proofs.YtnlhbknajdpnbaaGreatDoor
namespace Go.Proofs.YtnlhbknajdpnbaaGreatDoor
open Go.RowKit
set_option maxRecDepth 8000
theorem HoldsP.tail {w : World} {p : Nat → Prop} {t : Int} {v : List UInt8} {k r : F} {cs : List Value} (h : HoldsP w p (.cons t v k r) cs) : HoldsP w p r (cs.drop 3) := by
 obtain ⟨Av,cv,Ak,ck,ks,cs',e,_,_,_,_,h4⟩:=h
 rw [e];exact h4
theorem HoldsP.drop {w : World} {p : Nat → Prop} : ∀ {f : F} {cs : List Value} (j : Nat), HoldsP w p f cs → HoldsP w p (f.drop j) (cs.drop (3 * j))
 | f,cs,0,h=>by cases f <;> simpa [F.drop] using h
 | .nil, cs, j + 1, h => by
   have h:cs=[]:=h
   subst h
   simp [F.drop,HoldsP]
 | .cons _ _ _ r, cs, j + 1, h => by
   have h2:=HoldsP.drop j h.tail
   rw [List.drop_drop,show 3+3*j=3*(j+1) by omega] at h2
   exact h2
theorem zcv {P : Program} {ops : Array Oper} {rest : List Oper} {o : Oper} {a : Act} {w : World} {Q : Exit → Act → World → Prop} (hgd : o.guard = none) (t : TypeId) (parts : Array (Nat × Operand)) (ho : o.op = .build t parts) {ps : List (Nat × Value)} (hp : (parts.map fun (i, x) => (i, a.eval x)).toList = ps) {vs : List Value} (hb : P.built t ps = some vs.toArray)
 (hK:wpList P ops Q rest (a.put o.dst (.agg vs.toArray)) w):wpList P ops Q (o::rest) a w :=
 wpList_plain hgd fun _ hK2=>o_bld t parts ho hp hb (hK2 _ _ hK)
end Go.Proofs.YtnlhbknajdpnbaaGreatDoor
namespace Go.Proofs.YtnlhbknajdpnbaaGreatDoor
open Go.RowKit
set_option maxRecDepth 8000
def zgC (l : List UInt8) (w : World) (e : Ending) (w' : World) : Prop :=
 e=.returned (.tuple #[.int .i64 (if tagE l=0 then (tagV l:Int) else 0),.int .i64 (if tagE l=0 then (tagN (tagV l:Nat):Int) else 0),.int .i64 (tagE l)])∧∃q,w'=w.drewN q
theorem zfi {l : List UInt8} {x : Int} {w : World} (h : tagE l = x) (hx : x ≠ 0) (q : Nat) : zgC l w (.returned (.tuple #[.int .i64 0, .int .i64 0, .int .i64 x])) (w.drewN q) := by
 unfold zgC;rw [h,if_neg hx,if_neg hx];exact ⟨rfl,q,rfl⟩
theorem rtag_good {l : List UInt8} {t : Nat} {z : Int} {w : World} (h : tagE l = 0) (ht : tagV l = t) (hz : (tagN (t : Int) : Int) = z) (q : Nat) : zgC l w (.returned (.tuple #[.int .i64 (t : Int), .int .i64 z, .int .i64 0])) (w.drewN q) := by
 unfold zgC;rw [h,if_pos rfl,if_pos rfl,ht,hz];exact ⟨rfl,q,rfl⟩
set_option maxHeartbeats 1000000 in
theorem ref_tag (A : Option Addr) (c : Nat) (l : List UInt8) (w : World) (p : Nat → Prop) (hs : SeesP w p A (Us l)) (hl : l.length ≤ 140737488351232) :
 Calls Tryz.prog 59 #[.slice A l.length c] w (zgC l w):=by
 cases l with
 | nil =>
   have hb:=fun q=>zfi (w:=w) (show tagE []=6 from rfl) (by decide) q
   have HB:=Lib.hid hb
   clear hb hs
   go_enter Tryz.func59,Tryz.ntmps59
   go_wp2_with fail
   go_ret3
   exact HB.out 0
 | cons a r =>
   obtain ⟨b,off,rfl,hp,g0⟩:=zbh hs (k:=0) (by simp)
   simp only [List.getElem_cons_zero,Nat.add_zero] at g0
   have ha:=UInt8.toNat_lt a
   obtain ⟨n,hn⟩ : ∃n,n=a.toNat:=⟨_,rfl⟩
   rw [←hn] at g0 ha
   have d0:(((a::r).length:Int)==0)=false:=by simp;omega
   have hl0:0 < (a::r).length:=by simp
   by_cases h31:n % 32=31
   · have d31 : ((n : Int) % 32 != 31) = false := by simp; omega
     cases r with
     | nil =>
       have hb:=fun q=>zfi (w:=w) (show tagE [a]=6 by simp only [tagE];rw [←hn,if_pos h31]) (by decide) q
       have HB:=Lib.hid hb
       clear hb hs hn h31
       go_enter Tryz.func59,Tryz.ntmps59
       go_wp2_with fail
       go_ret3
       exact HB.out 0
     | cons a2 r =>
       obtain ⟨b2,off2,e2,_,g1⟩:=zbh hs (k:=1) (by simp)
       injection e2 with e2
       injection e2 with e3 e4
       subst e3 e4
       simp only [List.getElem_cons_succ,List.getElem_cons_zero] at g1
       have ha2:=UInt8.toNat_lt a2
       obtain ⟨n2,hn2⟩ : ∃n,n=a2.toNat:=⟨_,rfl⟩
       rw [←hn2] at g1 ha2
       obtain ⟨t,ht⟩ : ∃t,t=n*256+n2:=⟨_,rfl⟩
       have e256:(256:Int)*(n:Int)+(n2:Int)=(t:Int):=by omega
       have hx:tagE (a::a2::r)=if zaA t then 0 else 4:=by simp only [tagE];rw [←hn,←hn2,if_pos h31,←ht]
       have htv:tagV (a::a2::r)=t:=by simp only [tagV];rw [←hn,←hn2,if_pos h31,←ht]
       have d1:decide (((a::a2::r).length:Int) < 2)=false:=by simp;omega
       have hl1:1 < (a::a2::r).length:=by simp
       have htl:t≤65535:=by omega
       have hV:=fun u=>zdl (t:Int) (by omega) (by omega) u
       cases hq:zaA t
       · have hb := fun q => zfi (w := w) (show tagE (a :: a2 :: r) = 4 by rw [hx, hq]; rfl) (by decide) q
         have HB:=Lib.hid hb
         rw [hq] at hV
         have HV:=Lib.hid hV
         clear hb hs hn hn2 hV h31 hx htv ht hq
         go_enter Tryz.func59,Tryz.ntmps59
         go_wp2_with fail
         go_quiet (fail)
         go_wp2_with (go_at_call 61;refine (HV.out _).mono ?_;rintro e w' ⟨rfl,rfl⟩)
         go_ret3
         exact HB.out _
       · have hb := fun q => rtag_good (w := w) (z := 2) (show tagE (a :: a2 :: r) = 0 by rw [hx, hq]; rfl) htv (by unfold tagN; rw [if_pos (by have := h31; omega)]; rfl) q
         have HB:=Lib.hid hb
         rw [hq] at hV
         have HV:=Lib.hid hV
         clear hb hs hn hn2 hV h31 hx htv ht hq
         go_enter Tryz.func59,Tryz.ntmps59
         go_wp2_with fail
         go_quiet (fail)
         go_wp2_with (go_at_call 61;refine (HV.out _).mono ?_;rintro e w' ⟨rfl,rfl⟩)
         go_ret3
         exact HB.out _
   · have d31 : ((n : Int) % 32 != 31) = true := by simp; omega
     have hx:tagE (a::r)=if zaA n then 0 else 4:=by cases r <;> (simp only [tagE];rw [←hn,if_neg h31])
     have htv:tagV (a::r)=n:=by cases r <;> simp only [tagV,←hn,if_neg h31]
     by_cases h0:n=0
     · have dn : ((n : Int) == 0) = true := by simp; omega
       have hq:zaA n=false:=by rw [h0];rfl
       have hb:=fun q=>zfi (w:=w) (show tagE (a::r)=4 by rw [hx,hq];rfl) (by decide) q
       have HB:=Lib.hid hb
       clear hb hs hn h31 hx htv hq h0
       go_enter Tryz.func59,Tryz.ntmps59
       go_wp2_with fail
       go_ret3
       exact HB.out 0
     · have dn : ((n : Int) == 0) = false := by simp; omega
       have hq:zaA n=true:=by rw [valid_in (by omega) (by omega)];simp;omega
       have hb:=fun q=>rtag_good (w:=w) (z:=1) (show tagE (a::r)=0 by rw [hx,hq];rfl) htv (by unfold tagN;rw [if_neg (by omega)];rfl) q
       have HB:=Lib.hid hb
       clear hb hs hn h31 hx htv hq h0
       go_enter Tryz.func59,Tryz.ntmps59
       go_wp2_with fail
       go_ret3
       exact HB.out 0
end Go.Proofs.YtnlhbknajdpnbaaGreatDoor
namespace Go.Proofs.YtnlhbknajdpnbaaGreatDoor
open Go.RowKit
def rzF (l:List UInt8):Nat:=(l.getD 0 0).toNat
def rzV (l:List UInt8):Nat:=numL_Hdr ((l.drop 1).take (rzF l - 128))
def rzE (cons st : Bool) (l : List UInt8) : Int :=
 if l.length=0 then 6 else if rzF l≤127 then 0 else if 132 < rzF l then 5 else if rzF l=128 then (if cons=false∨st=true then 5 else 0)
 else if l.length < 1+(rzF l - 128) then 6 else if st=true∧(rzV l≤127∨(1 < rzF l - 128∧l.getD 1 0=0)) then 5 else 0
def rzN (l:List UInt8):Int:=if rzF l≤127 then rzF l else if rzF l=128 then -1 else rzV l
def rzK (l:List UInt8):Nat:=if rzF l≤128 then 1 else 1+(rzF l - 128)
def zeV (cons st : Bool) (l : List UInt8) (w : World) (e : Ending) (w' : World) : Prop :=
 e=.returned (.tuple #[.int .i64 (if rzE cons st l=0 then rzN l else 0),.int .i64 (if rzE cons st l=0 then (rzK l:Int) else 0),.int .i64 (rzE cons st l)])∧w'=w
theorem zdF {cons st : Bool} {l : List UInt8} {x : Int} {w : World} (h : rzE cons st l = x) (hx : x ≠ 0) : zeV cons st l w (.returned (.tuple #[.int .i64 0, .int .i64 0, .int .i64 x])) w := by
 unfold zeV;rw [h,if_neg hx,if_neg hx];exact ⟨rfl,rfl⟩
theorem zfA {cons st : Bool} {l : List UInt8} {n k : Int} {w : World} (h : rzE cons st l = 0) (hn : rzN l = n) (hk : (rzK l : Int) = k) : zeV cons st l w (.returned (.tuple #[.int .i64 n, .int .i64 k, .int .i64 0])) w := by
 unfold zeV;rw [h,if_pos rfl,if_pos rfl,hn,hk];exact ⟨rfl,rfl⟩
set_option maxRecDepth 20000 in
set_option maxHeartbeats 2000000 in
theorem ref_size (cons st : Bool) (A : Option Addr) (c : Nat) (l : List UInt8) (w : World) (p : Nat → Prop) (hs : SeesP w p A (Us l)) (hl : l.length ≤ 140737488351232) :
 Calls Tryz.prog 60 #[.slice A l.length c,.bool cons,.bool st] w (zeV cons st l w):=by
 by_cases h0:l.length=0
 · have d0 : ((l.length : Int) == 0) = true := by rw [h0]; rfl
   have HB:=Lib.hid (zdF (w:=w) (show rzE cons st l=6 by unfold rzE;rw [if_pos h0]) (by decide))
   clear h0 hs
   go_enter Tryz.func60,Tryz.ntmps60
   go_wp2_with fail
   go_ret3
   exact HB.out
 · have hl0 : 0 < l.length := by omega
   have d0:((l.length:Int)==0)=false:=beq_eq_false_iff_ne.mpr (by omega)
   obtain ⟨b,off,rfl,hp,g0⟩:=zbh hs (k:=0) hl0
   obtain ⟨f,hf⟩ : ∃f,f=(l[0]'hl0).toNat:=⟨_,rfl⟩
   have hff:rzF l=f:=by unfold rzF;rw [hf];simp [List.getD,List.getElem?_eq_getElem hl0]
   have hf8:f < 256:=by rw [hf];exact UInt8.toNat_lt _
   rw [←hf] at g0
   simp only [Nat.add_zero] at g0
   clear hf
   by_cases h1:f≤127
   · have d1 : decide ((f : Int) < 128) = true := by simp; omega
     have HB:=Lib.hid (zfA (w:=w) (n:=(f:Int)) (k:=1) (show rzE cons st l=0 by unfold rzE;rw [if_neg h0,hff,if_pos h1]) (by unfold rzN;rw [hff,if_pos h1]) (by unfold rzK;rw [hff,if_pos (by omega)];rfl))
     clear h0 hs h1 hff
     go_enter Tryz.func60,Tryz.ntmps60
     go_wp2_with fail
     go_ret3
     exact HB.out
   · have d1 : decide ((f : Int) < 128) = false := by simp; omega
     by_cases h2:132 < f
     · have d2 : decide ((132 : Int) < (f : Int)) = true := by simp; omega
       have HB:=Lib.hid (zdF (w:=w) (show rzE cons st l=5 by unfold rzE;rw [if_neg h0,hff,if_neg h1,if_pos h2]) (by decide))
       clear h0 hs h1 hff h2
       go_enter Tryz.func60,Tryz.ntmps60
       go_wp2_with fail
       go_ret3
       exact HB.out
     · have d2 : decide ((132 : Int) < (f : Int)) = false := by simp; omega
       by_cases h3:f=128
       · have d3 : ((f : Int) == 128) = true := by simp; omega
         have he:rzE cons st l=if cons=false∨st=true then 5 else 0:=by unfold rzE;rw [if_neg h0,hff,if_neg h1,if_neg h2,if_pos h3]
         have hn:rzN l=-1:=by unfold rzN;rw [hff,if_neg h1,if_pos h3]
         have hk:(rzK l:Int)=1:=by unfold rzK;rw [hff,if_pos (by omega)];rfl
         cases cons
         · have HB := Lib.hid (zdF (w := w) (show rzE false st l = 5 by rw [he, if_pos (.inl rfl)]) (by decide))
           clear h0 hs h1 hff h2 h3 he hn hk
           go_enter Tryz.func60,Tryz.ntmps60
           go_wp2_with fail
           go_ret3
           exact HB.out
         · cases st
           · have HB := Lib.hid (zfA (w := w) (show rzE true false l = 0 by rw [he, if_neg (by simp)]) hn hk)
             clear h0 hs h1 hff h2 h3 he hn hk
             go_enter Tryz.func60,Tryz.ntmps60
             go_wp2_with fail
             go_ret3
             exact HB.out
           · have HB := Lib.hid (zdF (w := w) (show rzE true true l = 5 by rw [he, if_pos (.inr rfl)]) (by decide))
             clear h0 hs h1 hff h2 h3 he hn hk
             go_enter Tryz.func60,Tryz.ntmps60
             go_wp2_with fail
             go_ret3
             exact HB.out
       · have d3 : ((f : Int) == 128) = false := by simp; omega
         obtain ⟨k,hk⟩ : ∃k,k=f - 128:=⟨_,rfl⟩
         have hk1:1≤k:=by omega
         have hk4:k≤4:=by omega
         have e1:(f:Int) - 128=(k:Int):=by omega
         by_cases h4:l.length < 1+k
         · have d4 : decide ((l.length : Int) < 1 + (k : Int)) = true := by simp; omega
           have HB:=Lib.hid (zdF (w:=w) (show rzE cons st l=6 by unfold rzE;rw [if_neg h0,hff,if_neg h1,if_neg h2,if_neg h3,←hk,if_pos h4]) (by decide))
           clear h0 hs h1 hff h2 h3 h4 hk
           go_enter Tryz.func60,Tryz.ntmps60
           go_wp2_with fail
           go_ret3
           exact HB.out
         · have d4 : decide ((l.length : Int) < 1 + (k : Int)) = false := by simp; omega
           have hkl:k < l.length:=by omega
           have hv:rzV l=numL_Hdr ((l.drop 1).take k):=by unfold rzV;rw [hff,←hk]
           have he:rzE cons st l=if st=true∧(rzV l≤127∨(1 < k∧l.getD 1 0=0)) then 5 else 0:=by unfold rzE;rw [if_neg h0,hff,if_neg h1,if_neg h2,if_neg h3,←hk,if_neg h4]
           have hn:rzN l=rzV l:=by unfold rzN;rw [hff,if_neg h1,if_neg h3]
           have hkk:(rzK l:Int)=1+(k:Int):=by unfold rzK;rw [hff,if_neg (by omega),←hk];omega
           have HS:=Lib.hid hs
           have HE:=Lib.hid (show _∧_∧_∧_ from ⟨hv,he,hn,hkk⟩)
           clear h0 hs h1 hff h2 h3 h4 hk hv he hn hkk
           go_enter Tryz.func60,Tryz.ntmps60
           go_wp2_with fail
           go_loopw [11,12] (fun v i wr=>∃(j n:Nat),v=.int .i64 (n:Int)∧i=.int .i64 ((j+1:Nat):Int)∧j≤k∧n < 4294967296∧Hid (n=numL_Hdr ((l.drop 1).take j))∧wr=w) (fun _ i _=>k+1 - (intOf i).toNat)
           case atStart=>exact ⟨0,0,rfl,rfl,Nat.zero_le _,by decide,Lib.hid (by simp [numL_Hdr]),rfl⟩
           case round =>
            obtain ⟨j,n,rfl,rfl,hj,hn32,HN,rfl⟩:=hrel
            by_cases hlt:j < k
            · have d5 : decide (((j + 1 : Nat) : Int) ≤ (k : Int)) = true := by simp; omega
              have hjl:j+1 < l.length:=by omega
              obtain ⟨b2,off2,e2,_,g1⟩:=zbh HS.out (k:=j+1) hjl
              injection e2 with e2
              injection e2 with e3 e4
              subst e3 e4
              obtain ⟨y,hy⟩ : ∃y,y=(l[j+1]'hjl).toNat:=⟨_,rfl⟩
              have hy8:y < 256:=by rw [hy];exact UInt8.toNat_lt _
              rw [←hy] at g1
              have hn2 : n * 256 + y = numL_Hdr ((l.drop 1).take (j + 1)) := by
               rw [zdK (by rw [List.length_drop];omega),←HN.out,hy]
               simp
              have hn3:n*256+y < 4294967296:=by rw [hn2];exact numL_4 _ (by rw [List.length_take];omega)
              have HN2:=Lib.hid hn2
              clear hy hn2
              go_wp2_with fail
              go_roundw
              case rel=>exact ⟨j+1,n*256+y,by go_num,by go_num,by omega,hn3,HN2,trivial⟩
              case measure=>simp [intOf];omega
            · obtain rfl : j = k := by omega
              have d5:decide (((j+1:Nat):Int)≤(j:Int))=false:=by simp;omega
              have hfin:∀x:Int,rzE cons st l=x→x≠0→zeV cons st l wr (.returned (.tuple #[.int .i64 0,.int .i64 0,.int .i64 x])) wr:=fun x h1 h2=>zdF h1 h2
              have hfin2:rzE cons st l=0→zeV cons st l wr (.returned (.tuple #[.int .i64 (n:Int),.int .i64 (1+(j:Int)),.int .i64 0])) wr:=fun h1=>zfA h1 (by rw [HE.out.2.2.1,HE.out.1,HN.out]) HE.out.2.2.2
              have hvn:rzV l=n:=by rw [HE.out.1,HN.out]
              have HF:=Lib.hid hfin
              have HF2:=Lib.hid hfin2
              have HE2:=Lib.hid (show rzE cons st l=if st=true∧(n≤127∨(1 < j∧l.getD 1 0=0)) then 5 else 0 by rw [HE.out.2.1,hvn])
              clear hfin hfin2 hvn HE
              cases st
              · have HG := Lib.hid (HF2.out (by rw [HE2.out, if_neg (by simp)]))
                clear HF HF2 HE2
                go_wp2_with fail
                go_ret3
                exact HG.out
              · by_cases h7 : n ≤ 127
                · have d7 : decide ((n : Int) ≤ 127) = true := by simp; omega
                  have HG:=Lib.hid (HF.out 5 (by rw [HE2.out,if_pos ⟨rfl,.inl h7⟩]) (by decide))
                  clear HF HF2 HE2
                  go_wp2_with fail
                  go_ret3
                  exact HG.out
                · have d7 : decide ((n : Int) ≤ 127) = false := by simp; omega
                  by_cases h8:1 < j
                  · have d8 : decide ((1 : Int) < (j : Int)) = true := by simp; omega
                    have hl1:1 < l.length:=by omega
                    obtain ⟨b2,off2,e2,_,g1⟩:=zbh HS.out (k:=1) hl1
                    injection e2 with e2
                    injection e2 with e3 e4
                    subst e3 e4
                    obtain ⟨y,hy⟩ : ∃y,y=(l[1]'hl1).toNat:=⟨_,rfl⟩
                    have hy8:y < 256:=by rw [hy];exact UInt8.toNat_lt _
                    rw [←hy] at g1
                    have hg:l.getD 1 0=l[1]:=by simp [List.getD,List.getElem?_eq_getElem hl1]
                    by_cases h9:y=0
                    · have d9 : ((y : Int) == 0) = true := by simp; omega
                      have HG:=Lib.hid (HF.out 5 (by rw [HE2.out,if_pos ⟨rfl,.inr ⟨h8,by rw [hg];exact UInt8.toNat_inj.1 (by rw [←hy,h9];rfl)⟩⟩]) (by decide))
                      clear HF HF2 HE2 hy hg h9
                      go_wp2_with fail
                      go_ret3
                      exact HG.out
                    · have d9 : ((y : Int) == 0) = false := by simp; omega
                      have HG := Lib.hid (HF2.out (by rw [HE2.out, if_neg]; rintro ⟨_, h | ⟨_, h⟩⟩; · omega
                                                      · rw [hg] at h;rw [h] at hy;exact h9 hy))
                      clear HF HF2 HE2 hy hg h9
                      go_wp2_with fail
                      go_ret3
                      exact HG.out
                  · have d8 : decide ((1 : Int) < (j : Int)) = false := by simp; omega
                    have HG:=Lib.hid (HF2.out (by rw [HE2.out,if_neg];rintro ⟨_,h | ⟨h,_⟩⟩ <;> omega))
                    clear HF HF2 HE2
                    go_wp2_with fail
                    go_ret3
                    exact HG.out
theorem lb_up {n : Nat} (h : 256 ≤ n) (h2 : n < 9223372036854775808) (h3 : 127 < n / 256) : lb n = lb (n / 256) + 1 := by
 have h4:=Lib.bitLen_shift8 n h (by omega)
 unfold lb
 rw [if_neg (by omega),if_neg (by omega),h4]
 omega
theorem lb_3 {n : Nat} (h : 65536 ≤ n) (h2 : n < 16777216) : lb n = 3 := by
 rw [lb_up (by omega) (by omega) (by omega),lb_2 (by omega) (by omega)]
theorem lb_4 {n : Nat} (h : 16777216 ≤ n) (h2 : n < 4294967296) : lb n = 4 := by
 rw [lb_up (by omega) (by omega) (by omega),lb_3 (by omega) (by omega)]
theorem short_iff (d : List UInt8) (h1 : 1 ≤ d.length) (h4 : d.length ≤ 4) : (numL_Hdr d ≤ 127 ∨ (1 < d.length ∧ d.getD 0 0 = 0)) ↔ zbp (128 + d.length) (numL_Hdr d) = false := by
 obtain ⟨n,hn⟩ : ∃n,n=numL_Hdr d:=⟨_,rfl⟩
 rw [←hn]
 by_cases h:n≤127
 · have : zbp (128 + d.length) n = false := by unfold zbp; rw [if_pos (lb_0 h)]; simp; omega
   simp [h,this]
 · have hlt : n < 4294967296 := by rw [hn]; exact numL_4 d h4
   have hp:=lb_pos (n:=n) (by omega) (by omega)
   have hsh : zbp (128 + d.length) n = false ↔ d.length ≠ lb n := by
    unfold zbp
    rw [if_neg (by omega)]
    simp
   rw [hsh]
   have hz:∀a:UInt8,a=0↔a.toNat=0:=fun a=>⟨fun e=>by rw [e];rfl,fun e=>UInt8.toNat_inj.1 e⟩
   match d,h1,h4 with
   | [a], _, _ =>
     have ha:=UInt8.toNat_lt a
     have e:n=a.toNat:=by rw [hn];simp [numL_Hdr]
     rw [lb_1 (by omega) (by omega)]
     simp;omega
   | [a, b], _, _ =>
     have ha:=UInt8.toNat_lt a
     have hb:=UInt8.toNat_lt b
     have e:n=a.toNat*256+b.toNat:=by rw [hn];simp [numL_Hdr]
     simp only [List.length_cons,List.length_nil,List.getD_cons_zero,hz]
     by_cases h0:a.toNat=0
     · rw [lb_1 (by omega) (by omega)];simp [h0]
     · rw [lb_2 (by omega) (by omega)];simp [h0];omega
   | [a, b, c], _, _ =>
     have ha:=UInt8.toNat_lt a
     have hb:=UInt8.toNat_lt b
     have hc:=UInt8.toNat_lt c
     have e:n=(a.toNat*256+b.toNat)*256+c.toNat:=by rw [hn];simp [numL_Hdr]
     simp only [List.length_cons,List.length_nil,List.getD_cons_zero,hz]
     by_cases h0:a.toNat=0
     · have : lb n ≤ 2 := by
        by_cases h5:n < 256
        · rw [lb_1 (by omega) h5];omega
        · rw [lb_2 (by omega) (by omega)];omega
       simp [h0];omega
     · rw [lb_3 (by omega) (by omega)];simp [h0];omega
   | [a, b, c, g], _, _ =>
     have ha:=UInt8.toNat_lt a
     have hb:=UInt8.toNat_lt b
     have hc:=UInt8.toNat_lt c
     have hg:=UInt8.toNat_lt g
     have e:n=((a.toNat*256+b.toNat)*256+c.toNat)*256+g.toNat:=by rw [hn];simp [numL_Hdr]
     simp only [List.length_cons,List.length_nil,List.getD_cons_zero,hz]
     by_cases h0:a.toNat=0
     · have : lb n ≤ 3 := by
        by_cases h5:n < 256
        · rw [lb_1 (by omega) h5];omega
        · by_cases h6 : n < 65536
          · rw [lb_2 (by omega) h6];omega
          · rw [lb_3 (by omega) (by omega)];omega
       simp [h0];omega
     · rw [lb_4 (by omega) (by omega)];simp [h0];omega
theorem rz_F {l : List UInt8} : rzF (l.drop (tagN (tagV l : Nat))) = hdrF l := by
 unfold rzF hdrF hdrZ
 simp [List.getD,List.getElem?_drop]
theorem rz_bad {l : List UInt8} {cons st : Bool} (hT : tagE l = 0) (h : hdrE l ≠ 0) : rzE cons st (l.drop (tagN (tagV l : Nat))) = hdrE l := by
 have hF:=rz_F (l:=l)
 have hZ:hdrZ l=tagN (tagV l:Nat)+1:=rfl
 have hT':¬tagE l≠0:=by omega
 unfold hdrE at h ⊢
 unfold rzE
 rw [if_neg hT'] at h ⊢
 rw [hF,List.length_drop]
 by_cases h1:l.length < hdrZ l
 · rw [if_pos h1,if_pos (by omega)]
 · rw [if_neg h1] at h ⊢
   rw [if_neg (by omega)]
   by_cases h2:132 < hdrF l
   · rw [if_pos h2,if_neg (by omega),if_pos h2]
   · rw [if_neg h2] at h ⊢
     by_cases h3:hdrF l≤127
     · rw [if_pos h3] at h;exact absurd rfl h
     · rw [if_neg h3] at h ⊢
       by_cases h4:l.length - hdrZ l < hdrF l - 128
       · rw [if_pos h4,if_neg h3,if_neg h2,if_neg (by omega),if_pos (by omega)]
       · rw [if_neg h4] at h;exact absurd rfl h
theorem rz_good {l : List UInt8} {st : Bool} (hT : tagE l = 0) (h : hdrE l = 0) :
 rzE (zaE (tagV l)) st (l.drop (tagN (tagV l:Nat)))=(if (hdrF l=128∧zaE (tagV l)=false)∨(st=true∧zbp (hdrF l) (hdrN l)=false) then 5 else 0) ∧
 rzN (l.drop (tagN (tagV l:Nat)))=(if hdrF l=128 then -1 else (hdrN l:Int))∧tagN (tagV l:Nat)+rzK (l.drop (tagN (tagV l:Nat)))=hdrS l:=by
 have hF:=rz_F (l:=l)
 have hZ:hdrZ l=tagN (tagV l:Nat)+1:=rfl
 unfold hdrE at h
 rw [if_neg (by omega)] at h
 by_cases h1:l.length < hdrZ l
 · rw [if_pos h1] at h;omega
 · rw [if_neg h1] at h
   by_cases h2:132 < hdrF l
   · rw [if_pos h2] at h;omega
   · rw [if_neg h2] at h
     have hV : rzV (l.drop (tagN (tagV l : Nat))) = numL_Hdr ((l.drop (hdrZ l)).take (hdrF l - 128)) := by
      unfold rzV
      rw [hF,List.drop_drop,hZ]
     by_cases h3:hdrF l≤127
     · have hN : hdrN l = hdrF l := by unfold hdrN; rw [if_pos h3]
       have hS:hdrS l=hdrZ l:=by unfold hdrS;rw [if_pos h3]
       have hsh:zbp (hdrF l) (hdrN l)=true:=by rw [hN];unfold zbp;rw [if_pos (lb_0 h3)];simpa using h3
       refine ⟨?_,?_,?_⟩
       · unfold rzE
         rw [hF,List.length_drop,if_neg (by omega),if_pos h3,if_neg]
         rw [hsh]
         simp;omega
       · unfold rzN;rw [hF,if_pos h3,if_neg (by omega),hN]
       · unfold rzK;rw [hF,if_pos (by omega),hS,hZ]
     · rw [if_neg h3] at h
       have hN:hdrN l=numL_Hdr ((l.drop (hdrZ l)).take (hdrF l - 128)):=by unfold hdrN;rw [if_neg h3]
       have hS:hdrS l=hdrZ l+(hdrF l - 128):=by unfold hdrS;rw [if_neg h3]
       by_cases h4:l.length - hdrZ l < hdrF l - 128
       · rw [if_pos h4] at h;omega
       · by_cases h5 : hdrF l = 128
         · have hN0 : hdrN l = 0 := by rw [hN, h5]; rfl
           have hsh:zbp (hdrF l) (hdrN l)=false:=by rw [hN0,h5];rfl
           refine ⟨?_,?_,?_⟩
           · unfold rzE
             rw [hF,List.length_drop,if_neg (by omega),if_neg h3,if_neg h2,if_pos h5,hsh]
             cases zaE (tagV l) <;> cases st <;> simp [h5]
           · unfold rzN;rw [hF,if_neg h3,if_pos h5,if_pos h5]
           · unfold rzK;rw [hF,if_pos (by omega),hS,hZ];omega
         · have hdl : ((l.drop (hdrZ l)).take (hdrF l - 128)).length = hdrF l - 128 := by rw [List.length_take, List.length_drop]; omega
           have hsi:=short_iff ((l.drop (hdrZ l)).take (hdrF l - 128)) (by omega) (by omega)
           rw [hdl,←hN,show 128+(hdrF l - 128)=hdrF l by omega] at hsi
           have hg : ((l.drop (hdrZ l)).take (hdrF l - 128)).getD 0 0 = (l.drop (tagN (tagV l : Nat))).getD 1 0 := by
            simp only [List.getD,List.getElem?_drop,List.getElem?_take]
            rw [if_pos (by omega),hZ]
           rw [hg] at hsi
           refine ⟨?_,?_,?_⟩
           · unfold rzE
             rw [hF,List.length_drop,if_neg (by omega),if_neg h3,if_neg h2,if_neg h5,if_neg (by omega),hV,←hN]
             have:(hdrF l=128∧zaE (tagV l)=false)↔False:=⟨fun e=>h5 e.1,False.elim⟩
             simp only [this,false_or,hsi]
           · unfold rzN;rw [hF,if_neg h3,if_neg h5,if_neg h5,hV,←hN]
           · unfold rzK;rw [hF,if_neg (by omega),hS,hZ];omega
end Go.Proofs.YtnlhbknajdpnbaaGreatDoor
