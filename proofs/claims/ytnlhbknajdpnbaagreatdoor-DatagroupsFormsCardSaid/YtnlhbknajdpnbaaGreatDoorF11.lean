/-
  What is proved here: plain words for regions that draw their order and whose callees lay blocks of their own (the library's class of worlds, in the words of Below). Nothing of the program is used.
-/
import Derived.Test.YtnlhbknajdpnbaaGreatDoorF0
import Derived.Lib.QuietBelow
import Derived.Test.YtnlhbknajdpnbaaGreatDoorF9
import Derived.Test.YtnlhbknajdpnbaaGreatDoorF4
import Derived.Lib.AppendZerosOnto
import Derived.Test.YtnlhbknajdpnbaaGreatDoorF5
import Derived.Test.YtnlhbknajdpnbaaGreatDoorF6
import Derived.Test.YtnlhbknajdpnbaaGreatDoorF7
import Derived.Test.YtnlhbknajdpnbaaGreatDoorRows
import Derived.ProofKit
import Derived.OpenShut
import Derived.ShutString
import Derived.ChangeOld
import Derived.SizedLaws
import Derived.Test.YtnlhbknajdpnbaaGreatDoorF10
import Derived.Test.YtnlhbknajdpnbaaGreatDoorF8
import Derived.Test.YtnlhbknajdpnbaaGreatDoorF3
import Derived.BigQuiet
import Derived.Lib.Strings
import Derived.Lib.Slices
import Derived.Lib.Small
import Derived.Lib.Walk
import Derived.Lib.BitFns
import Derived.Deep.RegionWith
import Derived.Laws.ResultCell
import Derived.Laws.Rows
import Derived.Deep.CutRange
import Derived.Laws.AppendOwnNone
import Derived.Deep.RegionLaw
import Derived.Deep.AppendLies
set_option linter.unusedVariables false
set_option linter.unusedSimpArgs false
namespace Go.Proofs.YtnlhbknajdpnbaaGreatDoor
open Go.RowKit
theorem zag {w w' : World} (h : ∃ p : Regrown, w' = Go.Sort.grow (redrawn w p.d) p.os) : Below w.heap.size w w' := by
 obtain ⟨p,rfl⟩:=h
 exact below_regrown w p.d p.os
theorem zen {P : Program} {f : FuncId} {args : Array Value} {w : World} {v : Value} (h : ∀ w', Below w.heap.size w w' → Calls P f args w' fun e w'' => e = .returned v ∧ Below w'.heap.size w' w'') (d : Nat) (os : Array Obj) :
 Calls P f args (Go.Sort.grow (redrawn w d) os) fun e w''=>e=.returned v∧∃p:Regrown,w''=Go.Sort.grow (redrawn w p.d) p.os :=
 Calls.regrown_of (h _ (below_regrown w d os))
theorem quiet_still {P : Program} {f : FuncId} {args : Array Value} {w : World} {v : Value} (h : ∀ w', Calls P f args w' fun e w'' => e = .returned v ∧ w' = w'') (d : Nat) (os : Array Obj) :
 Calls P f args (Go.Sort.grow (redrawn w d) os) fun e w''=>e=.returned v∧∃p:Regrown,w''=Go.Sort.grow (redrawn w p.d) p.os :=
 (h _).mono fun _ _ ⟨he,hw⟩=>⟨he,⟨d,os⟩,hw.symm⟩
theorem RowV.quiet {w : World} {g k : Nat} {vs : List Value} {u : Value} (h : RowV w g vs) (hu : vs[k]? = some u) (d : Nat) (os : Array Obj) : (Go.Sort.grow (redrawn w d) os).cell? ⟨g, k, none⟩ = some u :=
 cell_regrown ((h.cell k).trans hu) d os
end Go.Proofs.YtnlhbknajdpnbaaGreatDoor
namespace Go.Proofs.YtnlhbknajdpnbaaGreatDoor
open Go.RowKit
theorem octL4 (n : Nat) : octL n 4 = [UInt8.ofNat (n / 16777216), UInt8.ofNat (n / 65536), UInt8.ofNat (n / 256), UInt8.ofNat n] := by
 have e:List.range 4=[0,1,2,3]:=rfl
 simp [octL,e,octAt]
end Go.Proofs.YtnlhbknajdpnbaaGreatDoor
namespace Go.Proofs.YtnlhbknajdpnbaaGreatDoor
section
open Go.RowKit
end
section
open Go.RowKit
end
section
open Go.RowKit
theorem zfB (n : Int) (w : World) : Calls Tryz.prog 98 #[.int .i64 n] w fun e w' => e = .returned (.bool (dayB n)) ∧ w' = w := by
 by_cases h:0≤n
 · have d : decide (0 ≤ n) = true := by simpa using h
   have hv:dayB n=decide (n≤73048):=by unfold dayB;rw [d,Bool.true_and]
   rw [hv];clear h hv
   go_enter Tryz.func98,Tryz.ntmps98
   go_wp2
   go_ret
   exact ⟨rfl,rfl⟩
 · have d : decide (0 ≤ n) = false := by simpa using h
   have hv:dayB n=false:=by unfold dayB;rw [d,Bool.false_and]
   rw [hv];clear h hv
   go_enter Tryz.func98,Tryz.ntmps98
   go_wp2
   go_ret
   exact ⟨rfl,rfl⟩
end
section
open Go.RowKit
end
section
open Go.RowKit
end
section
open Go.RowKit
end
section
open Go.RowKit
section
variable {w0 w w':World} {B g k k' cap N:Nat} {l l':List UInt8} {a b c:Value}
end
end
section
open Go.RowKit
end
section
open Go.RowKit
end
section
open Go.RowKit
end
section
open Go.RowKit
end
section
open Go.RowKit
def Held_Bb (w wr:World) (v:Value) (f:F):Prop:=∃cs,wr.ownsRow w.heap.size 64 3 v f.len cs∧HoldsP wr (fun b=>newB w wr b∧v.ownBlock≠some b) f cs
theorem Held_Bb.start (w wr:World):Held_Bb w wr (.slice none 0 0) .nil:=⟨[],⟨rfl,.inl ⟨rfl,rfl⟩⟩,rfl⟩
theorem Held_Bb.grown {w wr w' : World} {R : Nat} {v : Value} {f : F} (h : Held_Bb w wr v f) (hR : R < w.heap.size) (hg : wr.grownBy w' (some R)) : Held_Bb w w' v f := by
 obtain ⟨cs,h1,h2⟩:=h
 refine ⟨cs,zbm h1 hg ?_,?_⟩
 · rcases zbP h1 with e | ⟨g, e, hb, _⟩
   · rw [e];simp
   · rw [e];intro h;injection h with h;omega
 · refine HoldsP.imp (fun _ hb=>⟨⟨hb.1.1,Nat.lt_of_lt_of_le hb.1.2 hg.size⟩,hb.2⟩) (HoldsP.keep (fun _ hq=>zau hg hq.1.2 (by have:=hq.1.1;omega)) h2)
theorem Held_Bb.slice {w wr : World} {v : Value} {f : F} (h : Held_Bb w wr v f) : ∃ A c, v = .slice A f.len c ∧ SeesF wr (newB w wr) A f := by
 obtain ⟨cs,h1,h2⟩:=h
 rcases h1.2 with ⟨rfl,h0⟩ | ⟨g,cap,cur,rfl,hb,hh,hn,hm,hs,ht⟩
 · have : f = .nil := F.len_zero h0
   subst this
   exact ⟨none,0,rfl,SeesF.nil_⟩
 · refine ⟨_, cap, rfl, cs, .inr ⟨g, 0, rfl, ⟨hb, lt_of_block hh⟩, fun j hj => ?_⟩, HoldsP.imp (fun _ hb => hb.1) h2⟩
   have hl:=h1.1
   rw [Nat.zero_add,cell_of_row wr g j cur _ (0,0) hh,←ht,List.getElem?_take,if_pos (by omega),Array.getElem?_toList]
theorem Held_Bb.carry {w wr w' : World} {R : Nat} {v : Value} {f : F} {cs : List Value} (hR : R < w.heap.size) (hg : wr.grownBy w' (some R)) (h1 : wr.ownsRow w.heap.size 64 3 v f.len cs) (h2 : HoldsP wr (fun b => newB w wr b ∧ v.ownBlock ≠ some b) f cs) :
 w'.ownsRow w.heap.size 64 3 v f.len cs∧HoldsP w' (fun b=>newB w wr b∧v.ownBlock≠some b) f cs:=by
 refine ⟨zbm h1 hg ?_,HoldsP.keep (fun _ hq=>zau hg hq.1.2 (by have:=hq.1.1;omega)) h2⟩
 rcases zbP h1 with e | ⟨g,e,hb,_⟩
 · rw [e];simp
 · rw [e];intro h;injection h with h;omega
theorem Held_Bb.snoc {w wr w1 wa w2 : World} {v : Value} {f : F} {t : Int} {x : List UInt8} {k : F} {Av Ak : Option Addr} {cv ck g cap : Nat} (h01 : wr.heap.size ≤ w1.heap.size) (ha : Below w1.heap.size w1 wa)
 (hn0:Av=none→cv=0) (hv:SeesP w1 (newB wr w1) Av (Us x)) (hk:SeesF w1 (newB wr w1) Ak k) (hww:w.heap.size≤wr.heap.size)
 (hold:v.ownBlock=none∨∃g,v.ownBlock=some g∧w.heap.size≤g∧g < wr.heap.size) (cs:List Value) (hc2:HoldsP w1 (fun b=>newB w wr b∧v.ownBlock≠some b) f cs)
 (ho:w2.ownsRow w.heap.size 64 3 (.slice (some ⟨g,0,none⟩) (f.len+1) cap) (f.len+1) (cs++[.int .i64 t,.slice Av x.length cv,.slice Ak k.len ck])) (hg:wa.grownBy w2 v.ownBlock)
 (hl:v.ownBlock=some g∨g=wa.heap.size):Held_Bb w w2 (.slice (some ⟨g,0,none⟩) (f.len+1) cap) (f.app (.cons t x k .nil)):=by
 have keep : ∀ q : Addr, q.block < w1.heap.size → v.ownBlock ≠ some q.block → w2.cell? q = w1.cell? q := fun q h1 h2 =>
  (World.cell?_of_block (w:=wa) (hg.block q.block (Nat.lt_of_lt_of_le h1 ha.size) (fun e=>h2 e.symm))).trans (ha.cell h1)
 have hsz:w1.heap.size≤w2.heap.size:=Nat.le_trans ha.size hg.size
 have hwa:=ha.size
 refine ⟨_,by rw [F.len_app];exact ho,HoldsP.app ?_ ?_⟩
 · refine HoldsP.imp ?_ (HoldsP.keep (w' := w2) (fun q hq => keep q (Nat.lt_of_lt_of_le hq.1.2 h01) hq.2) hc2)
   intro b hb
   have h4:=hb.1.2
   refine ⟨⟨hb.1.1,by omega⟩,?_⟩
   intro e
   injection e with e
   simp only at e
   rcases hl with h3 | h3
   · exact hb.2 (h3.trans (by rw [e]))
   · omega
 · have hp : ∀ b, newB wr w1 b → newB w w2 b ∧ (Value.slice (some ⟨g, 0, none⟩) (f.len + 1) cap).ownBlock ≠ some b := by
    intro b hb
    have h5:=hb.1
    have h6:=hb.2
    refine ⟨⟨by omega,by omega⟩,?_⟩
    intro e
    injection e with e
    simp only at e
    rcases hl with h3 | h3
    · rcases hold with h4 | ⟨g2, h4, _, h7⟩
      · rw [h4] at h3;cases h3
      · rw [h4] at h3;injection h3 with h3;omega
    · omega
   have kp : ∀ q : Addr, newB wr w1 q.block → w2.cell? q = w1.cell? q := by
    intro q hq
    refine keep q hq.2 ?_
    have h5:=hq.1
    rcases hold with h4 | ⟨g2,h4,_,h7⟩
    · rw [h4];simp
    · rw [h4];intro e;injection e with e;omega
   obtain ⟨ks,hk1,hk2⟩:=hk
   exact ⟨Av,cv,Ak,ck,ks,[],rfl,hn0,(hv.keep kp).imp hp,(hk1.keep kp).imp hp,HoldsP.imp hp (HoldsP.keep kp hk2),rfl⟩
end
section
open Go.RowKit
end
section
open Go.RowKit
end
section
open Go.RowKit
def BRel_Bb (w:World) (D:Nat) (a:Value) (k:Nat) (wr:World):Prop:=(∃l:List UInt8,l.length=k∧wr.ownsRow w.heap.size 5 1 a k (Us l))∧w.grownBy wr (some D)∧DiceOk wr D
end
section
open Go.RowKit
end
section
open Go.ChangeShapes Go.WideShapes Go.ChangeAt Go.RowKit
variable {H:Type} {enc:TypeId×Value→H} {W:World}
end
section
open Go.ChangeShapes Go.WideShapes Go.ChangeAt Go.RowKit
variable {H:Type} {enc:TypeId×Value→H} {W:World}
end
section
open Go.ChangeShapes Go.WideShapes Go.ChangeAt Go.RowKit
variable {H:Type} {enc:TypeId×Value→H} {W:World}
end
section
open Go.RowKit
end
section
open Go.RowKit
end
section
open Go.RowKit
end
section
open Go.RowKit
end
section
open Go.RowKit
end
section
open Go.RowKit
end
end Go.Proofs.YtnlhbknajdpnbaaGreatDoor
namespace Go.Proofs.YtnlhbknajdpnbaaGreatDoor
open Go.RowKit
structure Tm where
 k:Int
 p:Int
 f:Int
 t:Int
 fo:Int
 q:Int
 d:List UInt8
instance:Inhabited Tm:=⟨⟨0,0,0,0,0,0,[]⟩⟩
def Tm.cs (x:Tm) (A:Option Addr) (c:Nat):List Value:=[.int .i64 x.k,.int .i64 x.p,.int .i64 x.f,.int .i64 x.t,.int .i64 x.fo,.int .i64 x.q,.slice A x.d.length c]
theorem Tm.cs_len (x:Tm) (A:Option Addr) (c:Nat):(x.cs A c).length=7:=rfl
def zcf (k p:Int):Bool:=(decide (k=1) && decide (p=0)) || (decide (k=2) && (decide (1≤p) && decide (p≤10))) || (decide (k=3) && (decide (1≤p) && decide (p≤2)))
def zdY (f t:Int):Bool:=dayB f && (dayB t && decide (f≤t))
def zfb (fo q:Int):Bool:=(decide (0≤fo) && decide (fo≤65535)) && (decide (0≤q) && decide (q≤100))
def sizeT (n:Nat):Bool:=decide (1≤n) && decide (n≤1024)
def vT (x:Tm):Int:=if zcf x.k x.p=false then 14 else if zdY x.f x.t=false then 8 else if zfb x.fo x.q=false then 3 else if sizeT x.d.length=false then 2 else 0
theorem vT_ok {x : Tm} (h : vT x = 0) : zcf x.k x.p = true ∧ zdY x.f x.t = true ∧ zfb x.fo x.q = true ∧ sizeT x.d.length = true := by
 unfold vT at h
 split at h
 · omega
 · split at h
   · omega
   · split at h
     · omega
     · split at h
       · omega
       · rename_i a b c d
         exact ⟨by simpa using a,by simpa using b,by simpa using c,by simpa using d⟩
theorem vT_mk {x:Tm} (h1:zcf x.k x.p=true) (h2:zdY x.f x.t=true) (h3:zfb x.fo x.q=true) (h4:sizeT x.d.length=true):vT x=0:=by simp [vT,h1,h2,h3,h4]
theorem part_bd {k p : Int} (h : zcf k p = true) : 1 ≤ k ∧ k ≤ 3 ∧ 0 ≤ p ∧ p ≤ 10 := by
 unfold zcf at h
 simp at h
 omega
theorem vT_bd {x : Tm} (h : vT x = 0) : (1 ≤ x.k ∧ x.k ≤ 3) ∧ (0 ≤ x.p ∧ x.p ≤ 10) ∧ (0 ≤ x.f ∧ x.f ≤ 73048) ∧ (0 ≤ x.t ∧ x.t ≤ 73048) ∧ x.f ≤ x.t ∧ (0 ≤ x.fo ∧ x.fo ≤ 65535) ∧ (0 ≤ x.q ∧ x.q ≤ 100) ∧ 1 ≤ x.d.length ∧ x.d.length ≤ 1024 := by
 obtain ⟨h1,h2,h3,h4⟩:=vT_ok h
 have:=part_bd h1
 unfold zdY dayB at h2
 unfold zfb at h3
 unfold sizeT at h4
 simp at h2 h3 h4
 omega
def chkT : List Tm → Int
 | []=>0
 | x::r=>if vT x=0 then chkT r else vT x
def zbt (l:List Tm):Int:=if l.length < 1∨8 < l.length then 2 else chkT l
theorem chkT_drop {l : List Tm} {j : Nat} {x : Tm} (h : l[j]? = some x) : chkT (l.drop j) = if vT x = 0 then chkT (l.drop (j + 1)) else vT x := by
 have hj:=(List.getElem?_eq_some_iff.1 h).1
 rw [List.drop_eq_getElem_cons hj]
 have:l[j]=x:=(List.getElem?_eq_some_iff.1 h).2
 rw [this]
 rfl
theorem chkT_all {l : List Tm} (h : chkT l = 0) : ∀ x ∈ l, vT x = 0 := by
 induction l with
 | nil=>simp
 | cons y r ih =>
   unfold chkT at h
   split at h
   · rename_i hy
     intro x hx
     rcases List.mem_cons.1 hx with rfl | hx
     · exact hy
     · exact ih h x hx
   · rename_i hy;exact absurd h hy
theorem encE_ok {l : List Tm} (h : zbt l = 0) : 1 ≤ l.length ∧ l.length ≤ 8 ∧ ∀ x ∈ l, vT x = 0 := by
 unfold zbt at h
 split at h
 · omega
 · exact ⟨by omega,by omega,chkT_all h⟩
def zdM (x : Tm) (r : F) : F :=
 .cons 129 (octL x.k.toNat 1) .nil (.cons 130 (octL x.p.toNat 1) .nil (.cons 131 (octL x.f.toNat 4) .nil (.cons 132 (octL x.t.toNat 4) .nil (.cons 133 (octL x.q.toNat 1) .nil (.cons 136 (octL x.fo.toNat 2) .nil r)))))
def objK (x:Tm):F:=.cons 161 [] (zdM x .nil) (.cons 24366 x.d .nil .nil)
def zdu : List Tm → F
 | []=>.nil
 | x::r=>.cons 32608 [] (objK x) (zdu r)
def listK (l:List Tm):F:=.cons 2 (octL l.length 1) .nil (zdu l)
def listF (l:List Tm):F:=.cons 32609 [] (listK l) .nil
def encF (l:List Tm):F:=if zbt l=0 then listF l else .nil
theorem objs_len : ∀ l : List Tm, (zdu l).len = l.length
 | []=>rfl
 | _::r=>by simp only [zdu,F.len,List.length_cons];rw [objs_len r]
theorem objs_snoc : ∀ (l : List Tm) (x : Tm), zdu (l ++ [x]) = (zdu l).app (.cons 32608 [] (objK x) .nil)
 | [],x=>rfl
 | y::r,x=>by simp only [List.cons_append,zdu,F.app];rw [objs_snoc r x]
theorem objs_size : ∀ l : List Tm, (zdu l).size = 9 * l.length
 | []=>rfl
 | y::r=>by simp only [zdu,F.size,List.length_cons,objK,zdM];rw [objs_size r];omega
theorem listF_size (l:List Tm):(listF l).size=9*l.length+2:=by simp only [listF,listK,F.size,objs_size];omega
theorem listF_ok {l : List Tm} (h : ∀ x ∈ l, x.d.length ≤ 140737488351232) : (listF l).ok := by
 have ho:∀n s:Nat,s≤4→(octL n s).length≤140737488351232:=fun n s hs=>by rw [zav];omega
 have g : (zdu l).ok := by
  induction l with
  | nil=>trivial
  | cons y r ih =>
    refine ⟨by decide,Nat.zero_le _,⟨by decide,Nat.zero_le _,?_,by decide,h y (List.mem_cons_self ..),trivial,trivial⟩,ih fun x hx=>h x (List.mem_cons_of_mem _ hx)⟩
    exact ⟨by decide,ho _ _ (by decide),trivial,by decide,ho _ _ (by decide),trivial,by decide,ho _ _ (by decide),trivial,by decide,ho _ _ (by decide),trivial,by decide,ho _ _ (by decide),trivial,by decide,ho _ _ (by decide),trivial,trivial⟩
 exact ⟨by decide,Nat.zero_le _,⟨by decide,ho _ _ (by decide),trivial,g⟩,trivial⟩
def hdrTags:List (Int×Nat):=[(129,1),(130,1),(131,4),(132,4),(133,1),(136,2)]
def numT : List (Int × Nat) → F → Option (List Nat)
 | [],.nil=>some []
 | (t,s)::r,.cons t' v k g=>if t'=t∧k.len=0∧v.length=s then (numT r g).map (numL v::·) else none
 | _,_=>none
def tmOf (n:List Nat) (d:List UInt8):Tm:=⟨n.getD 0 0,n.getD 1 0,n.getD 2 0,n.getD 3 0,n.getD 5 0,n.getD 4 0,d⟩
def hdrT (t:Int) (v:List UInt8) (k:F):Option (List Nat):=if t=161∧v.length=0 then numT hdrTags k else none
def tmT (t : Int) (v : List UInt8) : F → Option Tm
 | .cons th vh kh (.cons td vd kd .nil)=>if t=32608∧v.length=0∧td=24366∧kd.len=0 then (hdrT th vh kh).map (tmOf · vd) else none
 | _=>none
def tmsT : F → Option (List Tm)
 | .nil=>some []
 | .cons t v k r => match tmT t v k with
   | none=>none
   | some x=>(tmsT r).map (x::·)
def lstT : F → Option (List Tm)
 | .cons t v (.cons tc vc kc g) .nil=>if t=32609∧v.length=0∧tc=2∧kc.len=0∧vc.length=1∧numL vc=g.len then tmsT g else none
 | _=>none
def decE (f : F) : Int := match lstT f with
 | none=>1
 | some l=>zbt l
def decV (f : F) : List Tm := match lstT f with
 | none=>[]
 | some l=>if zbt l=0 then l else []
def TmIn (w : World) (p : Nat → Prop) (vs : List Value) (k : Nat) (x : Tm) : Prop :=
 ∃A c,((A=none→c=0)∧x.d.length≤c)∧SeesP w p A (Us x.d)∧∀j,j < 7→vs[k*7+j]? = (x.cs A c)[j]?
def TmsIn (w:World) (p:Nat→Prop) (vs:List Value) (l:List Tm):Prop:=vs.length=7*l.length∧∀(k:Nat) (x:Tm),l[k]? = some x→TmIn w p vs k x
def SeesT (w:World) (p:Nat→Prop) (A:Option Addr) (l:List Tm):Prop:=∃vs,SeesP w p A vs∧TmsIn w p vs l
section
variable {w w':World} {p p':Nat→Prop} {A:Option Addr} {vs:List Value} {l:List Tm} {k:Nat} {x:Tm}
theorem TmIn.keep (h : TmIn w p vs k x) (hk : ∀ q : Addr, p q.block → w'.cell? q = w.cell? q) : TmIn w' p vs k x := by
 obtain ⟨A,c,h0,h1,h2⟩:=h
 exact ⟨A,c,h0,h1.keep hk,h2⟩
theorem TmIn.imp (h : TmIn w p vs k x) (hp : ∀ b, p b → p' b) : TmIn w p' vs k x := by
 obtain ⟨A,c,h0,h1,h2⟩:=h
 exact ⟨A,c,h0,h1.imp hp,h2⟩
theorem TmsIn.keep (h:TmsIn w p vs l) (hk:∀q:Addr,p q.block→w'.cell? q=w.cell? q):TmsIn w' p vs l:=⟨h.1,fun k x hx=>(h.2 k x hx).keep hk⟩
theorem TmsIn.imp (h:TmsIn w p vs l) (hp:∀b,p b→p' b):TmsIn w p' vs l:=⟨h.1,fun k x hx=>(h.2 k x hx).imp hp⟩
theorem SeesT.keep (h : SeesT w p A l) (hk : ∀ q : Addr, p q.block → w'.cell? q = w.cell? q) : SeesT w' p A l := by
 obtain ⟨cs,h1,h2⟩:=h
 exact ⟨cs,h1.keep hk,h2.keep hk⟩
theorem SeesT.imp (h : SeesT w p A l) (hp : ∀ b, p b → p' b) : SeesT w p' A l := by
 obtain ⟨cs,h1,h2⟩:=h
 exact ⟨cs,h1.imp hp,h2.imp hp⟩
theorem SeesT.on (h : SeesT w (· < w.heap.size) A l) (hb : Below w.heap.size w w') : SeesT w' (· < w'.heap.size) A l :=
 (h.keep fun _ hq=>hb.cell hq).imp fun _ hb2=>Nat.lt_of_lt_of_le hb2 hb.size
theorem SeesT.newOn {w1 w2 : World} (h : SeesT w1 (newB w w1) A l) (hb : Below w1.heap.size w1 w2) : SeesT w2 (newB w w2) A l :=
 (h.keep fun q hq=>hb.cell hq.2).imp fun b h=>⟨h.1,Nat.lt_of_lt_of_le h.2 hb.size⟩
theorem SeesT.nil_:SeesT w p A []:=⟨[],.inl rfl,rfl,fun k x h=>by simp at h⟩
theorem tm_at (h : SeesT w p A l) (hx : l[k]? = some x) : ∃ b off Ad c, A = some ⟨b, off, none⟩ ∧ p b ∧ w.rangeAt b (off + k * 7) (x.cs Ad c) ∧ (Ad = none → c = 0) ∧ x.d.length ≤ c ∧ SeesP w p Ad (Us x.d) := by
 obtain ⟨vs,h1,h2,h3⟩:=h
 obtain ⟨Ad,c,h0,h4,h5⟩:=h3 k x hx
 have hk:=(List.getElem?_eq_some_iff.1 hx).1
 rcases h1 with h1 | ⟨b,off,rfl,hb,hc⟩
 · subst h1;simp at h2;omega
 · refine ⟨b, off, Ad, c, rfl, hb, fun j u hu => ?_, h0.1, h0.2, h4⟩
   have hj : j < 7 := by
    have:=(List.getElem?_eq_some_iff.1 hu).1
    simpa [Tm.cs] using this
   rw [Nat.add_assoc,hc _ (by omega),h5 j hj,hu]
theorem TmsIn.nil_:TmsIn w p [] []:=⟨rfl,fun k x h=>by simp at h⟩
theorem TmsIn.snoc {Ad : Option Addr} {c : Nat} (h : TmsIn w p vs l) (h0 : (Ad = none → c = 0) ∧ x.d.length ≤ c) (hs : SeesP w p Ad (Us x.d)) : TmsIn w p (vs ++ x.cs Ad c) (l ++ [x]) := by
 refine ⟨by simp [h.1,Tm.cs];omega,fun k y hy=>?_⟩
 rw [List.getElem?_append] at hy
 split at hy
 · rename_i hk
   obtain ⟨A',c',g0,g1,g2⟩:=h.2 k y hy
   refine ⟨A',c',g0,g1,fun j hj=>?_⟩
   rw [List.getElem?_append,if_pos (by rw [h.1];omega)]
   exact g2 j hj
 · rename_i hk
   have h1 : k - l.length = 0 := by
    have:=(List.getElem?_eq_some_iff.1 hy).1
    simpa using this
   rw [h1] at hy
   injection hy with hy
   subst hy
   refine ⟨Ad,c,h0,hs,fun j hj=>?_⟩
   rw [List.getElem?_append,if_neg (by rw [h.1];omega),h.1]
   congr 1
   omega
end
end Go.Proofs.YtnlhbknajdpnbaaGreatDoor
namespace Go.Proofs.YtnlhbknajdpnbaaGreatDoor
open Go.RowKit
theorem vT_cases (x : Tm) (n : Nat) (hn : x.d.length = n) :
 (zcf x.k x.p=false∧vT x=14)∨(zcf x.k x.p=true∧dayB x.f=false∧vT x=8)∨(zcf x.k x.p=true∧dayB x.f=true∧dayB x.t=false∧vT x=8)∨(zcf x.k x.p=true∧dayB x.f=true∧dayB x.t=true∧decide (x.t < x.f)=true∧vT x=8) ∨
 (zcf x.k x.p = true ∧ dayB x.f = true ∧ dayB x.t = true ∧ decide (x.t < x.f) = false ∧ ((decide (x.fo < 0) = true ∧ vT x = 3) ∨ (decide (x.fo < 0) = false ∧ decide (65535 < x.fo) = true ∧ vT x = 3) ∨ (decide (x.fo < 0) = false ∧ decide (65535 < x.fo) = false ∧ decide (x.q < 0) = true ∧ vT x = 3) ∨ (decide (x.fo < 0) = false ∧ decide (65535 < x.fo) = false ∧ decide (x.q < 0) = false ∧ decide (100 < x.q) = true ∧ vT x = 3) ∨
  (decide (x.fo < 0)=false∧decide (65535 < x.fo)=false∧decide (x.q < 0)=false∧decide (100 < x.q)=false∧(((n=0)∧vT x=2)∨(1≤n∧decide (1024 < (n:Int))=true∧vT x=2)∨(1≤n∧decide (1024 < (n:Int))=false∧vT x=0))))):=by
 subst hn
 rcases h1:zcf x.k x.p with _ | _
 · simp [vT,h1]
 rcases h2:dayB x.f with _ | _
 · simp [vT,h1,h2,zdY]
 rcases h3:dayB x.t with _ | _
 · simp [vT,h1,h2,h3,zdY]
 by_cases h4:x.t < x.f
 · have : ¬ x.f ≤ x.t := by omega
   simp [vT,h1,h2,h3,h4,zdY,this]
 have h4':x.f≤x.t:=by omega
 by_cases h5:x.fo < 0
 · have : ¬ 0 ≤ x.fo := by omega
   simp [vT,h1,h2,h3,h4,h4',zdY,zfb,h5,this]
 have h5':0≤x.fo:=by omega
 by_cases h6:65535 < x.fo
 · have : ¬ x.fo ≤ 65535 := by omega
   simp [vT,h1,h2,h3,h4,h4',zdY,zfb,h5,h5',h6,this]
 have h6':x.fo≤65535:=by omega
 by_cases h7:x.q < 0
 · have : ¬ 0 ≤ x.q := by omega
   simp [vT,h1,h2,h3,h4,h4',zdY,zfb,h5,h5',h6,h6',h7,this]
 have h7':0≤x.q:=by omega
 by_cases h8:100 < x.q
 · have : ¬ x.q ≤ 100 := by omega
   simp [vT,h1,h2,h3,h4,h4',zdY,zfb,h5,h5',h6,h6',h7,h7',h8,this]
 have h8':x.q≤100:=by omega
 by_cases h9:x.d.length=0
 · have : ¬ 1 ≤ x.d.length := by omega
   simp [vT,h1,h2,h3,h4,h4',zdY,zfb,h5,h5',h6,h6',h7,h7',h8,h8',sizeT,h9,this]
 have h9':1≤x.d.length:=by omega
 by_cases h10:1024 < x.d.length
 · have a : ¬ x.d.length ≤ 1024 := by omega
   have b:(1024:Int) < (x.d.length:Int):=by omega
   simp [vT,h1,h2,h3,h4,h4',zdY,zfb,h5,h5',h6,h6',h7,h7',h8,h8',sizeT,h9',a,b]
 · have a : x.d.length ≤ 1024 := by omega
   have b:¬(1024:Int) < (x.d.length:Int):=by omega
   simp [vT,h1,h2,h3,h4,h4',zdY,zfb,h5,h5',h6,h6',h7,h7',h8,h8',sizeT,h9',a,b]
theorem zfM (w:World) (o:Obj):Below w.heap.size w (w.alloc o):=(Below.refl _ _).alloc (Nat.le_refl _) o
end Go.Proofs.YtnlhbknajdpnbaaGreatDoor
namespace Go.Proofs.YtnlhbknajdpnbaaGreatDoor
open Go.RowKit
def cB (x:List UInt8) (i:Nat):Int:=((x.getD i 0).toNat:Int)
theorem cB_nn (x:List UInt8) (i:Nat):0≤cB x i:=by unfold cB;omega
theorem cB_le (x:List UInt8) (i:Nat):cB x i≤255:=by unfold cB;have:=UInt8.toNat_lt (x.getD i 0);omega
theorem s_at {s : ByteArray} {x : List UInt8} (h : s = S x) (i : Nat) (hi : i < s.size) : ((s[i]'hi).toNat : Int) = cB x i := by
 subst h
 have hx:i < x.length:=by simpa [zao] using hi
 show ((x.toArray[i]'(by simpa using hx)).toNat:Int)=cB x i
 simp [cB,hx]
theorem zcw {x:List UInt8} {i:Nat} (h:i < x.length):cB x i=(x[i].toNat:Int):=by simp [cB,h]
def vI (n:Int):Int:=if 48≤n∧n≤57 then n - 48 else if 65≤n∧n≤90 then n - 55 else if n=60 then 0 else -1
theorem vI_le (n:Int):-1≤vI n∧vI n≤35:=by unfold vI;repeat' split <;> omega
theorem vI_1 {n:Int} (h:48≤n) (k:n≤57):vI n=n - 48:=by unfold vI;rw [if_pos ⟨h,k⟩]
theorem vI_2 {n:Int} (h:65≤n) (k:n≤90):vI n=n - 55:=by unfold vI;rw [if_neg (by omega),if_pos ⟨h,k⟩]
theorem vI_3 {n:Int} (h:n=60):vI n=0:=by unfold vI;rw [if_neg (by omega),if_neg (by omega),if_pos h]
theorem vI_4 {n : Int} (h1 : ¬ (48 ≤ n ∧ n ≤ 57)) (h2 : ¬ (65 ≤ n ∧ n ≤ 90)) (h3 : n ≠ 60) : vI n = -1 := by
 unfold vI;rw [if_neg h1,if_neg h2,if_neg h3]
theorem v_cases (n:Int):n < 48∨(48≤n∧n≤57)∨(57 < n∧n < 60)∨n=60∨(60 < n∧n < 65)∨(65≤n∧n≤90)∨90 < n:=by omega
theorem ret_int {k:IntKind} {a b:Int} (h:a=b):Ending.returned (.int k a)=.returned (.int k b):=by rw [h]
theorem r_value (n v : Int) (hv : vI n = v) (h0 : 0 ≤ n) (h1 : n ≤ 255) (w : World) :
 Calls Tryz.prog 97 #[.int .u8 n] w fun e w'=>e=.returned (.int .i64 v)∧w'=w:=by
 have HV:=Lib.hid hv
 clear hv
 rcases v_cases n with h | h | h | h | h | h | h
 all_goals
  go_enter Tryz.func97,Tryz.ntmps97
  go_wp2
  go_ret
  refine ⟨ret_int ?_,rfl⟩
  rw [←HV.out]
  first
  | (rw [vI_1 (by omega) (by omega)];done)
  | (rw [vI_2 (by omega) (by omega)];show _=_;omega)
  | (rw [vI_3 (by omega)];done)
  | (rw [vI_4 (by omega) (by omega) (by omega)];done)
def zaC (x:List UInt8):Bool:=x.all fun b=>decide (0≤vI (b.toNat:Int))
theorem zgI {x : List UInt8} {k : Nat} (hk : k < x.length) (h : vI (cB x k) < 0) : zaC x = false := by
 unfold zaC
 rw [List.all_eq_false]
 refine ⟨x[k],List.getElem_mem hk,?_⟩
 rw [zcw hk] at h
 simpa using h
theorem zck {x : List UInt8} (h : ∀ k, k < x.length → 0 ≤ vI (cB x k)) : zaC x = true := by
 unfold zaC
 rw [List.all_eq_true]
 intro b hb
 obtain ⟨k,hk,rfl⟩:=List.getElem_of_mem hb
 have:=h k hk
 rw [zcw hk] at this
 simpa using this
theorem validL_at {x : List UInt8} (h : zaC x = true) (k : Nat) (hk : k < x.length) : 0 ≤ vI (cB x k) := by
 unfold zaC at h
 rw [List.all_eq_true] at h
 have:=h x[k] (List.getElem_mem hk)
 rw [zcw hk]
 simpa using this
theorem r_valid (s : ByteArray) (x : List UInt8) (hx : s = S x) (w : World) (hm : s.size ≤ maxLen) :
 Calls Tryz.prog 96 #[.string s] w fun e w'=>e=.returned (.bool (zaC x))∧w'=w:=by
 unfold maxLen at hm
 have hl:s.size=x.length:=by rw [hx,zao]
 have HX:=Lib.hid hx
 have HL:=Lib.hid hl
 clear hx hl
 go_enter Tryz.func96,Tryz.ntmps96
 go_wp2
 go_loop [3] (fun i=>∃k:Nat,k≤s.size∧i=.int .i64 k∧Hid (∀j,j < k→0≤vI (cB x j))) (fun i=>s.size - (intOf i).toNat)
 case atStart=>exact ⟨0,Nat.zero_le _,rfl,Lib.hid (fun j h=>by omega)⟩
 case round =>
  obtain ⟨k,hk,rfl,HG⟩:=hrel
  by_cases hlt:k < s.size
  · have hc := s_at HX.out k hlt
    obtain ⟨v,hv⟩ : ∃v,vI (cB x k)=v:=⟨_,rfl⟩
    have HV:=Lib.hid hv
    have hvs:vI ((s[k]'hlt).toNat:Int)=v:=by rw [hc];exact hv
    have HVS:=Lib.hid hvs
    clear hv hvs hc
    by_cases hn:v < 0
    · have hb : zaC x = false := zgI (k := k) (by have := HL.out; omega) (by rw [HV.out]; exact hn)
      have d1:decide (v < 0)=true:=by simpa using hn
      go_wp2_with (go_at_call 97;refine (r_value _ v HVS.out (by omega) (by have:=UInt8.toNat_lt (s[k]'hlt);omega) _).mono ?_;rintro e w' ⟨rfl,rfl⟩)
      go_ret
      first | exact ⟨rfl,rfl⟩ | exact ⟨by rw [hb];rfl,rfl⟩
    · have d1 : decide (v < 0) = false := by simpa using hn
      go_wp2_with (go_at_call 97;refine (r_value _ v HVS.out (by omega) (by have:=UInt8.toNat_lt (s[k]'hlt);omega) _).mono ?_;rintro e w' ⟨rfl,rfl⟩)
      go_round
      case rel =>
       refine ⟨k+1,by omega,by go_num,Lib.hid (fun j hj=>?_)⟩
       rcases Nat.lt_or_ge j k with h | h
       · exact HG.out j h
       · obtain rfl : j = k := by omega
         rw [HV.out];omega
      case measure=>simp [intOf];omega
  · have hb : zaC x = true := zck (fun j hj => HG.out j (by have := HL.out; omega))
    go_wp2
    go_ret
    first | exact ⟨rfl,rfl⟩ | exact ⟨by rw [hb];rfl,rfl⟩
end Go.Proofs.YtnlhbknajdpnbaaGreatDoor
namespace Go.Proofs.YtnlhbknajdpnbaaGreatDoor
open Go.RowKit
def wt (k:Nat):Int:=if k % 3=0 then 7 else if k % 3=1 then 3 else 1
def sumL (x : List UInt8) : Nat → Int
 | 0=>0
 | k+1=>sumL x k+vI (cB x k)*wt k
theorem zes (x:List UInt8) (k:Nat):sumL x (k+1)=sumL x k+vI (cB x k)*wt k:=rfl
theorem wt_cases (k : Nat) : wt k = 7 ∨ wt k = 3 ∨ wt k = 1 := by
 unfold wt
 split
 · simp
 · split <;> simp
theorem sumL_bd {x : List UInt8} (hv : zaC x = true) (k : Nat) (hk : k ≤ x.length) : 0 ≤ sumL x k ∧ sumL x k ≤ 245 * k := by
 induction k with
 | zero=>simp [sumL]
 | succ k ih =>
   have h1:=ih (by omega)
   have h2:=validL_at hv k (by omega)
   have h3:=(vI_le (cB x k)).2
   rw [zes]
   rcases wt_cases k with e | e | e <;> rw [e] <;> omega
def dgL (x:List UInt8):List UInt8:=if zaC x=true then [UInt8.ofNat (48+sumL x x.length % 10).toNat] else []
def dgE (x:List UInt8):Int:=if zaC x=true then 0 else 12
theorem wt_index0 (w : World) : (Instr.index 135 (.agg #[.int .i64 7, .int .i64 3, .int .i64 1]) (.int .i64 0)).run Tryz.prog w = .ok (.int .i64 7) w := by
 have hu:=Tryz.underlying135
 have hz:=Tryz.sizeOf3
 simp [Instr.index,asIntOf,run_underlying hu,hz,go_sem,part]
theorem wt_index1 (w : World) : (Instr.index 135 (.agg #[.int .i64 7, .int .i64 3, .int .i64 1]) (.int .i64 1)).run Tryz.prog w = .ok (.int .i64 3) w := by
 have hu:=Tryz.underlying135
 have hz:=Tryz.sizeOf3
 simp [Instr.index,asIntOf,run_underlying hu,hz,go_sem,part]
theorem wt_index2 (w : World) : (Instr.index 135 (.agg #[.int .i64 7, .int .i64 3, .int .i64 1]) (.int .i64 2)).run Tryz.prog w = .ok (.int .i64 1) w := by
 have hu:=Tryz.underlying135
 have hz:=Tryz.sizeOf3
 simp [Instr.index,asIntOf,run_underlying hu,hz,go_sem,part]
theorem zeB (s : ByteArray) (x : List UInt8) (hx : s = S x) (w : World) (hm : s.size ≤ 140737488355328) :
 Calls Tryz.prog 72 #[.string s] w fun e w'=>e=.returned (.tuple #[.string (S (dgL x)),.int .i64 (dgE x)])∧Below w.heap.size w w':=by
 have hl:s.size=x.length:=by rw [hx,zao]
 have HX:=Lib.hid hx
 have HL:=Lib.hid hl
 clear hx hl
 by_cases hv:zaC x=true
 · obtain ⟨D, hD⟩ : ∃ D, D = dgL x := ⟨_, rfl⟩
   have HD:=Lib.hid hD
   have HE:Hid (dgE x=0):=Lib.hid (by simp [dgE,hv])
   have HV:=Lib.hid hv
   clear hv
   rw [←hD,HE.out]
   clear hD
   go_enter Tryz.func72,Tryz.ntmps72
   go_wp2_with (go_at_call 96;refine (r_valid _ x HX.out _ (by unfold maxLen;omega)).mono ?_;rintro e w' ⟨rfl,hw⟩;rw [hw,HV.out];clear hw)
   go_loopw [4,5] (fun v i wr=>∃k:Nat,k≤s.size∧i=.int .i64 k∧v=.int .i64 (sumL x k)∧Hid (∃n,wr=w.drewN n)) (fun _ i _=>s.size - (intOf i).toNat)
   case atStart=>exact ⟨0,Nat.zero_le _,rfl,rfl,Lib.hid ⟨0,rfl⟩⟩
   case round =>
    obtain ⟨k,hk,rfl,rfl,HW⟩:=hrel
    have hs:=sumL_bd HV.out k (by have:=HL.out;omega)
    obtain ⟨y,hy⟩ : ∃y,sumL x k=y:=⟨_,rfl⟩
    have HY:=Lib.hid hy
    rw [hy] at hs ⊢
    obtain ⟨hs0,hs1⟩:=hs
    clear hy
    by_cases hlt:k < s.size
    · have hc := s_at HX.out k hlt
      have hv0:=validL_at HV.out k (by have:=HL.out;omega)
      obtain ⟨v,hv⟩ : ∃v,vI (cB x k)=v:=⟨_,rfl⟩
      have hvs:vI ((s[k]'hlt).toNat:Int)=v:=by rw [hc];exact hv
      have hv1:v≤35:=by have:=(vI_le (cB x k)).2;omega
      rw [hv] at hv0
      have HVK:=Lib.hid hv
      have HVS:=Lib.hid hvs
      clear hv hvs hc
      have h3:k % 3=0∨k % 3=1∨k % 3=2:=by omega
      rcases h3 with h3 | h3 | h3
      all_goals
       have H3:=Lib.hid h3
       have i3:(k:Int) % 3=((k % 3:Nat):Int):=by omega
       rw [H3.out] at i3
       have i4:(k:Int).tmod 3=(k:Int) % 3:=Int.tmod_eq_emod_of_nonneg (by omega)
       rw [i3] at i4
       have x0:=wt_index0
       have x1:=wt_index1
       have x2:=wt_index2
       clear h3
       go_wp2
       go_quiet ((go_at_call 97;exact Calls.quiet_of_same (r_value _ v HVS.out (by omega) (by have:=UInt8.toNat_lt (s[k]'hlt);omega) _)))
       go_wp2
       go_roundw
       case rel =>
        exact ⟨k+1,by omega,by go_num,(by rw [zes,HY.out,HVK.out];simp [wt,H3.out]),Lib.hid (by obtain ⟨n,hn⟩:=HW.out;exact ⟨n+nq,by rw [hn,World.drewN_drewN]⟩)⟩
       case measure=>simp [intOf];omega
    · have hkx : Hid (k = x.length) := Lib.hid (by have := HL.out; omega)
      have hq0:0≤y % 10:=by omega
      have hq1:y % 10 < 10:=by omega
      have hd : S [UInt8.ofNat (48 + y % 10).toNat] = S D := by
       rw [HD.out];unfold dgL;rw [if_pos HV.out,←hkx.out,HY.out]
      have HDD:=Lib.hid hd
      clear hd
      have hu:((UInt8.ofNat (48+y % 10).toNat).toNat:Int)=48+y % 10:=by rw [UInt8.toNat_ofNat'];omega
      have hs2 : Sees (wr.alloc (.cells #[.int .u8 (48 + y % 10)] 5)) (wr.heap.size + 1) (some ⟨wr.heap.size, 0, none⟩) (Us [UInt8.ofNat (48 + y % 10).toNat]) := by
       refine .inr ⟨wr.heap.size,0,rfl,by omega,fun j hj=>?_⟩
       rw [zat] at hj
       obtain rfl:j=0:=by simpa using hj
       rw [cell_of_row _ wr.heap.size 0 _ _ _ (heap_alloc_new wr _)]
       simp only [Us,U,List.map_cons,List.map_nil,List.getElem?_cons_zero,hu];rfl
      have hc:=zcD _ _ _ _ hs2 1 1 rfl
      rw [HDD.out] at hc
      clear hs2 hu
      have y0:0≤48+y % 10:=by omega
      have y1:48+y % 10≤57:=by omega
      go_wp2
      go_ret2
      refine ⟨rfl,?_⟩
      obtain ⟨n,hn⟩:=HW.out
      subst hn
      exact (zbS _ _ _).alloc (Nat.le_refl _) _
 · have HE : Hid (dgE x = 12) := Lib.hid (by simp [dgE, hv])
   have HD:Hid (dgL x=[]):=Lib.hid (by simp [dgL,hv])
   have HV:Hid (zaC x=false):=Lib.hid (by simpa using hv)
   clear hv
   rw [HE.out,HD.out]
   go_enter Tryz.func72,Tryz.ntmps72
   go_wp2_with (go_at_call 96;refine (r_valid _ x HX.out _ (by unfold maxLen;omega)).mono ?_;rintro e w' ⟨rfl,hw⟩;rw [hw,HV.out];clear hw)
   go_ret2
   exact ⟨rfl,Below.refl _ _⟩
end Go.Proofs.YtnlhbknajdpnbaaGreatDoor
