/-
  What is proved here: plain words for regions that draw their order and whose callees lay blocks of their own (the library's class of worlds, in the words of Below). Nothing of the program is used.
-/
import Derived.Test.YtkdlfbggddllhaaP1
import Derived.Lib.QuietBelow
import Derived.Test.YtkdlfbggddllhaaRows
import Derived.Test.YtkdlfbggddllhaaP0
import Derived.Test.YtkdlfbggddllhaaP4
import Derived.Test.YtkdlfbggddllhaaP3
import Derived.Laws.AppendOwnNone
import Derived.Deep.AppendLies
import Derived.Lib.AppendZerosOnto
import Derived.BigQuiet
import Derived.Test.YtkdlfbggddllhaaP5
import Derived.Test.YtkdlfbggddllhaaP6
import Derived.Test.YtkdlfbggddllhaaP7
import Derived.Lib.Strings
import Derived.Lib.Slices
import Derived.Lib.Small
import Derived.Lib.Walk
import Derived.Lib.BitFns
import Derived.Deep.RegionWith
import Derived.Laws.ResultCell
import Derived.Laws.Rows
import Derived.ProofKit
import Derived.OpenShut
import Derived.ShutString
import Derived.ChangeOld
import Derived.SizedLaws
import Derived.Deep.CutRange
import Derived.Deep.RegionLaw
set_option linter.unusedVariables false
set_option linter.unusedSimpArgs false
namespace Go.Proofs.Ytkdlfbggddllhaa
open Go.RowKit
theorem zau {w w' : World} (h : ∃ p : Regrown, w' = Go.Sort.grow (redrawn w p.d) p.os) : Below w.heap.size w w' := by
 obtain ⟨p,rfl⟩:=h
 exact below_regrown w p.d p.os
theorem zaB {P : Program} {f : FuncId} {args : Array Value} {w : World} {v : Value} (h : ∀ w', Below w.heap.size w w' → Calls P f args w' fun e w'' => e = .returned v ∧ Below w'.heap.size w' w'') (d : Nat) (os : Array Obj) :
 Calls P f args (Go.Sort.grow (redrawn w d) os) fun e w''=>e=.returned v∧∃p:Regrown,w''=Go.Sort.grow (redrawn w p.d) p.os :=
 Calls.regrown_of (h _ (below_regrown w d os))
theorem RowV.quiet {w : World} {g k : Nat} {vs : List Value} {u : Value} (h : RowV w g vs) (hu : vs[k]? = some u) (d : Nat) (os : Array Obj) : (Go.Sort.grow (redrawn w d) os).cell? ⟨g, k, none⟩ = some u :=
 cell_regrown ((h.cell k).trans hu) d os
end Go.Proofs.Ytkdlfbggddllhaa
namespace Go.Proofs.Ytkdlfbggddllhaa
open Go.RowKit
theorem same_take {x y : List UInt8} {k : Nat} (hx : k < x.length) (hy : k < y.length) (h : x.take k = y.take k) (e : (x[k].toNat : Int) = (y[k].toNat : Int)) : x.take (k + 1) = y.take (k + 1) := by
 have e':x[k]=y[k]:=UInt8.toNat_inj.1 (by omega)
 rw [List.take_succ_eq_append_getElem hx,List.take_succ_eq_append_getElem hy,h,e']
set_option maxHeartbeats 400000 in
theorem ref_same (A1 A2 : Option Addr) (c1 c2 n1 n2 : Nat) (x y : List UInt8) (w : World) (B : Nat) (h1 : Sees w B A1 (Us x)) (h2 : Sees w B A2 (Us y)) (l1 : n1 = x.length) (l2 : n2 = y.length) (m1 : n1 ≤ maxLen) :
 Calls Try.prog 22 #[.slice A1 n1 c1,.slice A2 n2 c2] w fun e w'=>e=.returned (.bool (zaC x y))∧∃n,w'=w.drewN n:=by
 unfold maxLen at m1
 by_cases hl:x.length=y.length
 · have L2 := Lib.hid l2
   have L1:=Lib.hid l1
   have HL:=Lib.hid hl
   clear l2 l1
   obtain rfl:n2=n1:=by rw [L2.out,L1.out,HL.out]
   clear hl
   go_enter Try.func22,Try.ntmps22
   go_wp2
   go_loopw [5] (fun i wr=>∃k n:Nat,k≤n2∧i=.int .i64 k∧x.take k=y.take k∧wr=w.drewN n) (fun i _=>n2 - (intOf i).toNat)
   case atStart=>exact ⟨0,0,Nat.zero_le _,rfl,by simp,rfl⟩
   case round =>
    obtain ⟨k,n,hk,rfl,ht,rfl⟩:=hrel
    have HT:=Lib.hid ht
    clear ht
    by_cases hlt:k < n2
    · have hkx : k < x.length := by have := L1.out; omega
      have hky:k < y.length:=by have:=L2.out;omega
      obtain ⟨b1,o1,rfl,hb1,hc1⟩:=h1.at_ (k:=k) (by rw [zap];omega)
      obtain ⟨b2,o2,rfl,hb2,hc2⟩:=h2.at_ (k:=k) (by rw [zap];omega)
      have g1:=(hc1 k (by rw [zap];omega)).trans (Us_get hkx)
      have g2:=(hc2 k (by rw [zap];omega)).trans (Us_get hky)
      clear hc1 hc2
      by_cases he:(x[k].toNat:Int)=(y[k].toNat:Int)
      · have hd : (((x[k].toNat : Int)) != ((y[k].toNat : Int))) = false := by rw [he]; simp
        have HE:=Lib.hid he
        clear he
        go_wp2
        go_quiet (fail)
        go_wp2
        go_roundw
        case rel=>exact ⟨k+1,_,by omega,by go_num,same_take hkx hky HT.out HE.out,rfl⟩
        case measure=>simp [intOf];omega
      · have hd : (((x[k].toNat : Int)) != ((y[k].toNat : Int))) = true := by simpa using he
        have hf:zaC x y=false:=zbp (by rintro rfl;exact he rfl)
        clear he
        go_wp2
        go_quiet (fail)
        go_wp2
        go_ret
        exact ⟨by rw [hf];rfl,n+nq,World.drewN_drewN _ _ _⟩
    · have hs : zaC x y = true := zby (by
       have h:=HT.out
       rwa [List.take_of_length_le (by have:=L1.out;omega),List.take_of_length_le (by have:=L2.out;omega)] at h)
      go_wp2
      go_ret
      exact ⟨by rw [hs];rfl,n,rfl⟩
 · have hne : ((n1 : Int) != (n2 : Int)) = true := by rw [bne_iff_ne]; omega
   have hf:zaC x y=false:=zbp (by rintro rfl;exact hl rfl)
   clear l1 l2 hl
   go_enter Try.func22,Try.ntmps22
   go_wp2
   go_ret
   exact ⟨by rw [hf];rfl,0,rfl⟩
end Go.Proofs.Ytkdlfbggddllhaa
namespace Go.Proofs.Ytkdlfbggddllhaa
open Go.RowKit
structure Tm where
 k:Int
 p:Int
 f:Int
 t:Int
 fo:Int
 q:Int
 d:List UInt8
instance:Inhabited Tm:=⟨⟨0,0,0,0,0,0,[]⟩⟩
def Tm.cs (x:Tm) (A:Option Addr) (c:Nat):List Value:=[.int .i64 x.k,.int .i64 x.p,.int .i64 x.f,.int .i64 x.t,.int .i64 x.fo,.int .i64 x.q,.slice A x.d.length c]
theorem Tm.cs_len (x:Tm) (A:Option Addr) (c:Nat):(x.cs A c).length=7:=rfl
def TmIn (w : World) (p : Nat → Prop) (vs : List Value) (k : Nat) (x : Tm) : Prop :=
 ∃A c,((A=none→c=0)∧x.d.length≤c)∧SeesP w p A (Us x.d)∧∀j,j < 7→vs[k*7+j]? = (x.cs A c)[j]?
def TmsIn (w:World) (p:Nat→Prop) (vs:List Value) (l:List Tm):Prop:=vs.length=7*l.length∧∀(k:Nat) (x:Tm),l[k]? = some x→TmIn w p vs k x
def SeesT (w:World) (p:Nat→Prop) (A:Option Addr) (l:List Tm):Prop:=∃vs,SeesP w p A vs∧TmsIn w p vs l
section
variable {w w':World} {p p':Nat→Prop} {A:Option Addr} {vs:List Value} {l:List Tm} {k:Nat} {x:Tm}
theorem TmIn.keep (h : TmIn w p vs k x) (hk : ∀ q : Addr, p q.block → w'.cell? q = w.cell? q) : TmIn w' p vs k x := by
 obtain ⟨A,c,h0,h1,h2⟩:=h
 exact ⟨A,c,h0,h1.keep hk,h2⟩
theorem TmIn.imp (h : TmIn w p vs k x) (hp : ∀ b, p b → p' b) : TmIn w p' vs k x := by
 obtain ⟨A,c,h0,h1,h2⟩:=h
 exact ⟨A,c,h0,h1.imp hp,h2⟩
theorem TmsIn.keep (h:TmsIn w p vs l) (hk:∀q:Addr,p q.block→w'.cell? q=w.cell? q):TmsIn w' p vs l:=⟨h.1,fun k x hx=>(h.2 k x hx).keep hk⟩
theorem TmsIn.imp (h:TmsIn w p vs l) (hp:∀b,p b→p' b):TmsIn w p' vs l:=⟨h.1,fun k x hx=>(h.2 k x hx).imp hp⟩
theorem SeesT.keep (h : SeesT w p A l) (hk : ∀ q : Addr, p q.block → w'.cell? q = w.cell? q) : SeesT w' p A l := by
 obtain ⟨cs,h1,h2⟩:=h
 exact ⟨cs,h1.keep hk,h2.keep hk⟩
theorem SeesT.imp (h : SeesT w p A l) (hp : ∀ b, p b → p' b) : SeesT w p' A l := by
 obtain ⟨cs,h1,h2⟩:=h
 exact ⟨cs,h1.imp hp,h2.imp hp⟩
theorem SeesT.on (h : SeesT w (· < w.heap.size) A l) (hb : Below w.heap.size w w') : SeesT w' (· < w'.heap.size) A l :=
 (h.keep fun _ hq=>hb.cell hq).imp fun _ hb2=>Nat.lt_of_lt_of_le hb2 hb.size
theorem SeesT.nil_:SeesT w p A []:=⟨[],.inl rfl,rfl,fun k x h=>by simp at h⟩
theorem TmsIn.nil_:TmsIn w p [] []:=⟨rfl,fun k x h=>by simp at h⟩
end
end Go.Proofs.Ytkdlfbggddllhaa
namespace Go.Proofs.Ytkdlfbggddllhaa
open Go.RowKit
theorem zaE (w:World) (o:Obj):Below w.heap.size w (w.alloc o):=(Below.refl _ _).alloc (Nat.le_refl _) o
end Go.Proofs.Ytkdlfbggddllhaa
