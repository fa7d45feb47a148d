/-
  What is proved here: plain words for regions that draw their order and whose callees lay blocks of their own (the library's class of worlds, in the words of Below). Nothing of the program is used.
-/
import Derived.Test.YtkdlfbggddllhaaPG2
import Derived.Lib.QuietBelow
import Derived.Test.YtkdlfbggddllhaaPG4
import Derived.Test.YtkdlfbggddllhaaPG0
import Derived.Test.YtkdlfbggddllhaaPG1
import Derived.Laws.AppendOwnNone
import Derived.Deep.AppendLies
import Derived.Lib.AppendZerosOnto
import Derived.Test.YtkdlfbggddllhaaRows
import Derived.Test.YtkdlfbggddllhaaPG5
import Derived.BigQuiet
import Derived.Test.YtkdlfbggddllhaaPG6
import Derived.Test.YtkdlfbggddllhaaPG7
import Derived.ProofKit
import Derived.OpenShut
import Derived.ShutString
import Derived.ChangeOld
import Derived.SizedLaws
import Derived.Test.YtkdlfbggddllhaaPG9
import Derived.Test.YtkdlfbggddllhaaPG10
import Derived.Test.YtkdlfbggddllhaaPG12
import Derived.Test.YtkdlfbggddllhaaPG8
import Derived.Lib.Strings
import Derived.Lib.Slices
import Derived.Lib.Small
import Derived.Lib.Walk
import Derived.Lib.BitFns
import Derived.Deep.RegionWith
import Derived.Laws.ResultCell
import Derived.Laws.Rows
import Derived.Deep.CutRange
import Derived.Deep.RegionLaw
set_option linter.unusedVariables false
set_option linter.unusedSimpArgs false
namespace Go.Proofs.Ytkdlfbggddllhaa
open Go.RowKit
theorem zav {w w' : World} (h : ∃ p : Regrown, w' = Go.Sort.grow (redrawn w p.d) p.os) : Below w.heap.size w w' := by
 obtain ⟨p,rfl⟩:=h
 exact below_regrown w p.d p.os
theorem quiet_up {P : Program} {f : FuncId} {args : Array Value} {w : World} {v : Value} (h : ∀ w', Below w.heap.size w w' → Calls P f args w' fun e w'' => e = .returned v ∧ Below w'.heap.size w' w'') (d : Nat) (os : Array Obj) :
 Calls P f args (Go.Sort.grow (redrawn w d) os) fun e w''=>e=.returned v∧∃p:Regrown,w''=Go.Sort.grow (redrawn w p.d) p.os :=
 Calls.regrown_of (h _ (below_regrown w d os))
theorem RowV.quiet {w : World} {g k : Nat} {vs : List Value} {u : Value} (h : RowV w g vs) (hu : vs[k]? = some u) (d : Nat) (os : Array Obj) : (Go.Sort.grow (redrawn w d) os).cell? ⟨g, k, none⟩ = some u :=
 cell_regrown ((h.cell k).trans hu) d os
end Go.Proofs.Ytkdlfbggddllhaa
namespace Go.Proofs.Ytkdlfbggddllhaa
section
open Go.RowKit
end
section
open Go.RowKit
end
section
open Go.RowKit
end
section
open Go.RowKit
end
section
open Go.RowKit
end
section
open Go.RowKit
end
section
open Go.RowKit
section
variable {w0 w w':World} {B g k k' cap N:Nat} {l l':List UInt8} {a b c:Value}
end
end
section
open Go.RowKit
end
section
open Go.RowKit
end
section
open Go.RowKit
end
section
open Go.RowKit
end
section
open Go.RowKit
end
section
open Go.RowKit
end
section
open Go.RowKit
end
section
open Go.RowKit
end
section
open Go.RowKit
theorem made_roll_Bb (A : Option Addr) (c : Nat) (ls : List Int) (w : World) (hl : ls.length ≤ 140737488351232) (hr : ∀ x ∈ ls, -9223372036854775808 ≤ x ∧ x ≤ 9223372036854775807) (hs : SeesP w (· < w.heap.size) A (ls.map (Value.int .i64))) :
 Calls Try.prog 11 #[.slice A ls.length c] w fun e w'=>e=.returned (.pointer (some ⟨w.heap.size,0,none⟩))∧DiceOk w' w.heap.size∧Below w.heap.size w w':=by
 have hd : DiceOk (w.alloc (.cells #[.slice A ls.length c, .int .i64 0] 68)) w.heap.size :=
  ⟨A,c,0,ls,heap_alloc_new w _,Nat.zero_le _,hl,hr,hs.keep fun q hq=>World.cell?_alloc_lt w _ q hq⟩
 have HD:=Lib.hid hd
 clear hd hs hr
 go_enter Try.func11,Try.ntmps11
 go_wp2
 go_ret
 exact ⟨rfl,HD.out,(Below.refl _ _).alloc (Nat.le_refl _) _⟩
end
section
open Go.ChangeShapes Go.WideShapes Go.ChangeAt Go.RowKit
variable {H:Type} {enc:TypeId×Value→H} {W:World}
end
section
open Go.ChangeShapes Go.WideShapes Go.ChangeAt Go.RowKit
variable {H:Type} {enc:TypeId×Value→H} {W:World}
end
section
open Go.ChangeShapes Go.WideShapes Go.ChangeAt Go.RowKit
variable {H:Type} {enc:TypeId×Value→H} {W:World}
end
section
open Go.RowKit
end
section
open Go.RowKit
end
section
open Go.RowKit
end
section
open Go.RowKit
end
section
open Go.RowKit
end
section
open Go.RowKit
end
end Go.Proofs.Ytkdlfbggddllhaa
namespace Go.Proofs.Ytkdlfbggddllhaa
open Go.RowKit
structure Tm where
 k:Int
 p:Int
 f:Int
 t:Int
 fo:Int
 q:Int
 d:List UInt8
instance:Inhabited Tm:=⟨⟨0,0,0,0,0,0,[]⟩⟩
def Tm.cs (x:Tm) (A:Option Addr) (c:Nat):List Value:=[.int .i64 x.k,.int .i64 x.p,.int .i64 x.f,.int .i64 x.t,.int .i64 x.fo,.int .i64 x.q,.slice A x.d.length c]
theorem Tm.cs_len (x:Tm) (A:Option Addr) (c:Nat):(x.cs A c).length=7:=rfl
def TmIn (w : World) (p : Nat → Prop) (vs : List Value) (k : Nat) (x : Tm) : Prop :=
 ∃A c,((A=none→c=0)∧x.d.length≤c)∧SeesP w p A (Us x.d)∧∀j,j < 7→vs[k*7+j]? = (x.cs A c)[j]?
def TmsIn (w:World) (p:Nat→Prop) (vs:List Value) (l:List Tm):Prop:=vs.length=7*l.length∧∀(k:Nat) (x:Tm),l[k]? = some x→TmIn w p vs k x
def SeesT (w:World) (p:Nat→Prop) (A:Option Addr) (l:List Tm):Prop:=∃vs,SeesP w p A vs∧TmsIn w p vs l
section
variable {w w':World} {p p':Nat→Prop} {A:Option Addr} {vs:List Value} {l:List Tm} {k:Nat} {x:Tm}
theorem TmIn.keep (h : TmIn w p vs k x) (hk : ∀ q : Addr, p q.block → w'.cell? q = w.cell? q) : TmIn w' p vs k x := by
 obtain ⟨A,c,h0,h1,h2⟩:=h
 exact ⟨A,c,h0,h1.keep hk,h2⟩
theorem TmIn.imp (h : TmIn w p vs k x) (hp : ∀ b, p b → p' b) : TmIn w p' vs k x := by
 obtain ⟨A,c,h0,h1,h2⟩:=h
 exact ⟨A,c,h0,h1.imp hp,h2⟩
theorem TmsIn.keep (h:TmsIn w p vs l) (hk:∀q:Addr,p q.block→w'.cell? q=w.cell? q):TmsIn w' p vs l:=⟨h.1,fun k x hx=>(h.2 k x hx).keep hk⟩
theorem TmsIn.imp (h:TmsIn w p vs l) (hp:∀b,p b→p' b):TmsIn w p' vs l:=⟨h.1,fun k x hx=>(h.2 k x hx).imp hp⟩
theorem SeesT.keep (h : SeesT w p A l) (hk : ∀ q : Addr, p q.block → w'.cell? q = w.cell? q) : SeesT w' p A l := by
 obtain ⟨cs,h1,h2⟩:=h
 exact ⟨cs,h1.keep hk,h2.keep hk⟩
theorem SeesT.imp (h : SeesT w p A l) (hp : ∀ b, p b → p' b) : SeesT w p' A l := by
 obtain ⟨cs,h1,h2⟩:=h
 exact ⟨cs,h1.imp hp,h2.imp hp⟩
theorem SeesT.on (h : SeesT w (· < w.heap.size) A l) (hb : Below w.heap.size w w') : SeesT w' (· < w'.heap.size) A l :=
 (h.keep fun _ hq=>hb.cell hq).imp fun _ hb2=>Nat.lt_of_lt_of_le hb2 hb.size
theorem SeesT.nil_:SeesT w p A []:=⟨[],.inl rfl,rfl,fun k x h=>by simp at h⟩
theorem TmsIn.nil_:TmsIn w p [] []:=⟨rfl,fun k x h=>by simp at h⟩
end
end Go.Proofs.Ytkdlfbggddllhaa
namespace Go.Proofs.Ytkdlfbggddllhaa
open Go.RowKit
theorem zay (w:World) (o:Obj):Below w.heap.size w (w.alloc o):=(Below.refl _ _).alloc (Nat.le_refl _) o
end Go.Proofs.Ytkdlfbggddllhaa
