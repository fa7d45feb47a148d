/-
  What is proved here: plain words for a row of bytes that a call appends to; nothing of the program is used but its table of types.
-/
import Derived.Test.YtkdlfbggddllhaaRows
import Derived.Test.YtkdlfbggddllhaaPG0
import Derived.Laws.BitsAllLaws
import Derived.Test.YtkdlfbggddllhaaProg
import Derived.Lib.Strings
import Derived.Lib.Slices
import Derived.Lib.Small
import Derived.Lib.Walk
import Derived.Lib.BitFns
import Derived.Test.YtkdlfbggddllhaaPG1
import Derived.Deep.RegionWith
import Derived.Laws.ResultCell
import Derived.Laws.Rows
set_option linter.unusedVariables false
set_option linter.unusedSimpArgs false
namespace Go.Proofs.Ytkdlfbggddllhaa
open Go.RowKit
theorem info_u8b:(Try.prog.info? 5).map (fun i=>(i.zero,i.size,i.bytes))=some (some (.int .u8 0),1,1):=by kernel_rfl
def Out (w:World) (B g k cap:Nat) (l:List UInt8):Prop:=w.ownsRow B 5 1 (.slice (some ⟨g,0,none⟩) k cap) k (Us l)
theorem zaC {a b c : World} {g : Nat} (h : a.grownBy b (some g)) (k : b.grownBy c (some g)) : a.grownBy c (some g) := by
 obtain ⟨h1,h2,h3,h4,h5⟩:=h
 obtain ⟨k1,k2,k3,k4,k5⟩:=k
 exact ⟨k1.trans h1,k2.trans h2,k3.trans h3,Nat.le_trans h4 k4,fun i hi hn=>(k5 i (Nat.lt_of_lt_of_le hi h4) hn).trans (h5 i hi hn)⟩
theorem zaI {a b : World} {row : Option Nat} (h : Below a.heap.size a b) : a.grownBy b row :=
 ⟨h.os,h.tape,h.output,h.size,fun i hi _=>h.block i hi⟩
theorem zaG (a:World) (o:Obj) (row:Option Nat):a.grownBy (a.alloc o) row:=zaI ((Below.refl _ _).alloc (Nat.le_refl _) o)
end Go.Proofs.Ytkdlfbggddllhaa
namespace Go.Proofs.Ytkdlfbggddllhaa
open Go.RowKit
set_option maxRecDepth 8000
def validB (t:Int):Bool:=if t≤255 then decide (0 < t) && decide (t % 32≠31) else decide (t / 256≤255) && decide (t / 256 % 32=31) && decide (1≤t % 256) && decide (t % 256≤127)
def firstB (t:Int):Int:=if t≤255 then t else t / 256
def consB (t:Int):Bool:=validB t && decide (firstB t / 32 % 2=1)
end Go.Proofs.Ytkdlfbggddllhaa
namespace Go.Proofs.Ytkdlfbggddllhaa
open Go.RowKit
set_option maxRecDepth 8000
def lb (n:Nat):Nat:=if n≤127 then 0 else (Lib.bitLen n+7) / 8
end Go.Proofs.Ytkdlfbggddllhaa
namespace Go.Proofs.Ytkdlfbggddllhaa
open Go.RowKit
set_option maxRecDepth 8000
def F.ok : F → Prop
 | .nil=>True
 | .cons t v k r=>(-9223372036854775808≤t∧t≤9223372036854775807)∧v.length≤140737488351232∧k.ok∧r.ok
end Go.Proofs.Ytkdlfbggddllhaa
namespace Go.Proofs.Ytkdlfbggddllhaa
open Go.RowKit
set_option maxRecDepth 8000
def tagN (t:Int):Nat:=if 255 < t then 2 else 1
def encN : F → Nat
 | .nil=>0
 | .cons t v k r=>(tagN t+1+lb (v.length+encN k)+(v.length+encN k))+encN r
end Go.Proofs.Ytkdlfbggddllhaa
namespace Go.Proofs.Ytkdlfbggddllhaa
open Go.RowKit
def tagL (t:Nat):List UInt8:=if 255 < t then [UInt8.ofNat (t / 256),UInt8.ofNat t] else [UInt8.ofNat t]
def lenD (n s k:Nat):List UInt8:=(List.range k).map fun i=>UInt8.ofNat (n / 256 ^ (s - 1 - i))
def lenL (n:Nat):List UInt8:=if n≤127 then [UInt8.ofNat n] else UInt8.ofNat (128+lb n)::lenD n (lb n) (lb n)
end Go.Proofs.Ytkdlfbggddllhaa
namespace Go.Proofs.Ytkdlfbggddllhaa
open Go.RowKit
set_option maxRecDepth 8000
def enc : F → List UInt8
 | .nil=>[]
 | .cons t v k r=>tagL t.toNat++lenL (v.length+encN k)++v++enc k++enc r
theorem Out.ge {w : World} {B g k cap : Nat} {l : List UInt8} (h : Out w B g k cap l) : B ≤ g ∧ g < w.heap.size := by
 rcases h.2 with ⟨h1,_⟩ | ⟨g',cap',cur,h1,h2,h3,_⟩
 · cases h1
 · injection h1 with h1 _ _
   injection h1 with h1
   injection h1 with h1
   subst h1
   refine ⟨h2,?_⟩
   rcases Nat.lt_or_ge g w.heap.size with h | h
   · exact h
   · rw [Array.getElem?_eq_none h] at h3;cases h3
theorem zaz {a b : World} {g : Nat} (h : a.grownBy b (some g)) {p : Addr} (h1 : p.block < a.heap.size) (h2 : p.block ≠ g) : b.cell? p = a.cell? p :=
 by
 obtain ⟨_,_,_,_,h5⟩:=h
 exact World.cell?_of_block (w:=a) (h5 p.block h1 (by simpa using fun e=>h2 e))
def St (w0 : World) (B g k cap : Nat) (l : List UInt8) (N : Nat) (a b c : Value) (w : World) : Prop :=
 Out w B g k cap l∧w0.grownBy w (some g)∧(N≠g∧N < w.heap.size)∧w.cell? ⟨N,0,none⟩=some a∧w.cell? ⟨N,1,none⟩=some b∧w.cell? ⟨N,2,none⟩=some c
section
variable {w0 w w':World} {B g k k' cap N:Nat} {l l':List UInt8} {a b c:Value}
theorem St.new (ho : Out w B g k cap l) (hg : w0.grownBy w (some g)) (t : TypeId) : St w0 B g k cap l w.heap.size a b c (w.alloc (.cells #[a, b, c] t)) := by
 have hn:=World.news_of_block (w:=w.alloc (.cells #[a,b,c] t)) (heap_alloc_new w (.cells #[a,b,c] t))
 have:=ho.ge
 refine ⟨ho.alloc _,zaC hg (zaG w _ (some g)),⟨by omega,by simp⟩,?_,?_,?_⟩
 · exact hn 0 a (by simp)
 · exact hn 1 b (by simp)
 · exact hn 2 c (by simp)
theorem St.puts (h : St w0 B g k cap l N a b c w) (ho : Out w' B g k' cap l') (hg : w.grownBy w' (some g)) : St w0 B g k' cap l' N a b c w' := by
 obtain ⟨h1,h2,h3,h4,h5,h6⟩:=h
 exact ⟨ho,zaC h2 hg,⟨h3.1,Nat.lt_of_lt_of_le h3.2 hg.size⟩,(zaz hg (p:=⟨N,0,none⟩) h3.2 h3.1).trans h4,(zaz hg (p:=⟨N,1,none⟩) h3.2 h3.1).trans h5,(zaz hg (p:=⟨N,2,none⟩) h3.2 h3.1).trans h6⟩
theorem St.below (h : St w0 B g k cap l N a b c w) (hb : Below w.heap.size w w') : St w0 B g k cap l N a b c w' :=
 h.puts (own_new h.1 (zaI hb)) (zaI hb)
end
end Go.Proofs.Ytkdlfbggddllhaa
namespace Go.Proofs.Ytkdlfbggddllhaa
open Go.RowKit
theorem zaM {w : World} {b i : Nat} {cs : Array Value} {t : TypeId} (h : w.heap[b]? = some (.cells cs t (0, 0))) (u : Value) : (w.setCell ⟨b, i, none⟩ u).heap[b]? = some (.cells (cs.setIfInBounds i u) t (0, 0)) := by
 have hlt:=lt_of_block h
 have h':w.heap[b]=.cells cs t (0,0):=by simpa [Array.getElem?_eq_getElem hlt] using h
 show (w.heap.modify b _)[b]? = _
 rw [Array.getElem?_eq_getElem (by simpa using hlt),Array.getElem_modify_self,h']
 rfl
end Go.Proofs.Ytkdlfbggddllhaa
namespace Go.Proofs.Ytkdlfbggddllhaa
open Go.RowKit
set_option maxRecDepth 8000
def numL_Hdr (l:List UInt8):Nat:=l.foldl (fun n c=>n*256+c.toNat) 0
end Go.Proofs.Ytkdlfbggddllhaa
namespace Go.Proofs.Ytkdlfbggddllhaa
open Go.RowKit
set_option maxRecDepth 8000
def shortB (f n:Nat):Bool:=if lb n=0 then decide (f≤127) else decide (f=128+lb n)
end Go.Proofs.Ytkdlfbggddllhaa
namespace Go.Proofs.Ytkdlfbggddllhaa
open Go.RowKit
set_option maxRecDepth 8000
def newB (w w':World) (b:Nat):Prop:=w.heap.size≤b∧b < w'.heap.size
end Go.Proofs.Ytkdlfbggddllhaa
