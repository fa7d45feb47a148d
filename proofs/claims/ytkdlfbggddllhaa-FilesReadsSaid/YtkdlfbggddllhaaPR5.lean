/-
  What is proved here: what the program's appendList appends, where there is room: the encodings of the objects; for objects that lie in memory.
-/
import Derived.Test.YtkdlfbggddllhaaRows
import Derived.Test.YtkdlfbggddllhaaPR0
import Derived.Test.YtkdlfbggddllhaaPR4
import Derived.Laws.ResultCell
import Derived.Laws.Rows
import Derived.Test.YtkdlfbggddllhaaPR1
set_option linter.unusedVariables false
set_option linter.unusedSimpArgs false
namespace Go.Proofs.Ytkdlfbggddllhaa
open Go.RowKit
set_option maxRecDepth 8000
def enc : F → List UInt8
 | .nil=>[]
 | .cons t v k r=>tagL t.toNat++lenL (v.length+encN k)++v++enc k++enc r
theorem Out.ge {w : World} {B g k cap : Nat} {l : List UInt8} (h : Out w B g k cap l) : B ≤ g ∧ g < w.heap.size := by
 rcases h.2 with ⟨h1,_⟩ | ⟨g',cap',cur,h1,h2,h3,_⟩
 · cases h1
 · injection h1 with h1 _ _
   injection h1 with h1
   injection h1 with h1
   subst h1
   refine ⟨h2,?_⟩
   rcases Nat.lt_or_ge g w.heap.size with h | h
   · exact h
   · rw [Array.getElem?_eq_none h] at h3;cases h3
theorem zav {a b : World} {g : Nat} (h : a.grownBy b (some g)) {p : Addr} (h1 : p.block < a.heap.size) (h2 : p.block ≠ g) : b.cell? p = a.cell? p :=
 by
 obtain ⟨_,_,_,_,h5⟩:=h
 exact World.cell?_of_block (w:=a) (h5 p.block h1 (by simpa using fun e=>h2 e))
def St (w0 : World) (B g k cap : Nat) (l : List UInt8) (N : Nat) (a b c : Value) (w : World) : Prop :=
 Out w B g k cap l∧w0.grownBy w (some g)∧(N≠g∧N < w.heap.size)∧w.cell? ⟨N,0,none⟩=some a∧w.cell? ⟨N,1,none⟩=some b∧w.cell? ⟨N,2,none⟩=some c
section
variable {w0 w w':World} {B g k k' cap N:Nat} {l l':List UInt8} {a b c:Value}
theorem St.new (ho : Out w B g k cap l) (hg : w0.grownBy w (some g)) (t : TypeId) : St w0 B g k cap l w.heap.size a b c (w.alloc (.cells #[a, b, c] t)) := by
 have hn:=World.news_of_block (w:=w.alloc (.cells #[a,b,c] t)) (heap_alloc_new w (.cells #[a,b,c] t))
 have:=ho.ge
 refine ⟨ho.alloc _,zas hg (zaw w _ (some g)),⟨by omega,by simp⟩,?_,?_,?_⟩
 · exact hn 0 a (by simp)
 · exact hn 1 b (by simp)
 · exact hn 2 c (by simp)
theorem St.puts (h : St w0 B g k cap l N a b c w) (ho : Out w' B g k' cap l') (hg : w.grownBy w' (some g)) : St w0 B g k' cap l' N a b c w' := by
 obtain ⟨h1,h2,h3,h4,h5,h6⟩:=h
 exact ⟨ho,zas h2 hg,⟨h3.1,Nat.lt_of_lt_of_le h3.2 hg.size⟩,(zav hg (p:=⟨N,0,none⟩) h3.2 h3.1).trans h4,(zav hg (p:=⟨N,1,none⟩) h3.2 h3.1).trans h5,(zav hg (p:=⟨N,2,none⟩) h3.2 h3.1).trans h6⟩
theorem St.below (h : St w0 B g k cap l N a b c w) (hb : Below w.heap.size w w') : St w0 B g k cap l N a b c w' :=
 h.puts (own_new h.1 (zaB hb)) (zaB hb)
end
end Go.Proofs.Ytkdlfbggddllhaa
namespace Go.Proofs.Ytkdlfbggddllhaa
open Go.RowKit
theorem zaV {w : World} {b i : Nat} {cs : Array Value} {t : TypeId} (h : w.heap[b]? = some (.cells cs t (0, 0))) (u : Value) : (w.setCell ⟨b, i, none⟩ u).heap[b]? = some (.cells (cs.setIfInBounds i u) t (0, 0)) := by
 have hlt:=lt_of_block h
 have h':w.heap[b]=.cells cs t (0,0):=by simpa [Array.getElem?_eq_getElem hlt] using h
 show (w.heap.modify b _)[b]? = _
 rw [Array.getElem?_eq_getElem (by simpa using hlt),Array.getElem_modify_self,h']
 rfl
end Go.Proofs.Ytkdlfbggddllhaa
namespace Go.Proofs.Ytkdlfbggddllhaa
open Go.RowKit
set_option maxRecDepth 8000
def numL_Hdr (l:List UInt8):Nat:=l.foldl (fun n c=>n*256+c.toNat) 0
end Go.Proofs.Ytkdlfbggddllhaa
namespace Go.Proofs.Ytkdlfbggddllhaa
open Go.RowKit
set_option maxRecDepth 8000
def shortB (f n:Nat):Bool:=if lb n=0 then decide (f≤127) else decide (f=128+lb n)
end Go.Proofs.Ytkdlfbggddllhaa
namespace Go.Proofs.Ytkdlfbggddllhaa
open Go.RowKit
set_option maxRecDepth 8000
def newB (w w':World) (b:Nat):Prop:=w.heap.size≤b∧b < w'.heap.size
end Go.Proofs.Ytkdlfbggddllhaa
