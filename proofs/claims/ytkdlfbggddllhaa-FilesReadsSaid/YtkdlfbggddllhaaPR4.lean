/-
  What is proved here: appends onto nil and onto a row of the call's own, with bytes that lie in memory or none; what a function that makes bytes answers. Nothing of the program is used.
-/
import Derived.Test.YtkdlfbggddllhaaPR0
import Derived.Test.YtkdlfbggddllhaaPR1
import Derived.Laws.AppendOwnNone
import Derived.Deep.AppendLies
import Derived.Test.YtkdlfbggddllhaaRows
import Derived.Laws.BitsAllLaws
import Derived.Test.YtkdlfbggddllhaaProg
import Derived.Lib.Strings
import Derived.Lib.Slices
import Derived.Lib.Small
import Derived.Lib.Walk
import Derived.Lib.BitFns
import Derived.Deep.RegionWith
set_option linter.unusedVariables false
set_option linter.unusedSimpArgs false
namespace Go.Proofs.Ytkdlfbggddllhaa
open Go.RowKit
theorem app_bytes {P : Program} {w : World} {ops : Array Oper} {rest : List Oper} {o : Oper} {a : Act} {Q : Exit → Act → World → Prop} (hgd : o.guard = none) (s x : Operand) (t : TypeId)
 (ho:o.op=.call { callee:=.builtin .append,args:=#[s,x],argTypes:=#[t,t] })
 (base:Nat) (e:TypeId) (i:TypeInfo) (z:Value) (ht:P.underlying t=some (.slice e)) (hi:P.info? e=some i) (hz:i.zero=some z)
 (hsize:i.size=1) (hby:i.bytes=1) (hzs:z.cells.size=1)
 (v:Value) (n:Nat) (xs:List Value) (hs:a.eval s=v) (hown:w.ownsRow base e 1 v n xs)
 (A:Option Addr) (c:Nat) (cb:List UInt8) (p:Nat→Prop) (hx:a.eval x=.slice A cb.length c) (hn:A=none→c=0) (hc:SeesP w p A (Us cb))
 (h63:n+cb.length≤maxLen) (hbytes:n+cb.length≤140737488355328) (hbase:base≤w.heap.size)
 (h:∀v' w',w'.ownsRow base e 1 v' (n+cb.length) (xs++Us cb)→w.grownBy w' v.ownBlock→wpList P ops Q rest (a.put o.dst v') w'):wpList P ops Q (o::rest) a w:=by
 cases A with
 | none =>
   have h1:cb=[]:=by have:=congrArg List.length hc.none_nil;rw [zam] at this;exact List.eq_nil_of_length_eq_zero this
   have h2:=hn rfl
   subst h1 h2
   exact wpList_append_own_none hgd s x t ho base e i 1 ht hi v n xs hs hown hx (h v w (by simpa [Us] using hown) (World.grownBy.refl _ _))
 | some ad =>
   exact wpList_append_own w hgd s x t ho base e i z 1 1 ht hi hz hsize hby hzs (by decide) v n xs hs hown ad cb.length c (Us cb) hx (by rw [zam];omega) (hc.src ad rfl) (Us_one _) h63 (by omega) hbase fun v' w' h1 h2 _=>h v' w' h1 h2
theorem own_len {w : World} {base n : Nat} {e : TypeId} {v : Value} {xs : List Value} (h : w.ownsRow base e 1 v n xs) : ∃ A c, v = .slice A n c := by
 rcases h.2 with ⟨rfl,rfl⟩ | ⟨g,cap,cur,rfl,_⟩
 · exact ⟨none,0,rfl⟩
 · exact ⟨_,cap,rfl⟩
theorem zaY {w a b : World} {t : TypeId} {s : Nat} {v : Value} {n : Nat} {xs : List Value} (h : Below w.heap.size w a) (ho : a.ownsRow w.heap.size t s v n xs) (hg : a.grownBy b v.ownBlock) : Below w.heap.size w b :=
 h.grown hg h.size (fun k e=>(ho.lt k e).1)
end Go.Proofs.Ytkdlfbggddllhaa
namespace Go.Proofs.Ytkdlfbggddllhaa
open Go.RowKit
theorem info_u8b:(Try.prog.info? 5).map (fun i=>(i.zero,i.size,i.bytes))=some (some (.int .u8 0),1,1):=by kernel_rfl
def Out (w:World) (B g k cap:Nat) (l:List UInt8):Prop:=w.ownsRow B 5 1 (.slice (some ⟨g,0,none⟩) k cap) k (Us l)
theorem one_cell1 (z : Int) : ∀ u ∈ [Value.int .u8 z], u.oneCell' = true := by
 intro u hu
 simp only [List.mem_singleton] at hu
 subst hu
 rfl
theorem zas {a b c : World} {g : Nat} (h : a.grownBy b (some g)) (k : b.grownBy c (some g)) : a.grownBy c (some g) := by
 obtain ⟨h1,h2,h3,h4,h5⟩:=h
 obtain ⟨k1,k2,k3,k4,k5⟩:=k
 exact ⟨k1.trans h1,k2.trans h2,k3.trans h3,Nat.le_trans h4 k4,fun i hi hn=>(k5 i (Nat.lt_of_lt_of_le hi h4) hn).trans (h5 i hi hn)⟩
theorem zaB {a b : World} {row : Option Nat} (h : Below a.heap.size a b) : a.grownBy b row :=
 ⟨h.os,h.tape,h.output,h.size,fun i hi _=>h.block i hi⟩
theorem zaw (a:World) (o:Obj) (row:Option Nat):a.grownBy (a.alloc o) row:=zaB ((Below.refl _ _).alloc (Nat.le_refl _) o)
end Go.Proofs.Ytkdlfbggddllhaa
namespace Go.Proofs.Ytkdlfbggddllhaa
open Go.RowKit
set_option maxRecDepth 8000
def validB (t:Int):Bool:=if t≤255 then decide (0 < t) && decide (t % 32≠31) else decide (t / 256≤255) && decide (t / 256 % 32=31) && decide (1≤t % 256) && decide (t % 256≤127)
def firstB (t:Int):Int:=if t≤255 then t else t / 256
def consB (t:Int):Bool:=validB t && decide (firstB t / 32 % 2=1)
end Go.Proofs.Ytkdlfbggddllhaa
namespace Go.Proofs.Ytkdlfbggddllhaa
open Go.RowKit
set_option maxRecDepth 8000
def lb (n:Nat):Nat:=if n≤127 then 0 else (Lib.bitLen n+7) / 8
end Go.Proofs.Ytkdlfbggddllhaa
namespace Go.Proofs.Ytkdlfbggddllhaa
open Go.RowKit
set_option maxRecDepth 8000
def F.ok : F → Prop
 | .nil=>True
 | .cons t v k r=>(-9223372036854775808≤t∧t≤9223372036854775807)∧v.length≤140737488351232∧k.ok∧r.ok
end Go.Proofs.Ytkdlfbggddllhaa
namespace Go.Proofs.Ytkdlfbggddllhaa
open Go.RowKit
set_option maxRecDepth 8000
def tagN (t:Int):Nat:=if 255 < t then 2 else 1
def encN : F → Nat
 | .nil=>0
 | .cons t v k r=>(tagN t+1+lb (v.length+encN k)+(v.length+encN k))+encN r
end Go.Proofs.Ytkdlfbggddllhaa
namespace Go.Proofs.Ytkdlfbggddllhaa
open Go.RowKit
def tagL (t:Nat):List UInt8:=if 255 < t then [UInt8.ofNat (t / 256),UInt8.ofNat t] else [UInt8.ofNat t]
def lenD (n s k:Nat):List UInt8:=(List.range k).map fun i=>UInt8.ofNat (n / 256 ^ (s - 1 - i))
def lenL (n:Nat):List UInt8:=if n≤127 then [UInt8.ofNat n] else UInt8.ofNat (128+lb n)::lenD n (lb n) (lb n)
end Go.Proofs.Ytkdlfbggddllhaa
