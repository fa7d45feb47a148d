/-
  What is proved here: what the makers' Bytes and Nodes give: bytes, and objects that can be encoded.
-/
import Derived.Test.YtkdlfbggddllhaaRows
import Derived.Test.YtkdlfbggddllhaaPG0
import Derived.Test.YtkdlfbggddllhaaPG6
import Derived.Test.YtkdlfbggddllhaaPG4
import Derived.ProofKit
import Derived.OpenShut
import Derived.ShutString
import Derived.ChangeOld
import Derived.SizedLaws
import Derived.Test.YtkdlfbggddllhaaPG1
set_option linter.unusedVariables false
set_option linter.unusedSimpArgs false
namespace Go.Proofs.Ytkdlfbggddllhaa
open Go.RowKit
set_option maxRecDepth 8000
def F.gd : F → Nat → Prop
 | .nil,_=>True
 | .cons t v k r,m=>1≤m∧validB t=true∧(consB t=true→v=[])∧(consB t=false→k=.nil)∧v.length≤300∧k.len≤3∧k.gd (m - 1)∧r.gd m
theorem grown_row {w a b : World} {D : Nat} {row : Option Nat} (h : w.grownBy a (some D)) (hg : a.grownBy b row) (hr : ∀ g, row = some g → w.heap.size ≤ g) : w.grownBy b (some D) := by
 refine ⟨hg.os.trans h.os,hg.tape.trans h.tape,hg.output.trans h.output,Nat.le_trans h.size hg.size,fun k hk hk2=>?_⟩
 refine (hg.block k (Nat.lt_of_lt_of_le hk h.size) ?_).trans (h.block k hk hk2)
 intro e
 have:=hr k e.symm
 omega
end Go.Proofs.Ytkdlfbggddllhaa
namespace Go.Proofs.Ytkdlfbggddllhaa
open Go.RowKit
theorem below_row {w a b : World} (h : Below w.heap.size w a) (hg : a.grownBy b (some w.heap.size)) : Below w.heap.size w b :=
 h.grown hg h.size (fun k e=>by injection e with e;omega)
theorem made_light (A : Option Addr) (n c : Nat) (w : World) (hn : n ≤ 140737488351232) :
 Calls Try.prog 9 #[.slice A n c] w fun e w'=>e=.returned (.bool (decide (n≤400)))∧w'=w:=by
 by_cases h:n≤400
 · have d : decide ((n : Int) ≤ 400) = true := by simp; omega
   rw [decide_eq_true h]
   clear h
   go_enter Try.func9,Try.ntmps9
   go_wp2
   go_ret
   exact ⟨rfl,rfl⟩
 · have d : decide ((n : Int) ≤ 400) = false := by simp; omega
   rw [decide_eq_false h]
   clear h
   go_enter Try.func9,Try.ntmps9
   go_wp2
   go_ret
   exact ⟨rfl,rfl⟩
end Go.Proofs.Ytkdlfbggddllhaa
namespace Go.Proofs.Ytkdlfbggddllhaa
open Go.ChangeShapes Go.WideShapes Go.ChangeAt Go.RowKit
theorem own:ownKnob Try.prog.godebug=none:=by kernel_rfl
theorem laidOut:laidOutB Try.prog=true:=by kernel_rfl
variable {H:Type} {enc:TypeId×Value→H} {W:World}
end Go.Proofs.Ytkdlfbggddllhaa
namespace Go.Proofs.Ytkdlfbggddllhaa
open Go.ChangeShapes Go.WideShapes Go.ChangeAt Go.RowKit
theorem cells_int:Try.prog.cellsOf 3=1:=by kernel_rfl
theorem bytes_int:Try.prog.bytesOf 3=8:=by kernel_rfl
variable {H:Type} {enc:TypeId×Value→H} {W:World}
theorem open_i64s {A : Option Addr} {len cap : Nat} {d : DataW H} {p : List MemPlace} (hf : DataW.Trod enc Try.prog W 0 (fun _ => true) true 34 (.slice A len cap) d p)
 (lt:∀q∈p,q.block < W.heap.size) :
 ∃x:List Int,len=x.length∧SeesP W (· < W.heap.size) A (x.map (Value.int .i64))∧(∀y∈x,-9223372036854775808≤y∧y≤9223372036854775807)∧len≤cap∧(cap=0∨∃es sp,d=.slice es sp∧es.length+sp.length=cap):=by
 obtain ⟨fuel,hf⟩:=hf
 rcases open_ints Try.underlying34 Try.underlying3 cells_int hf with ⟨hcs,_⟩ | ⟨a,l,c,zs,hcs,_,hl,hm,hz,hx,hcell,hwz⟩
 · simp [Value.cells] at hcs
   obtain ⟨rfl,rfl,rfl⟩:=hcs
   exact ⟨[],rfl,.inl rfl,by simp,Nat.le_refl _,.inl rfl⟩
 · simp [Value.cells] at hcs
   obtain ⟨rfl,rfl,rfl⟩:=hcs
   simp only [Prod.mk.injEq] at hx
   obtain ⟨rfl,rfl⟩:=hx
   simp only [if_true] at hz
   refine ⟨zs.take len,by simp;omega,?_,?_,hl,.inr ⟨_,_,rfl,by simp [lits];omega⟩⟩
   · rcases Nat.eq_zero_or_pos len with h0 | h0
     · subst h0;exact .inl (by simp)
     · obtain ⟨b, off, spot⟩ := a
       have hspot:spot=none:=by simpa [Addr.add] using World.cell?_spot (hcell 0 (by omega))
       subst hspot
       have hb:b < W.heap.size:=lt (.cell b off) (MemPlace.mem_row.2 ⟨0,by omega,by simp⟩)
       refine .inr ⟨b,off,rfl,hb,fun j hj=>?_⟩
       have hj':j < len:=by simp at hj;omega
       have hjz:j < zs.length:=by omega
       have hadd:(⟨b,off,none⟩ : Addr).add j=⟨b,off+j,none⟩:=by unfold Addr.add;split <;> simp_all
       rw [←hadd,hcell j hjz]
       have hg:zs.getD j 0=zs[j]:=by simp [List.getD,hjz]
       rw [hg]
       simp [hj',hjz]
   · intro y hy
     have:=hwz y (List.mem_of_mem_take hy)
     simpa [Lit.wf,IntKind.min,IntKind.max,IntKind.signed,IntKind.bits] using this
theorem reach_i64s {ts : List TypeId} {ds : List (DataW H)} (h : (DataW.weightsEach Try.prog ts ds).all (· ≤ reachBytes) = true) {j : Nat} {d : DataW H} (ht : ts[j]? = some 34) (hd : ds[j]? = some d)
 {len cap:Nat} (hl:len≤cap) (hc:cap=0∨∃es sp,d=.slice es sp∧es.length+sp.length=cap):len≤140737488351232:=by
 rcases hc with rfl | ⟨es,sp,rfl,rfl⟩
 · omega
 · have := sized_slice h ht hd Try.underlying34
   rw [bytes_int] at this
   simp only [reachBytes] at this
   omega
end Go.Proofs.Ytkdlfbggddllhaa
