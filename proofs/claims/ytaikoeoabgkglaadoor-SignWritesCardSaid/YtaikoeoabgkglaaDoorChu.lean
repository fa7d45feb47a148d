/-
  What is proved here: the library's iterator over pieces of 64 bytes, at a slice whose length is a multiple of 64.
-/
import Derived.RangeFuncNested
import Derived.RangeFuncBound
import Derived.RangeFuncCalls
import Derived.RangeFuncLeaves
import Derived.Shelf.Abstract
import Derived.Shelf.RegionOpen
import Derived.WalkKit
import Derived.OwnWalkIn
import Derived.TacticsInMore
import Derived.LoopNIn
import Derived.LoopIn
import Derived.Test.YtaikoeoabgkglaaDoorKit
import Derived.Test.YtaikoeoabgkglaaDoorRows
namespace Go.Proofs.YtaikoeoabgkglaaDoor
open Go.RowKit Go.Shelf
set_option linter.unusedVariables false
attribute [local go_sem] Oper.semAt_some

/-- Chunk's closure holds the slice and the size in two cells. -/
theorem chunk_any (A : Option Addr) (len cap : Nat) (w : World) :
    Calls Tryd.prog 50 #[.slice A len cap, .int .i64 64] w fun e w' => e = .returned (.func (.func 57) #[] #[.pointer (some ⟨w.heap.size, 0, none⟩), .pointer (some ⟨w.heap.size + 1, 0, none⟩)]) ∧ w' = (w.alloc (.cells #[.slice A len cap] 22)).alloc (.cells #[.int .i64 64] 3) := by
  go_enter Tryd.func50, Tryd.ntmps50
  go_wp2
  go_ret
  exact ⟨rfl, rfl⟩

/-- the numbers of the first k pieces -/
def upF (m k : Nat) : List (_root_.Fin m) := (List.finRange m).take k
theorem upF_length {m k : Nat} (h : k ≤ m) : (upF m k).length = k := by simp [upF]; omega
theorem upF_succ {m k : Nat} (h : k < m) : upF m (k + 1) = upF m k ++ [⟨k, h⟩] := by
  unfold upF
  rw [List.take_succ_eq_append_getElem (by simpa using h)]
  simp
/-- what a round keeps of the iterator's own cells -/
def KpC (Bs Bn : Nat) (X Y : World) : Prop := Y.heap[Bs]? = X.heap[Bs]? ∧ Y.heap[Bn]? = X.heap[Bn]?
theorem KpC.trans {Bs Bn : Nat} {X Y Z : World} (h : KpC Bs Bn X Y) (k : KpC Bs Bn Y Z) : KpC Bs Bn X Z := ⟨k.1.trans h.1, k.2.trans h.2⟩
theorem KpC.cell {Bs Bn : Nat} {X Y : World} (h : KpC Bs Bn X Y) : Y.cell? ⟨Bs, 0, none⟩ = X.cell? ⟨Bs, 0, none⟩ ∧ Y.cell? ⟨Bn, 0, none⟩ = X.cell? ⟨Bn, 0, none⟩ :=
  ⟨World.cell?_of_block (w := X) h.1, World.cell?_of_block (w := X) h.2⟩

set_option maxRecDepth 100000 in
set_option maxHeartbeats 2000000 in
theorem chunk1_in (F : Fence) (n : Nat) (hf : F.fn 57) (hro : F.round = none) (hn : 1 ≤ n) (l Bs Bn b off m cap : Nat) (hcap : 64 * m ≤ cap) (hreach : 64 * m ≤ 281474976710656) (J Jx : List (_root_.Fin m) → World → Prop) (hJd : ∀ pre X, J pre X → J pre X.drew)
    (hY : ∀ pre x W, J pre W → pre.length < m → YieldAt F (n - 1) Tryd.prog l #[.slice (some ⟨b, off + 64 * x.val, none⟩) 64 64] W fun e W' =>
      (e = .returned (.bool true) ∧ J (pre ++ [x]) W' ∧ KpC Bs Bn W W') ∨ (e = .returned (.bool false) ∧ Jx (pre ++ [x]) W'))
    (W : World) (hBs : W.cell? ⟨Bs, 0, none⟩ = some (.slice (some ⟨b, off, none⟩) (64 * m) cap)) (hBn : W.cell? ⟨Bn, 0, none⟩ = some (.int .i64 64)) (h0 : J [] W) :
    CallsIn F n Tryd.prog 57 #[.func (.yield l) #[] #[], .pointer (some ⟨Bs, 0, none⟩), .pointer (some ⟨Bn, 0, none⟩)] W fun e W' => (∃ v, e = .returned v) ∧
      ((∃ ys, ys = List.finRange m ∧ J ys W') ∨ (∃ pre, True ∧ Jx pre W')) := by
  refine callsIn_of_wp Tryd.func57 rfl hf ?_ hro
  simp only [Tryd.ntmps57, List.size_toArray, List.length_cons, List.length_nil, Nat.reduceAdd, Nat.reduceSub, Array.replicate_succ, Array.replicate_zero, List.push_toArray, List.append_toArray, List.nil_append, List.cons_append]
  gi_wp2
  gi_loopw [4] (fun i wr => ∃ k : Nat, k ≤ m ∧ i = .int .i64 (64 * (k : Int)) ∧ J (upF m k) wr ∧ wr.cell? ⟨Bs, 0, none⟩ = some (.slice (some ⟨b, off, none⟩) (64 * m) cap) ∧ wr.cell? ⟨Bn, 0, none⟩ = some (.int .i64 64))
    (fun i _ => (64 * (m : Int) - intOf i).toNat)
  case atStart => exact ⟨0, Nat.zero_le _, rfl, h0, hBs, hBn⟩
  case round =>
    obtain ⟨k, hk, rfl, hJs, c1, c2⟩ := hrel
    by_cases hlt : k < m
    · have d1 : (64 : Int) ≤ ((64 * m - 64 * k : Nat) : Int) := by omega
      have d2 : ¬ (((64 * m - 64 * k : Nat) : Int) < 64) := by omega
      have d3 : ¬ cap = 64 * k := by omega
      gi_wp2
      gi_region
      all_goals
        have hJ2 := hJd _ _ hJs
        have c3 : wr.drew.cell? ⟨Bs, 0, none⟩ = some (.slice (some ⟨b, off, none⟩) (64 * m) cap) := c1
        have c4 : wr.drew.cell? ⟨Bn, 0, none⟩ = some (.int .i64 64) := c2
        clear c1 c2 hJs d1
        generalize wr.drew = w2 at *
        obtain ⟨fn, tmps, assign, body, hy, hR⟩ := hY _ ⟨k, hlt⟩ w2 hJ2 (by rw [upF_length hk]; exact hlt)
        dsimp only at hy
        have d4 : IntKind.i64.wrap (64 * (k : Int) + 64) = 64 * (k : Int) + 64 := by rw [IntKind.wrap_i64]; omega
        gi_wp2
        refine hR.mono ?_
        rintro e W3 (⟨rfl, hJ3, hk3⟩ | ⟨rfl, hJx3⟩)
        · have c5 := hk3.cell.1.trans c3
          have c6 := hk3.cell.2.trans c4
          clear hR hy hY c3 c4 d2 d3
          gi_wp2
          go_roundw
          case rel => exact ⟨k + 1, by omega, by go_num, by rw [upF_succ hlt]; exact hJ3, c5, c6⟩
          case measure => simp [intOf]; omega
        · clear hR hy hY c3 c4 d2 d3
          gi_wp2
          refine bodyPost_ret (results_none rfl _ _ _) rfl ?_
          exact ⟨⟨_, rfl⟩, .inr ⟨_, trivial, hJx3⟩⟩
    · obtain rfl : k = m := by omega
      gi_wp2
      go_end0
      exact ⟨⟨_, rfl⟩, .inl ⟨_, rfl, by have h := hJs; unfold upF at h; rwa [List.take_of_length_le (by simp)] at h⟩⟩

end Go.Proofs.YtaikoeoabgkglaaDoor
