/-
  What is proved here: the statements' own check 'awake' returns true in whatever world, and turns nothing that was there.
-/
import Derived.Test.YtelbphjdcekajaaRef
import Derived.Test.YtelbphjdcekajaaConv
import Derived.Test.YtelbphjdcekajaaOct
import Derived.Test.YtelbphjdcekajaaHex
namespace Go.Proofs.Ytelbphjdcekajaa
open Go.RowKit

theorem sees_built (w : World) (l : List UInt8) (t : TypeId) : Sees (w.alloc (.cells (Us l).toArray t)) (w.heap.size + 1) (some ⟨w.heap.size, 0, none⟩) (Us l) := by
  refine .inr ⟨w.heap.size, 0, rfl, by omega, fun j hj => ?_⟩
  rw [Nat.zero_add, cell_of_row _ _ j _ t (0, 0) (heap_alloc_new w _)]
  simp

theorem oct_awake (w : World) : Calls Try.prog 16 #[.int .i64 258, .int .i64 2] w fun e w' =>
    ∃ A c, e = .returned (.tuple #[.slice A 2 c, .int .i64 0]) ∧ Sees w' w'.heap.size A (Us [1, 2]) ∧ Below w.heap.size w w' := by
  have h := oct_oct 258 2 (by decide) (by decide) w
  have e1 : octB 258 2 = [1, 2] := by decide
  have e2 : octE 258 2 = 0 := by decide
  rw [e1, e2] at h
  exact h

theorem oct_hex_awake (A : Option Addr) (c : Nat) (w : World) (h : Sees w w.heap.size A (Us [1, 2])) :
    Calls Try.prog 11 #[.slice A 2 c] w fun e w' => e = .returned (.string { data := #[48, 49, 48, 50] }) ∧ Below w.heap.size w w' := by
  have hH := oct_hex A c 2 [1, 2] w h rfl (by decide)
  have e1 : S (hexL [1, 2]) = { data := #[48, 49, 48, 50] } := by decide
  rw [e1] at hH
  exact hH

theorem awake (w : World) : Calls Try.prog 10 #[] w fun e w' => e = .returned (.bool true) ∧ Below w.heap.size w w' := by
  go_enter Try.func10, Try.ntmps10
  go_wp2_with fail
  refine (oct_awake _).mono ?_
  rintro e w1 ⟨A, c, rfl, hs, hb⟩
  go_wp2_with fail
  have hS := ref_same A (some ⟨w1.heap.size, 0, none⟩) c 2 2 2 [1, 2] [1, 2] (w1.alloc (.cells (Us [1, 2]).toArray 5)) (w1.heap.size + 1)
    ((hs.alloc (Nat.le_refl _) _).more (by omega)) (sees_built w1 [1, 2] 5) rfl rfl (by decide)
  rw [sameB_true rfl] at hS
  refine Calls.mono hS ?_
  rintro e w2 ⟨rfl, d, rfl⟩
  go_wp2_with fail
  have hb2 : Below w.heap.size w ((w1.alloc (.cells (Us [1, 2]).toArray 5)).drewN d) := below_dn (hb.alloc hb.size _) d
  have hH := oct_hex_awake A c ((w1.alloc (.cells (Us [1, 2]).toArray 5)).drewN d) (((hs.alloc (Nat.le_refl _) (.cells (Us [1, 2]).toArray 5)).drewN d).more (by simp))
  refine Calls.mono hH ?_
  rintro e w3 ⟨rfl, hb3⟩
  have hb4 := hb2.trans (hb3.mono hb2.size)
  clear hH hS hb2 hb3
  go_wp2
  go_ret
  exact ⟨rfl, hb4⟩

end Go.Proofs.Ytelbphjdcekajaa
