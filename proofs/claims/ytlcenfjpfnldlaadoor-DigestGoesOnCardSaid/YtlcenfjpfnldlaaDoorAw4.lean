/-
  What is proved here: the statements' own check 'awake' (of the fourth layer) returns true in whatever world in which the tables lie, and turns nothing that was there.
-/
import Derived.Test.YtlcenfjpfnldlaaDoorSmp
import Derived.Test.YtlcenfjpfnldlaaDoorRHx
import Derived.Lib.SlBytesConst
namespace Go.Proofs.YtlcenfjpfnldlaaDoor
open Go.RowKit
set_option linter.unusedVariables false

set_option maxRecDepth 100000 in
theorem sum_abc : sumL [97, 98, 99] = [0xba, 0x78, 0x16, 0xbf, 0x8f, 0x01, 0xcf, 0xea, 0x41, 0x41, 0x40, 0xde, 0x5d, 0xae, 0x22, 0x23, 0xb0, 0x03, 0x61, 0xa3, 0x96, 0x17, 0x7a, 0x9c, 0xb4, 0x10, 0xff, 0x61, 0xf2, 0x00, 0x15, 0xad] := by decide +kernel
/-- all of the program's tables lie in memory -/
def TabA (w : World) : Prop := TabP w ∧ TabF w ∧ 1 < w.heap.size
theorem TabA.below {w wr : World} (h : TabA w) (hb : Below w.heap.size w wr) : TabA wr :=
  ⟨h.1.below hb, fun j v hv => (hb.cell (p := ⟨_, 0 + j, none⟩) h.2.2).trans (h.2.1 j v hv), Nat.lt_of_lt_of_le h.2.2 hb.size⟩
theorem sees_lit (w : World) (l : List UInt8) (t : TypeId) (fr : Nat × Nat) : SeesP (w.alloc (.cells (Us l).toArray t fr)) (· < (w.alloc (.cells (Us l).toArray t fr)).heap.size) (some ⟨w.heap.size, 0, none⟩) (Us l) := by
  refine .inr ⟨w.heap.size, 0, rfl, by simp, fun j hj => ?_⟩
  rw [Nat.zero_add, cell_of_row _ _ j _ t fr (heap_alloc_new w _)]
  simp

/-- what a maker of bytes answers, as a fact on the world behind it -/
theorem mk_sees {w w' : World} {l : List UInt8} {e : Ending} (h : Mk w l e w') : ∃ A c, e = .returned (.slice A l.length c) ∧ l.length ≤ c ∧ (A = none → c = 0) ∧ SeesP w' (· < w'.heap.size) A (Us l) ∧ Below w.heap.size w w' := by
  obtain ⟨A, c, he, hc, hn, hs, hb⟩ := h
  exact ⟨A, c, he, hc, hn, hs.imp fun b hb => hb.2, hb⟩
theorem sum_small (l : List UInt8) (w : World) (t : TypeId) (fr : Nat × Nat) (h : TabA w) (hl : l.length ≤ 1000) :
    Calls Tryd.prog 15 #[.slice (some ⟨w.heap.size, 0, none⟩) l.length l.length] (w.alloc (.cells (Us l).toArray t fr)) (Mk (w.alloc (.cells (Us l).toArray t fr)) (sumL l)) := by
  have h2 := h.below ((Below.refl w.heap.size w).alloc (Nat.le_refl _) (.cells (Us l).toArray t fr))
  exact digest_sum l (some ⟨w.heap.size, 0, none⟩) l.length _ (by omega) (sees_lit w l t fr) h2.1 h2.2.1

set_option maxHeartbeats 400000 in
theorem awake (w : World) (h : TabA w) : Calls Tryd.prog 8 #[] w fun e w' => e = .returned (.bool true) ∧ Below w.heap.size w w' := by
  have HS := Lib.hid (sum_small [97, 98, 99] w 5 (3, 4) h (by decide))
  clear h
  have kc := fun (w : World) (C : Array Value) (n c : Nat) => Lib.run_convert_bytes_const (P := Tryd.prog) w 22 5 C n c Tryd.underlying22 Tryd.underlying5
  go_enter Tryd.func8, Tryd.ntmps8
  go_wp2_with fail
  refine HS.out.mono ?_
  intro e w1 hm
  obtain ⟨A, c, he, hc, hn, hs, hb⟩ := mk_sees hm
  rw [sum_abc] at he hc hs
  subst he
  have hb2 := ((Below.refl w.heap.size w).alloc (Nat.le_refl _) (.cells (Us [97, 98, 99]).toArray 5 (3, 4))).trans (hb.mono (by simp))
  have hs8 := (SeesP.iff_sees.1 hs).take 8
  have HX := Lib.hid (ref_hex_b A c [0xba, 0x78, 0x16, 0xbf, 0x8f, 0x01, 0xcf, 0xea] w1 hs8 (by decide))
  have HB := Lib.hid hb2
  have hc' : 32 ≤ c := hc
  have e2 : ((S (hexL [0xba, 0x78, 0x16, 0xbf, 0x8f, 0x01, 0xcf, 0xea])).toList == [98, 97, 55, 56, 49, 54, 98, 102, 56, 102, 48, 49, 99, 102, 101, 97]) = true := by rw [S_toList]; rfl
  clear kc hm hn hs hb hb2 hs8 hc HS
  go_wp2_with (go_at_call 18; refine HX.out.mono ?_; rintro e w2 ⟨rfl, hb3⟩)
  go_ret
  exact ⟨rfl, below_on HB.out hb3⟩

end Go.Proofs.YtlcenfjpfnldlaaDoor
