/-
  What is proved here: what the makers' Lines gives: the lines of a valid zone, in a block of their own.
-/
import Derived.Test.YtdlcoilpkelbaaaGreatDoorY19
import Derived.Test.YtdlcoilpkelbaaaGreatDoorRbm
namespace Go.Proofs.YtdlcoilpkelbaaaGreatDoor
open Go.RowKit Go.Maps Go.Deep
set_option linter.unusedVariables false

def LinesIs (w : World) (D : Nat) (e : Ending) (w' : World) : Prop := ∃ (z : Zn) (A : Option Addr), vE z = 0 ∧ e = .returned (.slice A (buildL z).length (buildL z).length) ∧ StrsM w w' A (buildL z) ∧ w.grownBy w' (some D)
set_option maxHeartbeats 1600000 in
set_option maxRecDepth 20000 in
theorem dice_lines (D : Nat) (w : World) (h : DiceOk w D) : Calls Tryz.prog 25 #[.pointer (some ⟨D, 0, none⟩)] w (LinesIs w D) := by
  have HD := Lib.hid h
  clear h
  go_enter Tryz.func25, Tryz.ntmps25
  go_wp2_with fail
  refine (dice_zone D w HD.out).mono ?_
  rintro e w1 ⟨z, rfl, hz, hb, hg, hd⟩
  obtain ⟨us, hus⟩ : ∃ us, zV z = us := ⟨_, rfl⟩
  rw [hus]
  obtain ⟨n, hn⟩ : ∃ n, (buildL z).length = n := ⟨_, rfl⟩
  have HBD : Hid (∀ w, Calls Tryz.prog 11 #[.agg us.toArray] w fun e w' => ∃ A, e = .returned (.tuple #[.slice A n n, .int .i64 0]) ∧ StrsM w w' A (buildL z) ∧ Below w.heap.size w w') := Lib.hid (fun w => by
    have := r_build_okM z us hb hus hz w
    rw [hn, hz] at this
    exact this)
  have HZ := Lib.hid (show _ ∧ _ ∧ _ from ⟨hz, hg, hn⟩)
  clear hz hb hg hd hus hn HD
  go_wp2_with (go_at_call 11; ((with_reducible refine (HBD.out _).mono ?_); rintro e w2 ⟨A, rfl, hs, hb⟩); have HS := Lib.hid (And.intro hs hb); clear hs hb)
  go_ret
  exact ⟨z, A, HZ.out.1, by rw [HZ.out.2.2]; rfl, HS.out.1.up HZ.out.2.1.size, grown_row (row := none) HZ.out.2.1 (grown_below HS.out.2) (fun g e => by cases e)⟩
end Go.Proofs.YtdlcoilpkelbaaaGreatDoor
