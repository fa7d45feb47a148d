/-
  What is proved here: what the makers' Signs gives: letters and digits, at least one and at most so many.
-/
import Derived.Test.YtfkcnbcifidlgaaDoorDx
import Derived.Test.YtfkcnbcifidlgaaDoorOv
namespace Go.Proofs.YtfkcnbcifidlgaaDoor
open Go.RowKit
set_option linter.unusedVariables false

def alphaB : ByteArray := ⟨#[48, 49, 50, 51, 52, 53, 54, 55, 56, 57, 65, 66, 67, 68, 69, 70, 71, 72, 73, 74, 75, 76, 77, 78, 79, 80, 81, 82, 83, 84, 85, 86, 87, 88, 89, 90]⟩
/-- a letter or a digit -/
def sgnB (c : UInt8) : Bool := decide ((48 ≤ c.toNat ∧ c.toNat ≤ 57) ∨ (65 ≤ c.toNat ∧ c.toNat ≤ 90))
def alphaL : List UInt8 := [48, 49, 50, 51, 52, 53, 54, 55, 56, 57, 65, 66, 67, 68, 69, 70, 71, 72, 73, 74, 75, 76, 77, 78, 79, 80, 81, 82, 83, 84, 85, 86, 87, 88, 89, 90]
theorem alpha_sgn (c : UInt8) (h : c ∈ alphaL) : sgnB c = true := by
  have : alphaL.all sgnB = true := by decide
  exact List.all_eq_true.1 this c h
def SignsIs (w : World) (D most : Nat) (e : Ending) (w' : World) : Prop := ∃ x : List UInt8, e = .returned (.string (S x)) ∧ 1 ≤ x.length ∧ x.length ≤ most ∧ (∀ c ∈ x, sgnB c = true) ∧ w.grownBy w' (some D) ∧ DiceOk w' D
/-- what the loop keeps -/
def BRel (w : World) (D : Nat) (a : Value) (k : Nat) (wr : World) : Prop := (∃ l : List UInt8, l.length = k ∧ (∀ c ∈ l, sgnB c = true) ∧ wr.ownsRow w.heap.size 5 1 a k (Us l)) ∧ w.grownBy wr (some D) ∧ DiceOk wr D

set_option maxRecDepth 40000 in
set_option maxHeartbeats 1000000 in
theorem dice_signs (D most : Nat) (w : World) (hm : most ≤ 1000) (hm1 : 1 ≤ most) (h : DiceOk w D) :
    Calls Tryd.prog 28 #[.pointer (some ⟨D, 0, none⟩), .int .i64 (most : Int)] w (SignsIs w D most) := by
  obtain ⟨i0, hi, hz0, hz1, hz2⟩ := info_parts info_u8b
  have hDw := h.lt
  have hN := dice_next D most w (by omega) (by omega) h
  have HN := Lib.hid hN
  clear hN h
  go_enter Tryd.func28, Tryd.ntmps28
  go_wp2_with fail
  refine HN.out.mono ?_
  rintro e w1 ⟨r, hr, rfl, hg, hd⟩
  have H1 := Lib.hid (show BRel w D (.slice none 0 0) 0 w1 from ⟨⟨[], rfl, by simp, ⟨rfl, .inl ⟨rfl, rfl⟩⟩⟩, hg, hd⟩)
  clear HN hg hd
  go_wp2_with fail
  go_loopw [5, 6] (fun a i wr => ∃ k : Nat, k ≤ r + 1 ∧ i = .int .i64 (1 + (r : Int) - (k : Int)) ∧ Hid (BRel w D a k wr)) (fun _ i _ => (intOf i).toNat)
  case atStart => exact ⟨0, Nat.zero_le _, by go_num, H1⟩
  case round =>
    clear H1
    obtain ⟨k, hk, rfl, HB⟩ := hrel
    by_cases hlt : k < r + 1
    · have d1 : decide ((0 : Int) < 1 + (r : Int) - (k : Int)) = true := by simp; omega
      have HN := Lib.hid (dice_next D 36 wr (by decide) (by decide) HB.out.2.2)
      go_wp2_with fail
      refine HN.out.mono ?_
      rintro e w2 ⟨x, hx, rfl, hg, hd⟩
      obtain ⟨l, hl, hls, hown⟩ := HB.out.1
      have hown2 : w2.ownsRow w.heap.size 5 1 u5 k (Us l) := own_far hown hg (by
        rcases hown.2 with ⟨e, _⟩ | ⟨g, cap, cur, e, hb, _⟩
        · rw [e]; simp [Value.ownBlock]
        · rw [e]; simp [Value.ownBlock]; omega)
      have HG := Lib.hid (show _ ∧ _ ∧ _ ∧ _ from ⟨grown_trans HB.out.2.1 hg, hd, hl, hls⟩)
      clear hown hg hd HN hl hls
      have hxs : x < alphaB.size := hx
      go_wp2_with (at_builtin; refine wpList_append_own _ rfl (.tmp 15) (.tmp 19) 40 rfl w.heap.size 5 i0 (.int .u8 0) 1 1 Tryd.underlying40 hi hz0 hz1 hz2 rfl (by decide) u5 k _ rfl (hown2.alloc _) ⟨w2.heap.size, 0, none⟩ 1 1 [_] rfl rfl (news_of_one _ _ _) (one_cell1 _) (by unfold maxLen; omega) (by omega) (by have := HG.out.1.size; simp; omega) ?_; intro v3 w3 ho hg3 _)
      have hch : alphaB[x]'hxs ∈ alphaL := by unfold alphaB; exact Array.mem_toList_iff.2 (Array.getElem_mem _)
      have hrow : w3.ownsRow w.heap.size 5 1 v3 (k + 1) (Us (l ++ [alphaB[x]'hxs])) := by
        rw [Us_append]
        exact ho
      have hgw := grown_row (grown_trans HG.out.1 (grown_alloc w2 (.cells #[.int .u8 ((alphaB[x]'hxs).toNat : Int)] 5) (some D))) hg3 (fun g e => (hown2.lt g e).1)
      have hdd : DiceOk w3 D := (HG.out.2.1.below ((Below.refl _ _).alloc (Nat.le_refl _) (.cells #[.int .u8 ((alphaB[x]'hxs).toNat : Int)] 5))).grown hg3 (fun g e => by have := (hown2.lt g e).1; omega)
      have HF := Lib.hid (show BRel w D v3 (k + 1) w3 from ⟨⟨_, by rw [List.length_append, HG.out.2.2.1]; rfl, (fun c hc => by
        rcases List.mem_append.1 hc with h | h
        · exact HG.out.2.2.2 c h
        · rw [List.mem_singleton.1 h]; exact alpha_sgn _ hch), hrow⟩, hgw, hdd⟩)
      clear hrow hgw hdd ho hg3 hown2 hch
      go_roundw
      case rel => exact ⟨k + 1, by omega, by go_num, HF⟩
      case measure => simp [intOf]; omega
    · obtain rfl : k = r + 1 := by omega
      have d1 : decide ((0 : Int) < 1 + (r : Int) - ((r + 1 : Nat) : Int)) = false := by simp; omega
      obtain ⟨l, hl, hls, hown⟩ := HB.out.1
      obtain ⟨A, c, e⟩ := own_form hown
      subst e
      have hc := run_conv wr _ _ _ (Sees.of_own hown) (r + 1) c hl.symm
      have HF := Lib.hid (show SignsIs w D most (.returned (.string (S l))) wr from ⟨l, rfl, by omega, by omega, hls, HB.out.2⟩)
      clear hown HB hls
      go_wp2_with fail
      go_ret
      exact HF.out

end Go.Proofs.YtfkcnbcifidlgaaDoor
