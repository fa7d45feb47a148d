/-
  What is proved here: what the makers' Name gives: a name of at most so many words.
-/
import Derived.Test.YtfkcnbcifidlgaaDoorDx
import Derived.Test.YtfkcnbcifidlgaaDoorOrp
namespace Go.Proofs.YtfkcnbcifidlgaaDoor
open Go.RowKit
set_option linter.unusedVariables false

/-- letters alone -/
def allL (x : List UInt8) : Prop := ∀ k, k < x.length → ltrB (cB x k) = true
theorem name_word {x : List UInt8} (h : allL x) : nameL x = true := nameL_good fun k hk => okP_let (h k hk)
theorem name_more {x y : List UInt8} (hx : nameL x = true) (hx0 : x ≠ []) (hy : allL y) (hy0 : y ≠ []) : nameL (x ++ [32] ++ y) = true := by
  have hxp := List.length_pos_iff.2 hx0
  have hyp := List.length_pos_iff.2 hy0
  have hc : ∀ i, cB (x ++ [32] ++ y) i = if i < x.length then cB x i else if i = x.length then 32 else cB y (i - x.length - 1) := fun i => by
    rw [List.append_assoc, cB_app]
    split
    · rfl
    · rw [cB_app]
      simp only [List.length_cons, List.length_nil]
      split
      · rename_i h1 h2
        rw [if_pos (by omega), show i - x.length = 0 by omega]; rfl
      · rename_i h1 h2
        rw [if_neg (by omega)]
  have hl : (x ++ [32] ++ y).length = x.length + 1 + y.length := by simp; omega
  refine nameL_good fun k hk => ?_
  rw [hl] at hk
  rcases Nat.lt_or_ge k x.length with h | h
  · rcases name_chars hx h with h1 | h1
    · refine okP_let ?_
      rw [hc, if_pos h]; exact h1
    · unfold okP gapL
      rw [Bool.or_eq_true]
      refine .inr (decide_eq_true ⟨by rw [hc, if_pos h]; exact h1.1, h1.2.1, by rw [hl]; omega, ?_, ?_⟩)
      · rw [hc, if_pos (by omega)]; exact h1.2.2.2.1
      · rw [hc, if_pos h1.2.2.1]; exact h1.2.2.2.2
  · rcases Nat.lt_or_ge x.length k with h2 | h2
    · refine okP_let ?_
      rw [hc, if_neg (by omega), if_neg (by omega)]
      exact hy _ (by omega)
    · obtain rfl : k = x.length := by omega
      unfold okP gapL
      rw [Bool.or_eq_true]
      refine .inr (decide_eq_true ⟨by rw [hc, if_neg (by omega), if_pos rfl], hxp, by rw [hl]; omega, ?_, ?_⟩)
      · rw [hc, if_pos (by omega)]
        rcases name_chars hx (show x.length - 1 < x.length by omega) with h1 | h1
        · exact h1
        · omega
      · rw [hc, if_neg (by omega), if_neg (by omega), show x.length + 1 - x.length - 1 = 0 by omega]
        exact hy 0 hyp

/-- the makers' words -/
def wordsL : List (List UInt8) := [[65], [69, 82, 73, 75, 83, 83, 79, 78], [77, 65, 82, 73, 65], [68, 69], [76, 79, 83], [79, 75], [86, 65, 78, 68, 69, 82, 86, 65, 76, 75], [90, 90]]
theorem words_len : wordsL.length = 8 := rfl
theorem words_ok (j : Nat) (hj : j < 8) : allL (wordsL.getD j []) ∧ wordsL.getD j [] ≠ [] ∧ (wordsL.getD j []).length ≤ 10 := by
  have : ∀ j : _root_.Fin 8, allL (wordsL.getD j.val []) ∧ wordsL.getD j.val [] ≠ [] ∧ (wordsL.getD j.val []).length ≤ 10 := by unfold allL; decide
  exact this ⟨j, hj⟩
def wordRow : Array Value := (wordsL.map fun x => Value.string (S x)).toArray
theorem word_cell (j : Nat) (hj : j < 8) : wordRow[j]? = some (.string (S (wordsL.getD j []))) := by
  have h : j < wordsL.length := hj
  simp [wordRow, h]

def NameIs (w : World) (D most : Nat) (e : Ending) (w' : World) : Prop := ∃ x : List UInt8, e = .returned (.string (S x)) ∧ nameL x = true ∧ x.length ≤ 11 * most ∧ w.grownBy w' (some D) ∧ DiceOk w' D
/-- what the loop keeps -/
def MRel (w : World) (D g : Nat) (x : List UInt8) (k : Nat) (wr : World) : Prop := nameL x = true ∧ x.length ≤ 11 * k ∧ w.grownBy wr (some D) ∧ DiceOk wr D ∧ wr.heap[g]? = some (.cells wordRow 59 (0, 0)) ∧ D < g

set_option maxRecDepth 40000 in
set_option maxHeartbeats 2000000 in
theorem dice_name (D most : Nat) (w : World) (hm : most ≤ 1000) (h : DiceOk w D) :
    Calls Tryd.prog 26 #[.pointer (some ⟨D, 0, none⟩), .int .i64 (most : Int)] w (NameIs w D most) := by
  have hDw := h.lt
  have HD := Lib.hid h
  clear h
  go_enter Tryd.func26, Tryd.ntmps26
  go_wp2_with fail
  obtain ⟨W, hW⟩ : ∃ W, W = w.alloc (.cells wordRow 59) := ⟨_, rfl⟩
  have hW2 : w.alloc (.cells #[.string ⟨#[65]⟩, .string ⟨#[69, 82, 73, 75, 83, 83, 79, 78]⟩, .string ⟨#[77, 65, 82, 73, 65]⟩, .string ⟨#[68, 69]⟩, .string ⟨#[76, 79, 83]⟩, .string ⟨#[79, 75]⟩, .string ⟨#[86, 65, 78, 68, 69, 82, 86, 65, 76, 75]⟩, .string ⟨#[90, 90]⟩] 59) = W := hW.symm
  rw [hW2]
  have hrow : W.heap[w.heap.size]? = some (.cells wordRow 59 (0, 0)) := by rw [hW]; exact heap_alloc_new w _
  have hgW : w.grownBy W (some D) := by rw [hW]; exact grown_alloc w _ _
  have hdW : DiceOk W D := HD.out.below (by rw [hW]; exact (Below.refl _ _).alloc (Nat.le_refl _) _)
  obtain ⟨g, hg⟩ : ∃ g, g = w.heap.size := ⟨_, rfl⟩
  rw [← hg] at hrow ⊢
  have hDg : D < g := by omega
  clear hW hW2 hg
  have hN := dice_next D (most + 1) W (by omega) (by omega) hdW
  rw [show ((most + 1 : Nat) : Int) = (most : Int) + 1 by omega] at hN
  refine hN.mono ?_
  rintro e w1 ⟨r, hr, rfl, hg1, hd1⟩
  have hrow1 : w1.heap[g]? = some (.cells wordRow 59 (0, 0)) := (hg1.block g (lt_of_block hrow) (by intro e; injection e with e; omega)).trans hrow
  have H1 := Lib.hid (show MRel w D g [] 0 w1 from ⟨by decide, by simp, grown_trans hgW hg1, hd1, hrow1, hDg⟩)
  clear hN hg1 hd1 hrow1 hrow hgW hdW hDg
  go_wp2_with fail
  go_loopw [6, 7] (fun s i wr => ∃ (k : Nat) (x : List UInt8) (b : ByteArray), k ≤ r ∧ i = .int .i64 ((r : Int) - (k : Int)) ∧ s = .string b ∧ Hid (b = S x) ∧ Hid (MRel w D g x k wr)) (fun _ i _ => (intOf i).toNat)
  case atStart => exact ⟨0, [], ⟨#[]⟩, Nat.zero_le _, by go_num, rfl, Lib.hid rfl, H1⟩
  case round =>
    clear H1
    obtain ⟨k, x, b, hk, rfl, rfl, HB, HM⟩ := hrel
    by_cases hlt : k < r
    · have d1 : decide ((0 : Int) < (r : Int) - (k : Int)) = true := by simp; omega
      have HN := Lib.hid (dice_next D 8 wr (by decide) (by decide) HM.out.2.2.2.1)
      have hbs : b.size ≤ 11000 := by rw [HB.out, S_size]; have := HM.out.2.1; omega
      have hstep : ∀ (j : Nat) (w2 : World), j < 8 → wr.grownBy w2 (some D) → DiceOk w2 D → w2.cell? ⟨g, j, none⟩ = some (.string (S (wordsL.getD j []))) ∧
          Hid (MRel w D g (if x = [] then wordsL.getD j [] else x ++ [32] ++ wordsL.getD j []) (k + 1) w2) := fun j w2 hj hg hd => by
        obtain ⟨m1, m2, m3, m4, m5, m6⟩ := HM.out
        obtain ⟨v1, v2, v3⟩ := words_ok j hj
        have hrow2 : w2.heap[g]? = some (.cells wordRow 59 (0, 0)) := (hg.block g (lt_of_block m5) (by intro e; injection e with e; omega)).trans m5
        refine ⟨(cell_of_row w2 g j _ _ _ hrow2).trans (word_cell j hj), Lib.hid ⟨?_, ?_, grown_trans m3 hg, hd, hrow2, m6⟩⟩
        · split
          · exact name_word v1
          · rename_i h; exact name_more m1 h v1 v2
        · split
          · omega
          · rw [List.length_append, List.length_append]; simp only [List.length_cons, List.length_nil]; omega
      by_cases hx0 : x = []
      · have hem := s_nil HB.out hx0
        have HX := Lib.hid hx0
        clear hx0
        go_wp2_with fail
        refine HN.out.mono ?_
        rintro e w2 ⟨j, hj, rfl, hg, hd⟩
        obtain ⟨c, hM⟩ := hstep j w2 hj hg hd
        rw [if_pos HX.out] at hM
        obtain ⟨v, hv⟩ : ∃ v, S (wordsL.getD j []) = v := ⟨_, rfl⟩
        have hv10 : v.size ≤ 10 := by rw [← hv, S_size]; exact (words_ok j hj).2.2
        rw [hv] at c
        have HV := Lib.hid hv
        have hbv : Hid (b ++ v = S (wordsL.getD j [])) := Lib.hid (by rw [HB.out, HX.out, ← hv]; exact S_append [] _)
        clear hstep hg hd hv HN
        have j8 : (j : Int) < 8 := by omega
        go_wp2_with fail
        go_roundw
        case rel => exact ⟨k + 1, _, _, by omega, by go_num, rfl, hbv, hM⟩
        case measure => simp [intOf]; omega
      · have hem := s_ne HB.out hx0
        have HX := Lib.hid hx0
        clear hx0
        go_wp2_with fail
        refine HN.out.mono ?_
        rintro e w2 ⟨j, hj, rfl, hg, hd⟩
        obtain ⟨c, hM⟩ := hstep j w2 hj hg hd
        rw [if_neg HX.out] at hM
        obtain ⟨v, hv⟩ : ∃ v, S (wordsL.getD j []) = v := ⟨_, rfl⟩
        have hv10 : v.size ≤ 10 := by rw [← hv, S_size]; exact (words_ok j hj).2.2
        rw [hv] at c
        have HV := Lib.hid hv
        have hbv : Hid (b ++ ⟨#[32]⟩ ++ v = S (x ++ [32] ++ wordsL.getD j [])) := Lib.hid (by
          rw [HB.out, ← hv]
          show S x ++ S [32] ++ S _ = _
          rw [S_append, S_append])
        clear hstep hg hd hv HN
        have j8 : (j : Int) < 8 := by omega
        go_wp2_with fail
        go_roundw
        case rel => exact ⟨k + 1, _, _, by omega, by go_num, rfl, hbv, hM⟩
        case measure => simp [intOf]; omega
    · obtain rfl : k = r := by omega
      have d1 : decide ((0 : Int) < (k : Int) - (k : Int)) = false := by simp
      have HF := Lib.hid (show NameIs w D most (.returned (.string b)) wr from ⟨x, by rw [HB.out], HM.out.1, by have := HM.out.2.1; omega, HM.out.2.2.1, HM.out.2.2.2.1⟩)
      clear HM
      go_wp2_with fail
      go_ret
      exact HF.out

end Go.Proofs.YtfkcnbcifidlgaaDoor
