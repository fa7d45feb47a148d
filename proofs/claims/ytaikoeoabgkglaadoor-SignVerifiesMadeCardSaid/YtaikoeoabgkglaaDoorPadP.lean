/-
  What is proved here: what the program's Pad answers, for bytes that lie in memory.
-/
import Derived.Test.YtaikoeoabgkglaaDoorPadR
import Derived.Test.YtaikoeoabgkglaaDoorLists
import Derived.Laws.OwnMore
namespace Go.Proofs.YtaikoeoabgkglaaDoor
open Go.RowKit
set_option linter.unusedVariables false

/-- the length's eight bytes when the last i of them have been written -/
def tailP (n : Nat) : Nat → List UInt8
  | 0 => List.replicate 8 0
  | i + 1 => (tailP n i).set (7 - i) (UInt8.ofNat (8 * n / 256 ^ i))
theorem tailP_length (n : Nat) : ∀ i, (tailP n i).length = 8
  | 0 => by simp [tailP]
  | i + 1 => by simp [tailP, tailP_length n i]
theorem tailP_all (n : Nat) : tailP n 8 = len8 n 8 := by simp [tailP, len8, List.range_succ, List.replicate]
def headP (l : List UInt8) : List UInt8 := l ++ [128] ++ List.replicate (padZ l.length) 0
theorem headP_length (l : List UInt8) : (headP l).length = l.length + 1 + padZ l.length := by simp [headP]; omega
theorem size_val (n : Nat) : (n + 8) / 64 * 64 + 64 = n + 1 + padZ n + 8 := by unfold padZ; omega
theorem padZ_lt (n : Nat) : padZ n < 64 := by unfold padZ; omega
theorem pad_copy (l : List UInt8) (S : Nat) (h : S = l.length + 1 + padZ l.length + 8) : (Us l).take S ++ (Us (List.replicate S 0)).drop (Us l).length = Us (l ++ List.replicate (1 + padZ l.length + 8) 0) := by
  rw [← Us_take, Us_length, ← Us_drop, ← Us_append, List.take_of_length_le (by omega), List.drop_replicate, show S - l.length = 1 + padZ l.length + 8 by omega]
theorem pad_mark (l : List UInt8) : (l ++ List.replicate (1 + padZ l.length + 8) 0).set l.length 128 = headP l ++ tailP l.length 0 := by
  rw [List.set_append_right _ _ (Nat.le_refl _), Nat.sub_self, show 1 + padZ l.length + 8 = (padZ l.length + 8) + 1 by omega, List.replicate_succ, List.set_cons_zero]
  unfold headP
  rw [tailP, List.append_assoc, List.append_assoc, List.replicate_append_replicate]
  rfl
theorem pad_end (l : List UInt8) (i : Nat) (hi : i < 8) : (headP l ++ tailP l.length i).set ((headP l).length + 8 - 1 - i) (UInt8.ofNat (8 * l.length / 256 ^ i)) = headP l ++ tailP l.length (i + 1) := by
  rw [List.set_append_right _ _ (by omega), tailP, show (headP l).length + 8 - 1 - i - (headP l).length = 7 - i by omega]

theorem pad_byte2 (n m : Nat) : Value.int .u8 ((n : Int) * 8 / 2 ^ (8 * m) % 256) = U (UInt8.ofNat (8 * n / 256 ^ m)) := by
  rw [← pad_byte n m, Int.mul_comm]
/-- what Pad's loop keeps -/
def PdR (w : World) (l : List UInt8) (i : Nat) (wr : World) : Prop :=
  wr.ownsRow w.heap.size 5 1 (.slice (some ⟨w.heap.size, 0, none⟩) (l.length + 1 + padZ l.length + 8) (l.length + 1 + padZ l.length + 8)) (l.length + 1 + padZ l.length + 8) (Us (headP l ++ tailP l.length i)) ∧ Below w.heap.size w wr
theorem PdR.step {w wr : World} {l : List UInt8} {i j : Nat} {u : Value} (h : PdR w l i wr) (hi : i < 8) (hj : j = l.length + padZ l.length + 8 - i) (hu : u = U (UInt8.ofNat (8 * l.length / 256 ^ i))) : PdR w l (i + 1) (wr.setCell ⟨w.heap.size, j, none⟩ u) := by
  subst hj hu
  have h1 := (h.1.stored (l.length + padZ l.length + 8 - i) (U (UInt8.ofNat (8 * l.length / 256 ^ i)))).1
  have e := pad_end l i hi
  rw [headP_length, show l.length + 1 + padZ l.length + 8 - 1 - i = l.length + padZ l.length + 8 - i by omega] at e
  rw [Us_set, e] at h1
  exact ⟨h1, h.2.setCell (p := ⟨w.heap.size, _, none⟩) (Nat.le_refl _) _⟩
theorem PdR.done {w wr : World} {l : List UInt8} (h : PdR w l 8 wr) : Mk w (padL l) (.returned (.slice (some ⟨w.heap.size, 0, none⟩) (l.length + 1 + padZ l.length + 8) (l.length + 1 + padZ l.length + 8))) wr := by
  have e : padL l = headP l ++ tailP l.length 8 := by rw [tailP_all]; rfl
  have hl := padL_length l
  rw [e] at hl ⊢
  exact mk_own h.1 h.2 hl.symm
theorem info_one : (Tryd.prog.info? 5).map (·.size) = some 1 := by kernel_rfl
set_option maxHeartbeats 1000000 in
theorem digest_pad (l : List UInt8) (A : Option Addr) (c : Nat) (w : World) (hl : l.length ≤ 140737488351500) (hs : SeesP w (· < w.heap.size) A (Us l)) :
    Calls Tryd.prog 51 #[.slice A l.length c] w (Mk w (padL l)) := by
  obtain ⟨i0, hi, hz0, hz1, hz2⟩ := info_parts info_u8p
  have hzz := padZ_lt l.length
  obtain ⟨S, hS⟩ : ∃ S, S = l.length + 1 + padZ l.length + 8 := ⟨_, rfl⟩
  have e1 : (S : Int) = ((l.length : Int) + 8) / 64 * 64 + 64 := by have := size_val l.length; omega
  have HS := Lib.hid (show SeesP w (· < w.heap.size) A (Us l) ∧ S = l.length + 1 + padZ l.length + 8 ∧ (S : Int) = ((l.length : Int) + 8) / 64 * 64 + 64 from ⟨hs, hS, e1⟩)
  have hS1 : S ≤ l.length + 72 := by omega
  have hS2 : l.length + 9 ≤ S := by omega
  clear hs hS e1
  go_enter Tryd.func51, Tryd.ntmps51
  go_wp2_with (first
    | (at_make; refine wpList_make_full _ rfl _ _ 22 rfl w.heap.size 5 i0 (.int .u8 0) 1 Tryd.underlying22 hi hz0 hz1 _ _ _ _ S rfl rfl HS.out.2.2.symm HS.out.2.2.symm (by rw [hz2]; omega) (by unfold maxLen; omega) (Nat.le_refl _) ?_; intro w1 hown hgrow; rw [← HS.out.2.2]; have M1 := Lib.hid (show w1.ownsRow w.heap.size 5 1 (.slice (some ⟨w.heap.size, 0, none⟩) S S) S (Us (List.replicate S 0)) ∧ w.grownBy w1 none from ⟨by rw [Us_zeros]; simpa [Value.cells, toList_madeCells_one] using hown, hgrow⟩); clear hown hgrow)
    | (with_reducible refine wpList_copy_fill rfl (.tmp 15) (.tmp 16) 22 22 rfl 5 Tryd.underlying22 info_one w.heap.size w.heap.size S S _ rfl M1.out.1 A l.length c w.heap.size (Us l) rfl (Us_length l) (SeesP.iff_sees.1 (HS.out.1.keep fun q hq => ((Below.refl _ _).grown M1.out.2 (Nat.le_refl _) (fun k e => by cases e)).cell hq)) (Us_one l) ?_; intro w2 hown2 hg2; rw [pad_copy l S HS.out.2.1] at hown2; have M2 := Lib.hid (show w2.ownsRow w.heap.size 5 1 (.slice (some ⟨w.heap.size, 0, none⟩) S S) S (Us (l ++ List.replicate (1 + padZ l.length + 8) 0)) ∧ Below w.heap.size w w2 from ⟨hown2, ((Below.refl _ _).grown M1.out.2 (Nat.le_refl _) (fun k e => by cases e)).grown hg2 M1.out.2.size (fun k e => by cases e; exact Nat.le_refl _)⟩); clear hown2 hg2; have y1 : ∃ u, w2.cell? ⟨w.heap.size, l.length, none⟩ = some u := (by rw [M2.out.1.cellAt l.length (by omega)]; exact ⟨_, List.getElem?_eq_getElem (by rw [Us_length, List.length_append]; simp)⟩); obtain ⟨u1, y1⟩ := y1; have y2 := M2.out.1.frozenAt l.length))
  have M3 := Lib.hid (show PdR w l 0 (w2.setCell ⟨w.heap.size, l.length, none⟩ (.int .u8 128)) from by
    obtain ⟨h1, h2⟩ := M2.out
    have h3 := (h1.stored l.length (U 128)).1
    rw [Us_set, pad_mark, HS.out.2.1] at h3
    exact ⟨h3, h2.setCell (p := ⟨w.heap.size, _, none⟩) (Nat.le_refl _) _⟩)
  clear M1 M2 y1 y2
  go_loopw [26] (fun i wr => ∃ t : Nat, t ≤ 8 ∧ i = .int .i64 (t : Int) ∧ Hid (PdR w l t wr)) (fun i _ => 8 - (intOf i).toNat)
  case atStart => exact ⟨0, by decide, rfl, M3⟩
  case round =>
    clear M3
    obtain ⟨t, ht, rfl, HP⟩ := hrel
    have hSe := HS.out.2.1
    by_cases h8 : t < 8
    · have y1 : ∃ u, wr.cell? ⟨w.heap.size, S - 1 - t, none⟩ = some u := by
        rw [HP.out.1.cellAt (S - 1 - t) (by omega)]
        exact ⟨_, List.getElem?_eq_getElem (by rw [Us_length, List.length_append, headP_length, tailP_length]; omega)⟩
      obtain ⟨u1, y1⟩ := y1
      have y2 := HP.out.1.frozenAt (S - 1 - t)
      have HE := Lib.hid hSe
      clear hSe
      go_wp2
      go_roundw
      case rel => exact ⟨t + 1, by omega, by go_num, Lib.hid (HP.out.step h8 (by have := HE.out; omega) (pad_byte2 l.length t))⟩
      case measure => simp [intOf]; omega
    · obtain rfl : t = 8 := by omega
      have HF := Lib.hid (show Mk w (padL l) (.returned (.slice (some ⟨w.heap.size, 0, none⟩) S S)) wr from by rw [hSe]; exact HP.out.done)
      clear HP h8 ht hSe
      go_wp2
      go_ret
      exact HF.out

end Go.Proofs.YtaikoeoabgkglaaDoor
