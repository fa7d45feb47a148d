/-
  What is proved here: the program's small functions around objects of templates: a copy of bytes, the object of a number, the table of a header's numbers and the places that it names.
-/
import Derived.Test.YtobbnedojmcgoaaB4
import Derived.Test.YtobbnedojmcgoaaRf
namespace Go.Proofs.Ytobbnedojmcgoaa
open Go.RowKit
set_option linter.unusedVariables false
set_option linter.unusedSimpArgs false

theorem grown_new {w w' : World} (h : w.grownBy w' none) : Below w.heap.size w w' := ⟨h.os, h.tape, h.output, h.size, fun k hk => h.block k hk (by intro e; cases e)⟩
theorem own_seesP {w : World} {base : Nat} {e : TypeId} {g n c : Nat} {xs : List Value} (h : w.ownsRow base e 1 (.slice (some ⟨g, 0, none⟩) n c) n xs) : SeesP w (fun b => b = g) (some ⟨g, 0, none⟩) xs := by
  rcases h.2 with ⟨h0, _⟩ | ⟨g', cap, cur, hv, hg, hh, hn, hm, hs, ht⟩
  · simp at h0
  · simp only [Value.slice.injEq, Option.some.injEq, Addr.mk.injEq, and_true, true_and] at hv
    obtain ⟨rfl, rfl⟩ := hv
    refine .inr ⟨g, 0, rfl, rfl, fun j hj => ?_⟩
    have hl := h.1
    rw [Nat.zero_add, cell_of_row w g j cur _ (0, 0) hh, ← ht, List.getElem?_take, if_pos (by omega), Array.getElem?_toList]
/-- a call that answers new bytes -/
def NewIs (w : World) (v : List UInt8) (n : Nat) (e : Ending) (w' : World) : Prop := ∃ A c, e = .returned (.slice A n c) ∧ ((A = none → c = 0) ∧ n ≤ c) ∧ SeesP w' (newB w w') A (Us v) ∧ Below w.heap.size w w'
set_option maxHeartbeats 1600000 in
theorem p_copied (v : List UInt8) (n : Nat) (hn : v.length = n) (hm : n ≤ 140737488351232) (A : Option Addr) (c : Nat) (w : World) (hs : SeesP w (· < w.heap.size) A (Us v)) :
    Calls Try.prog 51 #[.slice A n c] w (NewIs w v n) := by
  obtain ⟨i0, hi, hz0, hz1, hz2⟩ := info_parts info_u8b
  have HS := Lib.hid (show _ ∧ _ from ⟨hs, hn⟩)
  clear hs hn
  go_enter Try.func51, Try.ntmps51
  go_wp2_with (first
    | (at_make; refine wpList_make_full _ rfl _ _ 25 rfl w.heap.size 5 i0 (.int .u8 0) 1 Try.underlying25 hi hz0 hz1 _ _ _ _ n rfl rfl (by simp) (by simp) (by rw [hz2]; omega) (by unfold maxLen; omega) (Nat.le_refl _) ?_; intro w1 hown hgrow; have H1 := Lib.hid (show _ ∧ _ from ⟨hown, grown_new hgrow⟩); clear hown hgrow)
    | ((with_reducible refine at_call_ (d := 9) ?_); go_must (refine wpList_copy_fill rfl (.tmp 7) (.tmp 8) 25 25 rfl 5 Try.underlying25 (by rw [hi]; simp [hz1]) w.heap.size w.heap.size n n _ rfl H1.out.1 A n c w.heap.size (Us v) rfl (by rw [Us_length, HS.out.2]) (HS.out.1.keep fun q hq => H1.out.2.cell hq) (Us_one v) ?_); intro w2 ho hg; have H2 := Lib.hid (show _ ∧ _ from ⟨ho, hg⟩); clear ho hg))
  have HD := Lib.hid (show NewIs w v n (.returned (.slice (some ⟨w.heap.size, 0, none⟩) n n)) w2 from by
    refine ⟨some ⟨w.heap.size, 0, none⟩, n, rfl, ⟨fun h => (by cases h), Nat.le_refl _⟩, ?_, H1.out.2.grown H2.out.2 (H1.out.2.size) (fun k e => by injection e with e; omega)⟩
    have h := H2.out.1
    have e1 : (Us v).take n = Us v := List.take_of_length_le (by rw [Us_length, HS.out.2]; exact Nat.le_refl _)
    have e2 : List.drop (Us v).length (madeCells (Value.cells (.int .u8 0)) (n * 1)).toList = [] := List.drop_eq_nil_of_le (by
      have := H1.out.1.1
      rw [Us_length, HS.out.2]; omega)
    rw [e1, e2, List.append_nil] at h
    have hlt := (own_lt3 h w.heap.size rfl).2
    exact (own_seesP h).imp fun b hb => by subst hb; exact ⟨Nat.le_refl _, hlt⟩)
  go_ret
  exact HD.out
set_option maxHeartbeats 800000 in
/-- the program's Octets: the bytes are new -/
theorem oct_new (n : Nat) (s : Nat) (hs : s ≤ 7) (hn : n < 256 ^ s) (w : World) :
    Calls Try.prog 49 #[.int .i64 (n : Int), .int .i64 (s : Int)] w fun e w' => ∃ A c, e = .returned (.tuple #[.slice A s c, .int .i64 0]) ∧ ((A = none → c = 0) ∧ s ≤ c) ∧ SeesP w' (newB w w') A (Us (octL n s)) ∧ Below w.heap.size w w' := by
  obtain ⟨i0, hi, hz0, hz1, hz2⟩ := info_parts info_u8
  have hb : n < 72057594037927936 := Nat.lt_of_lt_of_le hn (Nat.le_trans (Nat.pow_le_pow_right (by decide) hs) (by decide))
  have d1 : decide ((s : Int) < 0) = false := by simp
  have d2 : decide ((7 : Int) < (s : Int)) = false := by simp; omega
  have d3 : decide ((n : Int) < 0) = false := by simp
  have d4 : ((n : Int) / 2 ^ (8 * s) != 0) = false := by
    have e : ((n : Int) / 2 ^ (8 * s)) = ((n / 256 ^ s : Nat) : Int) := by
      rw [show (256 : Nat) = 2 ^ 8 from rfl, ← Nat.pow_mul]; simp
    rw [e, Nat.div_eq_of_lt hn]; rfl
  clear hn
  go_enter Try.func49, Try.ntmps49
  go_wp2_with (at_make; refine wpList_make_full _ rfl _ _ 25 rfl w.heap.size 5 i0 (.int .u8 0) 1 Try.underlying25 hi hz0 hz1 _ _ _ _ s rfl rfl (by simp) (by simp) (by rw [hz2]; omega) (by unfold maxLen; omega) (Nat.le_refl _) ?_; intro w1 hown hgrow)
  have hR : OctRel w.heap.size w.heap.size n s 0 w w1 := by
    refine ⟨?_, (Below.refl _ _).grown hgrow (Nat.le_refl _) (by simp), Nat.le_refl _⟩
    rw [octTo_zero, Us_zeros]
    simpa [Value.cells, toList_madeCells_one] using hown
  clear hown hgrow d1 d2 d3 d4
  go_wp2
  go_loopw [26] (fun i wr => ∃ k : Nat, k ≤ s ∧ i = .int .i64 k ∧ OctRel w.heap.size w.heap.size n s k w wr) (fun i _ => s - (intOf i).toNat)
  case atStart => exact ⟨0, by omega, rfl, hR⟩
  case round =>
    clear hR
    obtain ⟨k, hk, rfl, hR⟩ := hrel
    by_cases hlt : k < s
    · obtain ⟨old, g3⟩ := hR.cell (j := s - 1 - k) (by omega)
      have g4 := hR.1.frozenAt (s - 1 - k)
      go_wp2
      go_roundw
      case rel => exact ⟨k + 1, by omega, by go_num, hR.step hlt⟩
      case measure => simp [intOf]; omega
    · obtain rfl : k = s := by omega
      have hd : ((some (⟨w.heap.size, 0, none⟩ : Addr) = none → k = 0) ∧ k ≤ k) ∧ SeesP wr (newB w wr) (some ⟨w.heap.size, 0, none⟩) (Us (octL n k)) ∧ Below w.heap.size w wr := by
        have h1 := hR.1
        rw [octTo_all] at h1
        have hlt := (own_lt3 h1 w.heap.size rfl).2
        exact ⟨⟨fun h => (by cases h), Nat.le_refl _⟩, (own_seesP h1).imp fun b hb => (by subst hb; exact ⟨Nat.le_refl _, hlt⟩), hR.2.1⟩
      have HD := Lib.hid hd
      clear hd hR
      go_wp2
      go_ret2
      exact ⟨_, k, rfl, HD.out⟩
/-- a call that answers a primitive object with new bytes -/
def PrimIs (w : World) (t : Int) (v : List UInt8) (n : Nat) (e : Ending) (w' : World) : Prop := ∃ A c, e = .returned (.agg (nodV t A n c none 0 0).toArray) ∧ ((A = none → c = 0) ∧ n ≤ c) ∧ SeesP w' (newB w w') A (Us v) ∧ Below w.heap.size w w'
def zerN : List Value := [.int .i64 0, .slice none 0 0, .slice none 0 0]
theorem info_n : (Try.prog.info? 53).map (·.zero) = some (some (.agg zerN.toArray)) := by kernel_rfl
theorem size_n : (Try.prog.info? 53).map (·.size) = some 3 := by kernel_rfl
theorem nodV_one (t : Int) (Av : Option Addr) (lv cv : Nat) (Ak : Option Addr) (lk ck : Nat) : ∀ u ∈ nodV t Av lv cv Ak lk ck, u.oneCell' = true := by
  intro u hu
  simp only [nodV, List.mem_cons, List.not_mem_nil, or_false] at hu
  rcases hu with rfl | rfl | rfl <;> rfl
set_option maxHeartbeats 1600000 in
theorem p_num_obj (t : Int) (n s : Nat) (hs : s ≤ 7) (hn : n < 256 ^ s) (w : World) :
    Calls Try.prog 42 #[.int .i64 t, .int .i64 (n : Int), .int .i64 (s : Int)] w (PrimIs w t (octL n s) s) := by
  have HO := Lib.hid (fun w => oct_new n s hs hn w)
  have HB := Lib.hid (Below.refl w.heap.size w)
  clear hs hn
  go_enter Try.func42, Try.ntmps42
  go_wp2_with (first
    | ((with_reducible refine at_alloc_ (d := 6) ?_); refine wpList_alloc_v (op := ⟨some 6, _, _, _, _, _⟩) rfl 53 rfl zerN info_n ?_; intro g6 w6 hf hr; have H6 := Lib.hid (show _ ∧ _ ∧ _ from ⟨hf.bl HB.out, hr, hf.ge HB.out⟩); clear hf hr)
    | (go_at_call 49; ((with_reducible refine (HO.out _).mono ?_); rintro e w7 ⟨A, c, rfl, h1, h2, hb⟩); have H7 := Lib.hid (show _ ∧ _ ∧ _ ∧ _ ∧ _ from ⟨below_on H6.out.1 hb, H6.out.2.1.on hb, H6.out.2.2, h1, h2.imp fun b hb2 => newB_imp (w := w) hb2 H6.out.1.size (Nat.le_refl _)⟩); have H7b := Lib.hid (show ∀ b, newB w6 w7 b → b ≠ g6 from fun b hb2 => (by have := H6.out.2.1.lt; have := hb2.1; omega)); have H7c := Lib.hid h2; clear h1 h2 hb)
    | ((with_reducible refine at_store_ (i := 6) ?_); refine wpList_store_v rfl 53 (.tmp 6) (.tmp 17) rfl g6 zerN (nodV t A s c none 0 0) rfl rfl H7.out.2.1 rfl (nodV_one _ _ _ _ _ _ _) size_n ?_; intro w8 hw hr; have H8 := Lib.hid (show _ ∧ _ ∧ _ from ⟨Wr.bl H7.out.1 hw H7.out.2.2.1, hr, (H7c.out.keep fun q hq => World.cell?_of_block (hw.2.2.2.2 _ (H7b.out _ hq))).imp fun b hb2 => newB_imp (w := w) hb2 H6.out.1.size (Nat.le_of_eq hw.2.2.2.1.symm)⟩); clear hw hr))
  exact bodyPost_ret (results_v rfl _ _ g6 (nodV t A s c none 0 0) _ rfl H8.out.2.1 Try.underlying53 rfl size_n) rfl ⟨A, c, rfl, H7.out.2.2.2.1, H8.out.2.2, H8.out.1⟩
end Go.Proofs.Ytobbnedojmcgoaa
