/-
  What is proved here: the law SecurityinfoReturns as a function.
-/
import Derived.Test.YtmkggpgpiepjfaaDoorZKa
import Derived.Test.YtmkggpgpiepjfaaDoorZKb
namespace Go.Proofs.YtmkggpgpiepjfaaDoor
open Go.RowKit
set_option maxRecDepth 8000
set_option linter.unusedVariables false
set_option linter.unusedSimpArgs false
theorem seB_ne {L : List Im} (h : vaE L = 0) : seB L ≠ [] := by
  intro e
  have h1 := (se_ok h).2
  rw [e] at h1
  have h2 : (enc (setF L)).length = 0 := by rw [← h1]; rfl
  rw [enc_length] at h2
  simp only [setF, encN] at h2
  omega
def WrIs (w : World) (b : List UInt8) (e : Ending) (w' : World) : Prop := ∃ A c, e = .returned (.tuple #[.slice A b.length c, .int .i64 0]) ∧ (A = none → c = 0) ∧ b.length ≤ c ∧ SeesP w' (newB w w') A (Us b) ∧ Below w.heap.size w w'
theorem p_encode_ok (L : List Im) (h : vaE L = 0) (A : Option Addr) (c : Nat) (w : World) (hs : SeesP w (· < w.heap.size) A (Ics L)) (ht : TabX w) : Calls Tryd.prog 8 #[.slice A L.length c] w (WrIs w (seB L)) := by
  refine (p_encode L L.length rfl (by have := vaE_len h; omega) A c w hs ht).mono fun e w' hg => ?_
  obtain ⟨A', c', h1, h2, h3, h4⟩ := hg
  rw [(se_ok h).1] at h1
  exact ⟨A', c', h1, fun e => by
    subst e
    have := h2.none_nil
    exact absurd (List.map_eq_nil_iff.1 this) (seB_ne h), h4, h2, h3⟩
theorem p_decode_ok (L : List Im) (h : vaE L = 0) (A : Option Addr) (c : Nat) (hc : (seB L).length ≤ c) (w : World) (hs : SeesP w (· < w.heap.size) A (Us (seB L))) (ht : TabX w) : Calls Tryd.prog 10 #[.slice A (seB L).length c] w fun e w' => ∃ A' c', e = .returned (.tuple #[.slice A' L.length c', .int .i64 0]) ∧ SeesP w' (newB w w') A' (Ics L) ∧ Below w.heap.size w w' := by
  refine (p_decode (seB L) (seB L).length rfl (by have := seB_len L; omega) A c hc w hs ht).mono fun e w' hg => ?_
  obtain ⟨A', c', h1, _, h3, h4⟩ := hg
  rw [(read_back h).1, (read_back h).2] at h1
  rw [(read_back h).2] at h3
  exact ⟨A', c', h1, h3, h4⟩
theorem p_decode_any (b : List UInt8) (hb : b.length ≤ 100000) (A : Option Addr) (c : Nat) (hc : b.length ≤ c) (w : World) (hs : SeesP w (· < w.heap.size) A (Us b)) (ht : TabX w) : Calls Tryd.prog 10 #[.slice A b.length c] w fun e w' => (∃ x A' n c', x ≠ 0 ∧ e = .returned (.tuple #[.slice A' n c', .int .i64 x]) ∧ Below w.heap.size w w') ∨ (∃ L A' c', vaE L = 0 ∧ seB L = b ∧ e = .returned (.tuple #[.slice A' L.length c', .int .i64 0]) ∧ SeesP w' (newB w w') A' (Ics L) ∧ Below w.heap.size w w') := by
  refine (p_decode b b.length rfl (by omega) A c hc w hs ht).mono fun e w' hg => ?_
  obtain ⟨A', c', h1, _, h3, h4⟩ := hg
  by_cases h0 : deE (parse true b) = 0
  · rw [h0] at h1
    exact .inr ⟨_, A', c', (write_back h0).1, (write_back h0).2.2, h1, h3, h4⟩
  · exact .inl ⟨_, A', _, c', h0, h1, h4⟩
set_option maxHeartbeats 3200000 in
set_option maxRecDepth 20000 in
theorem law_returns (A : Option Addr) (c : Nat) (ls : List Int) (w : World) (ht : TabX w) (hl : ls.length ≤ 140737488351232) (hr : ∀ x ∈ ls, -9223372036854775808 ≤ x ∧ x ≤ 9223372036854775807) (hs : SeesP w (· < w.heap.size) A (ls.map (Value.int .i64))) :
    Calls Tryd.prog 5 #[.slice A ls.length c] w fun e w' => e = .returned (.bool true) ∧ Below w.heap.size w w' := by
  have HT := Lib.hid ht
  have HR := Lib.hid (made_roll A c ls w hl hr hs)
  have HL := Lib.hid (made_light A ls.length c w hl)
  obtain ⟨m, hm⟩ : ∃ z, ls.length = z := ⟨_, rfl⟩
  rw [hm] at HR HL ⊢
  obtain ⟨lg, hlg⟩ : ∃ z, decide (m ≤ 400) = z := ⟨_, rfl⟩
  rw [hlg] at HL
  clear hl hr hs hm hlg ht
  rcases lg with _ | _
  · go_enter Tryd.func5, Tryd.ntmps5
    go_wp2_with (first
      | (go_at_call 17; ((with_reducible refine HL.out.mono ?_); rintro e w1 ⟨rfl, hw1⟩); (have hw2 := hw1.symm; clear hw1; subst hw2))
      | (go_at_call 12; ((with_reducible refine (law_awake _ HT.out).mono ?_); rintro e w2 ⟨rfl, hb⟩); have H2 := Lib.hid hb; clear hb))
    go_ret
    exact ⟨rfl, H2.out⟩
  obtain ⟨D, hD⟩ : ∃ z, w.heap.size = z := ⟨_, rfl⟩
  rw [hD] at HR
  have HBR := Lib.hid (show ∀ a b, Below w.heap.size w a → a.grownBy b (some D) → Below w.heap.size w b from fun a b h hg => below_row2 h (by rw [hD]; exact hg))
  have HBD := Lib.hid (show ∀ b, Below D w b → Below w.heap.size w b from fun b h => by rw [hD]; exact h)
  clear hD
  go_enter Tryd.func5, Tryd.ntmps5
  go_wp2_with (first
    | (go_at_call 17; ((with_reducible refine HL.out.mono ?_); rintro e w1 ⟨rfl, hw1⟩); (have hw2 := hw1.symm; clear hw1; subst hw2))
    | (go_at_call 18; ((with_reducible refine HR.out.mono ?_); rintro e w2 ⟨rfl, hd, hb⟩); have H2 := Lib.hid (show Below w.heap.size w w2 ∧ DiceOk w2 D ∧ D < w2.heap.size from ⟨HBD.out _ hb, hd, hd.lt⟩); clear hb hd)
    | (go_at_call 19; ((with_reducible refine (dice_infos D _ H2.out.2.1).mono ?_); rintro e w3 ⟨v, L, rfl, hva, hll, hh, hg, hd⟩); obtain ⟨A3, c3, rfl, hc3, hs3⟩ := HeldI.slice hh; have H3 := Lib.hid (show SeesP w3 (newB w2 w3) A3 (Ics L) ∧ vaE L = 0 ∧ L.length ≤ 15 ∧ Below w.heap.size w w3 ∧ DiceOk w3 D ∧ w2.heap.size ≤ w3.heap.size from ⟨hs3, hva, hll, HBR.out _ _ H2.out.1 hg, hd, hg.size⟩); clear hva hll hh hg hd hc3 hs3)
    | (go_at_call 8; ((with_reducible refine (p_encode_ok L9 H9.out.1 A9 c9 _ H9.out.2.2.1 (HT.out.on H9.out.2.2.2.1)).mono ?_); rintro e w10 ⟨A10, c10, rfl, _, _, hs10, hb⟩); have H10 := Lib.hid (show SeesP w10 (· < w10.heap.size) A10 (Us (seB L9)) ∧ Below w9.heap.size w9 w10 from ⟨hs10.imp newB_up, hb⟩); clear hs10 hb)
    | (go_at_call 8; ((with_reducible refine (p_encode_ok L H3.out.2.1 A3 c3 _ (H3.out.1.imp newB_up) (HT.out.on H3.out.2.2.2.1)).mono ?_); rintro e w4 ⟨A4, c4, rfl, hn4, hc4, hs4, hb⟩); have H4 := Lib.hid (show SeesP w4 (newB w2 w4) A3 (Ics L) ∧ SeesP w4 (newB w2 w4) A4 (Us (seB L)) ∧ Below w.heap.size w w4 ∧ DiceOk w4 D from ⟨H3.out.1.newOn hb, hs4.imp (newB_old H3.out.2.2.2.2.2), below_on H3.out.2.2.2.1 hb, H3.out.2.2.2.2.1.below hb⟩); have HB4 := Lib.hid (show (seB L).length ≤ c4 ∧ (A4 = none → c4 = 0) ∧ (seB L).length ≤ 4096 from ⟨hc4, hn4, seB_len L⟩); clear hs4 hb hc4 hn4)
    | (go_at_call 10; ((with_reducible refine (p_decode_any b8 (by have := H8.out.2.2.1; omega) A8 c8 H8.out.2.2.2 _ H8.out.1 (HT.out.on H8.out.2.1)).mono ?_); rintro e w9 (⟨x, A9, n9, c9, hx, rfl, hb⟩ | ⟨L9, A9, c9, hv9, hb9, rfl, hs9, hb⟩) <;> (first | (have dx : (x != 0) = true := (by simpa using hx); have HZ := Lib.hid (below_on H8.out.2.1 hb); clear hx hb) | (have H9 := Lib.hid (show vaE L9 = 0 ∧ seB L9 = b8 ∧ SeesP w9 (· < w9.heap.size) A9 (Ics L9) ∧ Below w.heap.size w w9 ∧ SeesP w9 (· < w9.heap.size) A8 (Us b8) from ⟨hv9, hb9, hs9.imp newB_up, below_on H8.out.2.1 hb, SeesP.on2 H8.out.1 hb⟩); clear hv9 hb9 hs9 hb))))
    | (go_at_call 10; ((with_reducible refine (p_decode_ok L H3.out.2.1 A4 c4 HB4.out.1 _ (H4.out.2.1.imp newB_up) (HT.out.on H4.out.2.2.1)).mono ?_); rintro e w5 ⟨A5, c5, rfl, hs5, hb⟩); have H5 := Lib.hid (show SeesP w5 (newB w2 w5) A3 (Ics L) ∧ SeesP w5 (newB w2 w5) A4 (Us (seB L)) ∧ Below w.heap.size w w5 ∧ DiceOk w5 D ∧ SeesP w5 (· < w5.heap.size) A5 (Ics L) from ⟨H4.out.1.newOn hb, H4.out.2.1.newOn hb, below_on H4.out.2.2.1 hb, H4.out.2.2.2.below hb, hs5.imp newB_up⟩); clear hs5 hb)
    | (go_at_call 12; ((with_reducible refine (law_awake _ (HT.out.on H5.out.2.2.1)).mono ?_); rintro e w6 ⟨rfl, hb⟩); have H6 := Lib.hid (show SeesP w6 (· < w6.heap.size) A3 (Ics L) ∧ SeesP w6 (newB w2 w6) A4 (Us (seB L)) ∧ Below w.heap.size w w6 ∧ DiceOk w6 D ∧ SeesP w6 (· < w6.heap.size) A5 (Ics L) from ⟨(H5.out.1.newOn hb).imp newB_up, H5.out.2.1.newOn hb, below_on H5.out.2.2.1 hb, H5.out.2.2.2.1.below hb, SeesP.on2 H5.out.2.2.2.2 hb⟩); clear hb)
    | (go_at_call 16; ((with_reducible refine (r_isame L L.length rfl (by have := H3.out.2.2.1; omega) A3 A5 c3 c5 _ H6.out.1 H6.out.2.2.2.2).mono ?_); rintro e w7 ⟨rfl, hb⟩); have H7 := Lib.hid (show SeesP w7 (newB w2 w7) A4 (Us (seB L)) ∧ Below w.heap.size w w7 ∧ DiceOk w7 D from ⟨H6.out.2.1.newOn hb, below_on H6.out.2.2.1 hb, H6.out.2.2.2.1.below hb⟩); clear hb)
    | (go_at_call 22; ((with_reducible refine (dice_spoil D (seB L) A4 c4 _ (by have := HB4.out.2.2; omega) HB4.out.2.1 (H7.out.1.imp newB_up) H7.out.2.2).mono ?_); rintro e w8 ⟨b8, A8, c8, rfl, hc8, hl8, hs8, hg, hd⟩); have H8 := Lib.hid (show SeesP w8 (· < w8.heap.size) A8 (Us b8) ∧ Below w.heap.size w w8 ∧ b8.length ≤ 5000 ∧ b8.length ≤ c8 from ⟨hs8.imp newB_up, HBR.out _ _ H7.out.2.1 hg, (by have := HB4.out.2.2; omega), hc8⟩); clear hc8 hl8 hs8 hg hd)
    | (go_at_call 15; (rw [H9.out.2.1]); ((with_reducible refine (ref_same_yes A10 A8 c10 c8 b8 _ (SeesP.iff_sees.1 (by rw [← H9.out.2.1]; exact H10.out.1)) (SeesP.iff_sees.1 (SeesP.on2 H9.out.2.2.2.2 H10.out.2)) (by have := H8.out.2.2.1; unfold maxLen; omega)).mono ?_); rintro e w11 ⟨rfl, hb⟩); have HZ := Lib.hid (below_on (below_on H9.out.2.2.2.1 H10.out.2) hb); clear hb))
  all_goals
    go_ret
    exact ⟨rfl, HZ.out⟩
end Go.Proofs.YtmkggpgpiepjfaaDoor
