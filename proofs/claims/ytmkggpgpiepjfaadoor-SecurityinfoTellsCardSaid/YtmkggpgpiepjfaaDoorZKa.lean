/-
  What is proved here: the law SecurityinfoMade as a function.
-/
import Derived.Test.YtmkggpgpiepjfaaDoorZJz
import Derived.Test.YtmkggpgpiepjfaaDoorZG18
namespace Go.Proofs.YtmkggpgpiepjfaaDoor
open Go.RowKit
set_option maxRecDepth 8000
set_option linter.unusedVariables false
set_option linter.unusedSimpArgs false
theorem below_row2 {w a b : World} (h : Below w.heap.size w a) (hg : a.grownBy b (some w.heap.size)) : Below w.heap.size w b :=
  h.grown hg h.size (fun g e => by injection e with e; omega)
theorem newB_up {w w' : World} : ∀ b, newB w w' b → b < w'.heap.size := fun b h => And.right (show w.heap.size ≤ b ∧ b < w'.heap.size from h)
theorem newB_old {w0 w w' : World} (hw : w0.heap.size ≤ w.heap.size) : ∀ b, newB w w' b → newB w0 w' b := fun b h => ⟨Nat.le_trans hw (And.left (show w.heap.size ≤ b ∧ b < w'.heap.size from h)), newB_up b h⟩
set_option maxHeartbeats 3200000 in
set_option maxRecDepth 20000 in
theorem law_made (A : Option Addr) (c : Nat) (ls : List Int) (w : World) (ht : TabX w) (hl : ls.length ≤ 140737488351232) (hr : ∀ x ∈ ls, -9223372036854775808 ≤ x ∧ x ≤ 9223372036854775807) (hs : SeesP w (· < w.heap.size) A (ls.map (Value.int .i64))) :
    Calls Tryd.prog 4 #[.slice A ls.length c] w fun e w' => e = .returned (.bool true) ∧ Below w.heap.size w w' := by
  have HT := Lib.hid ht
  have HR := Lib.hid (made_roll A c ls w hl hr hs)
  have HL := Lib.hid (made_light A ls.length c w hl)
  obtain ⟨m, hm⟩ : ∃ z, ls.length = z := ⟨_, rfl⟩
  rw [hm] at HR HL ⊢
  obtain ⟨lg, hlg⟩ : ∃ z, decide (m ≤ 400) = z := ⟨_, rfl⟩
  rw [hlg] at HL
  clear hl hr hs hm hlg ht
  rcases lg with _ | _
  · go_enter Tryd.func4, Tryd.ntmps4
    go_wp2_with (first
      | (go_at_call 17; ((with_reducible refine HL.out.mono ?_); rintro e w1 ⟨rfl, hw1⟩); (have hw2 := hw1.symm; clear hw1; subst hw2))
      | (go_at_call 12; ((with_reducible refine (law_awake _ HT.out).mono ?_); rintro e w2 ⟨rfl, hb⟩); have H2 := Lib.hid hb; clear hb))
    go_ret
    exact ⟨rfl, H2.out⟩
  obtain ⟨D, hD⟩ : ∃ z, w.heap.size = z := ⟨_, rfl⟩
  rw [hD] at HR
  have HBR := Lib.hid (show ∀ a b, Below w.heap.size w a → a.grownBy b (some D) → Below w.heap.size w b from fun a b h hg => below_row2 h (by rw [hD]; exact hg))
  have HBD := Lib.hid (show ∀ b, Below D w b → Below w.heap.size w b from fun b h => by rw [hD]; exact h)
  have HON := Lib.hid (show ∀ w, DiceOk w D → Calls Tryd.prog 20 #[.pointer (some ⟨D, 0, none⟩), .int .i64 2] w (OneIs w D) from fun w h => dice_one D 2 w (by decide) (by decide) h)
  have HEX := Lib.hid (show ∀ (l : List Im) (A : Option Addr) (c : Nat) (b : List UInt8) (B : Option Addr) (d : Nat) (u : World), Below w.heap.size w u → l.length ≤ 2000 → b.length ≤ 5000 → b.length ≤ d → SeesP u (· < u.heap.size) A (Ics l) → SeesP u (· < u.heap.size) B (Us b) → Calls Tryd.prog 3 #[.slice A l.length c, .slice B b.length d] u fun e w' => e = .returned (.bool true) ∧ Below u.heap.size u w' from fun l A c b B d u hb h1 h2 h3 h4 h5 => law_exact l l.length rfl (by omega) A c b b.length rfl (by omega) B d h3 u (HT.out.on hb) h4 h5)
  clear hD
  go_enter Tryd.func4, Tryd.ntmps4
  go_wp2_with (first
    | (go_at_call 17; ((with_reducible refine HL.out.mono ?_); rintro e w1 ⟨rfl, hw1⟩); (have hw2 := hw1.symm; clear hw1; subst hw2))
    | (go_at_call 18; ((with_reducible refine HR.out.mono ?_); rintro e w2 ⟨rfl, hd, hb⟩); have H2 := Lib.hid (show Below w.heap.size w w2 ∧ DiceOk w2 D ∧ D < w2.heap.size from ⟨HBD.out _ hb, hd, hd.lt⟩); clear hb hd)
    | (go_at_call 19; ((with_reducible refine (dice_infos D _ H2.out.2.1).mono ?_); rintro e w3 ⟨v, L, rfl, hva, hll, hh, hg, hd⟩); obtain ⟨A3, c3, rfl, hc3, hs3⟩ := HeldI.slice hh; have H3 := Lib.hid (show SeesP w3 (newB w2 w3) A3 (Ics L) ∧ (A3 = none → c3 = 0) ∧ L.length ≤ 15 ∧ Below w.heap.size w w3 ∧ DiceOk w3 D ∧ w2.heap.size ≤ w3.heap.size from ⟨hs3, hc3.1, hll, HBR.out _ _ H2.out.1 hg, hd, hg.size⟩); clear hva hll hh hg hd hc3 hs3)
    | (go_at_call 9; ((with_reducible refine (r_iencode L L.length rfl (by have := H3.out.2.2.1; omega) A3 c3 _ (H3.out.1.imp newB_up)).mono ?_); rintro e w4 ⟨A4, c4, rfl, hs4, hb, hc4, hn4⟩); have H4 := Lib.hid (show SeesP w4 (newB w2 w4) A3 (Ics L) ∧ SeesP w4 (newB w2 w4) A4 (Us (seB L)) ∧ Below w.heap.size w w4 ∧ DiceOk w4 D from ⟨H3.out.1.newOn hb, hs4.imp fun b hb => ⟨Nat.le_trans H3.out.2.2.2.2.2 hb.1, hb.2⟩, below_on H3.out.2.2.2.1 hb, H3.out.2.2.2.2.1.below hb⟩); have HS4 := Lib.hid (show w2.heap.size ≤ w4.heap.size from Nat.le_trans H3.out.2.2.2.2.2 hb.size); have HB4 := Lib.hid (show (seB L).length ≤ c4 ∧ (A4 = none → c4 = 0) ∧ (seB L).length ≤ 4096 from ⟨hc4, hn4, seB_len L⟩); clear hs4 hb hc4 hn4)
    | (go_at_call 20; ((with_reducible refine (HON.out _ H6.out.2.2.2).mono ?_); rintro e w7 ⟨q2, rfl, hg, hd⟩); have H7 := Lib.hid (show SeesP w7 (newB w2 w7) A6 (Ics L6) ∧ SeesP w7 (newB w2 w7) A4 (Us (seB L)) ∧ Below w.heap.size w w7 ∧ DiceOk w7 D from ⟨H6.out.1.dice hg H2.out.2.2, H6.out.2.1.dice hg H2.out.2.2, HBR.out _ _ H6.out.2.2.1 hg, hd⟩); clear hg hd; rcases q2 with _ | _)
    | (go_at_call 20; ((with_reducible refine (HON.out _ H5.out.2.2.2).mono ?_); rintro e w7 ⟨q2, rfl, hg, hd⟩); have H7 := Lib.hid (show SeesP w7 (newB w2 w7) A3 (Ics L) ∧ SeesP w7 (newB w2 w7) A4 (Us (seB L)) ∧ Below w.heap.size w w7 ∧ DiceOk w7 D from ⟨H5.out.1.dice hg H2.out.2.2, H5.out.2.1.dice hg H2.out.2.2, HBR.out _ _ H5.out.2.2.1 hg, hd⟩); clear hg hd; rcases q2 with _ | _)
    | (go_at_call 20; ((with_reducible refine (HON.out _ H4.out.2.2.2).mono ?_); rintro e w5 ⟨q1, rfl, hg, hd⟩); have H5 := Lib.hid (show SeesP w5 (newB w2 w5) A3 (Ics L) ∧ SeesP w5 (newB w2 w5) A4 (Us (seB L)) ∧ Below w.heap.size w w5 ∧ DiceOk w5 D from ⟨H4.out.1.dice hg H2.out.2.2, H4.out.2.1.dice hg H2.out.2.2, HBR.out _ _ H4.out.2.2.1 hg, hd⟩); have HS5 := Lib.hid (show w2.heap.size ≤ w5.heap.size from Nat.le_trans HS4.out hg.size); clear hg hd; rcases q1 with _ | _)
    | (go_at_call 21; ((with_reducible refine (dice_odd D L L.length rfl (by have := H3.out.2.2.1; omega) A3 c3 H3.out.2.1 _ H5.out.2.2.2 (H5.out.1.imp newB_up)).mono ?_); rintro e w6 ⟨A6, c6, L6, rfl, hl6, hs6, hg, hd⟩); have H6 := Lib.hid (show SeesP w6 (newB w2 w6) A6 (Ics L6) ∧ SeesP w6 (newB w2 w6) A4 (Us (seB L)) ∧ Below w.heap.size w w6 ∧ DiceOk w6 D from ⟨hs6.imp (newB_old HS5.out), H5.out.2.1.dice hg H2.out.2.2, HBR.out _ _ H5.out.2.2.1 hg, hd⟩); have HL6 := Lib.hid hl6; clear hl6 hs6 hg hd)
    | (go_at_call 22; ((with_reducible refine (dice_spoil D (seB L) A4 c4 _ (by have := HB4.out.2.2; omega) HB4.out.2.1 (H7.out.2.1.imp newB_up) H7.out.2.2.2).mono ?_); rintro e w8 ⟨b8, A8, c8, rfl, hc8, hl8, hs8, hg, hd⟩); have H8 := Lib.hid (show SeesP w8 (· < w8.heap.size) A8 (Us b8) ∧ Below w.heap.size w w8 ∧ b8.length ≤ 5000 ∧ b8.length ≤ c8 from ⟨hs8.imp newB_up, HBR.out _ _ H7.out.2.2.1 hg, (by have := HB4.out.2.2; omega), hc8⟩); have H8L := Lib.hid ((H7.out.1.dice hg H2.out.2.2).imp newB_up); clear hc8 hl8 hs8 hg hd)
    | (go_at_call 3; ((with_reducible refine (HEX.out _ _ _ _ _ _ _ H8.out.2.1 (by first | exact HL6.out | (have := H3.out.2.2.1; omega)) H8.out.2.2.1 H8.out.2.2.2 H8L.out H8.out.1).mono ?_); rintro e w9 ⟨rfl, hb⟩); have H9 := Lib.hid (below_on H8.out.2.1 hb); clear hb)
    | (go_at_call 3; ((with_reducible refine (HEX.out _ _ _ _ _ _ _ H7.out.2.2.1 (by first | exact HL6.out | (have := H3.out.2.2.1; omega)) (by have := HB4.out.2.2; omega) HB4.out.1 (H7.out.1.imp newB_up) (H7.out.2.1.imp newB_up)).mono ?_); rintro e w9 ⟨rfl, hb⟩); have H9 := Lib.hid (below_on H7.out.2.2.1 hb); clear hb))
  all_goals
    go_ret
    exact ⟨rfl, H9.out⟩
end Go.Proofs.YtmkggpgpiepjfaaDoor
