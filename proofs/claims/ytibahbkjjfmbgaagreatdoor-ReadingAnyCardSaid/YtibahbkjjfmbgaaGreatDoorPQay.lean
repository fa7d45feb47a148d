/-
  What is proved here: the law on any reading: what it answers.
-/
import Derived.Test.YtibahbkjjfmbgaaGreatDoorPX6
import Derived.Test.YtibahbkjjfmbgaaGreatDoorPQpr
import Derived.Test.YtibahbkjjfmbgaaGreatDoorPQ2
namespace Go.Proofs.YtibahbkjjfmbgaaGreatDoor
open Go.RowKit
set_option linter.unusedVariables false
set_option maxHeartbeats 4000000 in
set_option maxRecDepth 20000 in
theorem p_lany (L : List (List (List UInt8))) (hf : Fits3 L) (A : Option Addr) (n c : Nat) (hn : L.length = n) (w : World) (hM : Mm w) (hG : TabG 0 w) (hs : Rdg w A L) :
 Calls Tryz.prog 6 #[.slice A n c] w fun e w' => e = .returned (.bool true) ∧ Below w.heap.size w w' := by
 have HM := Lib.hid (show _ ∧ _ from ⟨hM, hG⟩)
 have HS := Lib.hid hs
 have HB := Lib.hid (Below.refl w.heap.size w)
 have hX := rds_small L
 have hO := onl_small L
 have HC := Lib.hid (fun w hs => r_count L A n c hn hf.2.2 w hs)
 have HPR := Lib.hid (fun w hM hs => p_readings L hf A n c hn w hM hs)
 have HRR := Lib.hid (fun w hs => r_readings L A n c hn hf.2.2 w hs)
 have HPO := Lib.hid (fun w hM hs => p_only L hf A n c hn w hM hs)
 have HRO := Lib.hid (fun w hs => r_only L A n c hn hf.2.2 w hs)
 unfold OnlP at HPO
 obtain ⟨ce, hce⟩ : ∃ ce, cntE L = ce := ⟨_, rfl⟩
 obtain ⟨cv, hcv⟩ : ∃ cv, cntV L = cv := ⟨_, rfl⟩
 obtain ⟨oe, hoe⟩ : ∃ oe, onlE L = oe := ⟨_, rfl⟩
 obtain ⟨X, hXX⟩ : ∃ X, rdsL L = X := ⟨_, rfl⟩
 obtain ⟨xl, hxl⟩ : ∃ xl, X.length = xl := ⟨_, rfl⟩
 obtain ⟨O, hOO⟩ : ∃ O, onlL L = O := ⟨_, rfl⟩
 obtain ⟨ol, hol⟩ : ∃ ol, O.length = ol := ⟨_, rfl⟩
 rw [hce, hcv] at HC
 rw [hce, hXX, hxl] at HPR HRR
 rw [hoe, hOO, hol] at HPO HRO
 rw [hXX, hxl] at hX
 rw [hOO, hol] at hO
 have HSA := Lib.hid (fun A B c d w ha hb => r_same2 X A B xl c d hxl hX.1 hX.2 w ha hb)
 have HSB := Lib.hid (fun A B c d w ha hb => r_same_eq O A B ol c d hol hO w ha hb)
 clear hX hO hoe hXX hxl hOO hol hM hG hs hf hn hce hcv
 by_cases h0 : ce = 0
 ·
  subst h0
  by_cases h64 : (64 : Int) < (cv : Int)
  · go_enter Tryz.func6, Tryz.ntmps6
    go_wp2_with (first
     | (go_at_call 26; ((with_reducible refine (HC.out _ (HS.out.on HB.out)).mono ?_); rintro e w1 ⟨rfl, hb⟩); replace HB := Lib.hid (below_on HB.out hb); clear hb)
     | (go_at_call 11; ((with_reducible refine (p_awake _ (HM.out.1.on HB.out) (HM.out.2.on HB.out)).mono ?_); rintro e w6 ⟨rfl, hb⟩); replace HB := Lib.hid (below_on HB.out hb); clear hb))
    go_ret
    exact ⟨by first | rfl | simp, HB.out⟩
  ·
   have h64f : ((64 : Int) < (cv : Int)) = False := by simp; omega
   clear h64
   go_enter Tryz.func6, Tryz.ntmps6
   go_wp2_with (first
    | (go_at_call 26; ((with_reducible refine (HC.out _ (HS.out.on HB.out)).mono ?_); rintro e w1 ⟨rfl, hb⟩); replace HB := Lib.hid (below_on HB.out hb); clear hb)
    | (go_at_call 20; ((with_reducible refine (HPR.out _ (HM.out.1.on HB.out) (HS.out.on HB.out)).mono ?_); rintro e w2 ⟨A1, c1, rfl, hx, hb⟩); have HX := Lib.hid hx; replace HB := Lib.hid (below_on HB.out hb); clear hb hx)
    | (go_at_call 21; ((with_reducible refine (HRR.out _ (HS.out.on HB.out)).mono ?_); rintro e w3 ⟨A2, c2, rfl, hx, hb⟩); have HY := Lib.hid hx; replace HX := Lib.hid (HX.out.on hb); replace HB := Lib.hid (below_on HB.out hb); clear hb hx)
    | (go_at_call 22; ((with_reducible refine (HPO.out _ (HM.out.1.on HB.out) (HS.out.on HB.out)).mono ?_); rintro e w4 ⟨A3, rfl, hx, hb⟩); have HXO := Lib.hid hx.1; replace HX := Lib.hid (HX.out.on hb); replace HY := Lib.hid (HY.out.on hb); replace HB := Lib.hid (below_on HB.out hb); clear hb hx)
    | (go_at_call 23; ((with_reducible refine (HRO.out _ (HS.out.on HB.out)).mono ?_); rintro e w5 ⟨A4, c4, rfl, hx, hb⟩); have HYO := Lib.hid hx; replace HX := Lib.hid (HX.out.on hb); replace HY := Lib.hid (HY.out.on hb); replace HXO := Lib.hid (Strs.on HXO.out hb); replace HB := Lib.hid (below_on HB.out hb); clear hb hx)
    | (go_at_call 11; ((with_reducible refine (p_awake _ (HM.out.1.on HB.out) (HM.out.2.on HB.out)).mono ?_); rintro e w6 ⟨rfl, hb⟩); replace HX := Lib.hid (HX.out.on hb); replace HY := Lib.hid (HY.out.on hb); replace HXO := Lib.hid (Strs.on HXO.out hb); replace HYO := Lib.hid (Strs.on HYO.out hb); replace HB := Lib.hid (below_on HB.out hb); clear hb)
    | (go_at_call 15; ((with_reducible refine (HSA.out _ _ _ _ _ HX.out HY.out).mono ?_); rintro e w7 ⟨rfl, hb⟩); replace HXO := Lib.hid (Strs.on HXO.out hb); replace HYO := Lib.hid (Strs.on HYO.out hb); replace HB := Lib.hid (below_on HB.out hb); clear hb)
    | (go_at_call 24; ((with_reducible refine (HSB.out _ _ _ _ _ HXO.out HYO.out).mono ?_); rintro e w8 ⟨rfl, hb⟩); replace HB := Lib.hid (below_on HB.out hb); clear hb))
   go_ret
   exact ⟨by first | rfl | simp, HB.out⟩
 ·
  have hc0 : (ce = 0) = False := by simpa using h0
  clear h0
  go_enter Tryz.func6, Tryz.ntmps6
  go_wp2_with (first
   | (go_at_call 26; ((with_reducible refine (HC.out _ (HS.out.on HB.out)).mono ?_); rintro e w1 ⟨rfl, hb⟩); replace HB := Lib.hid (below_on HB.out hb); clear hb)
   | (go_at_call 20; ((with_reducible refine (HPR.out _ (HM.out.1.on HB.out) (HS.out.on HB.out)).mono ?_); rintro e w2 ⟨A1, c1, rfl, hx, hb⟩); have HX := Lib.hid hx; replace HB := Lib.hid (below_on HB.out hb); clear hb hx)
   | (go_at_call 21; ((with_reducible refine (HRR.out _ (HS.out.on HB.out)).mono ?_); rintro e w3 ⟨A2, c2, rfl, hx, hb⟩); have HY := Lib.hid hx; replace HX := Lib.hid (HX.out.on hb); replace HB := Lib.hid (below_on HB.out hb); clear hb hx)
   | (go_at_call 22; ((with_reducible refine (HPO.out _ (HM.out.1.on HB.out) (HS.out.on HB.out)).mono ?_); rintro e w4 ⟨A3, rfl, hx, hb⟩); have HXO := Lib.hid hx.1; replace HX := Lib.hid (HX.out.on hb); replace HY := Lib.hid (HY.out.on hb); replace HB := Lib.hid (below_on HB.out hb); clear hb hx)
   | (go_at_call 23; ((with_reducible refine (HRO.out _ (HS.out.on HB.out)).mono ?_); rintro e w5 ⟨A4, c4, rfl, hx, hb⟩); have HYO := Lib.hid hx; replace HX := Lib.hid (HX.out.on hb); replace HY := Lib.hid (HY.out.on hb); replace HXO := Lib.hid (Strs.on HXO.out hb); replace HB := Lib.hid (below_on HB.out hb); clear hb hx)
   | (go_at_call 11; ((with_reducible refine (p_awake _ (HM.out.1.on HB.out) (HM.out.2.on HB.out)).mono ?_); rintro e w6 ⟨rfl, hb⟩); replace HX := Lib.hid (HX.out.on hb); replace HY := Lib.hid (HY.out.on hb); replace HXO := Lib.hid (Strs.on HXO.out hb); replace HYO := Lib.hid (Strs.on HYO.out hb); replace HB := Lib.hid (below_on HB.out hb); clear hb)
   | (go_at_call 15; ((with_reducible refine (HSA.out _ _ _ _ _ HX.out HY.out).mono ?_); rintro e w7 ⟨rfl, hb⟩); replace HXO := Lib.hid (Strs.on HXO.out hb); replace HYO := Lib.hid (Strs.on HYO.out hb); replace HB := Lib.hid (below_on HB.out hb); clear hb)
   | (go_at_call 24; ((with_reducible refine (HSB.out _ _ _ _ _ HXO.out HYO.out).mono ?_); rintro e w8 ⟨rfl, hb⟩); replace HB := Lib.hid (below_on HB.out hb); clear hb))
  go_ret
  exact ⟨by first | rfl | simp, HB.out⟩
end Go.Proofs.YtibahbkjjfmbgaaGreatDoor
