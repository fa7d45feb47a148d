/-
  What is proved here: what the program's and the reference's Age return, for every two numbers, where the table of the months lies in memory as the program lays it.
-/
import Derived.Test.YtgecahokkgealaaDoorDrf
namespace Go.Proofs.YtgecahokkgealaaDoor
open Go.RowKit

/-- whether the birthday is not reached in the year of the second day -/
def early (b o : Int) : Bool := decide (pM o < pM b) || (pM o == pM b) && decide (pD o < pD b)
/-- what Age answers -/
def agV (b o : Int) : Int := if dayB b = true ∧ dayB o = true ∧ b ≤ o then (if early b o = true then pY o - pY b - 1 else pY o - pY b) else 0
def agE (b o : Int) : Int := if dayB b = true ∧ dayB o = true then (if b ≤ o then 0 else 3) else 8
def AgEnd (b o : Int) (e : Ending) : Prop := e = .returned (.tuple #[.int .i64 (agV b o), .int .i64 (agE b o)])
theorem ag_no {b o : Int} (h : ¬ (dayB b = true ∧ dayB o = true)) : AgEnd b o (.returned (.tuple #[.int .i64 0, .int .i64 8])) := by
  unfold AgEnd agE agV; rw [if_neg h, if_neg (fun ⟨x, y, _⟩ => h ⟨x, y⟩)]
theorem ag_less {b o : Int} (h1 : dayB b = true) (h2 : dayB o = true) (h : o < b) : AgEnd b o (.returned (.tuple #[.int .i64 0, .int .i64 3])) := by
  have e1 : agE b o = 3 := by unfold agE; rw [if_pos ⟨h1, h2⟩, if_neg (by omega)]
  have e2 : agV b o = 0 := by unfold agV; rw [if_neg (fun h => by omega)]
  unfold AgEnd; rw [e1, e2]
theorem ag_early {b o : Int} (h1 : dayB b = true) (h2 : dayB o = true) (h : b ≤ o) (he : early b o = true) : AgEnd b o (.returned (.tuple #[.int .i64 (pY o - pY b - 1), .int .i64 0])) := by
  have e1 : agE b o = 0 := by unfold agE; rw [if_pos ⟨h1, h2⟩, if_pos h]
  have e2 : agV b o = pY o - pY b - 1 := by unfold agV; rw [if_pos ⟨h1, h2, h⟩, if_pos he]
  unfold AgEnd; rw [e1, e2]
theorem ag_late {b o : Int} (h1 : dayB b = true) (h2 : dayB o = true) (h : b ≤ o) (he : early b o = false) : AgEnd b o (.returned (.tuple #[.int .i64 (pY o - pY b), .int .i64 0])) := by
  have e1 : agE b o = 0 := by unfold agE; rw [if_pos ⟨h1, h2⟩, if_pos h]
  have e2 : agV b o = pY o - pY b := by unfold agV; rw [if_pos ⟨h1, h2, h⟩, if_neg (by rw [he]; decide)]
  unfold AgEnd; rw [e1, e2]

set_option maxHeartbeats 2000000 in
theorem day_age (b o : Int) (w : World) (ht : Tab w) : Calls Tryd.prog 24 #[.int .i64 b, .int .i64 o] w fun e w' => AgEnd b o e ∧ w' = w := by
  by_cases hb : dayB b = true
  · by_cases ho : dayB o = true
    · by_cases hlt : o < b
      · have H := ag_less hb ho hlt
        go_enter Tryd.func24, Tryd.ntmps24
        go_wp2_with ((go_at_call 16; with_reducible refine (day_valid _ _).mono ?_); rintro e w' ⟨rfl, rfl⟩)
        go_ret2
        exact ⟨H, rfl⟩
      · have hle : b ≤ o := by omega
        obtain ⟨y1, y2, m1, m2, d1, d2, n1, e1⟩ := p_ok hb
        obtain ⟨y3, y4, m3, m4, d3, d4, n2, e2⟩ := p_ok ho
        have E1 := Lib.hid e1
        have E2 := Lib.hid e2
        have q1 := Cal.dim_bd (pY b) (pM b)
        have q2 := Cal.dim_bd (pY o) (pM o)
        clear n1 n2 e1 e2 hlt
        have HE := @ag_early b o hb ho hle
        have HL := @ag_late b o hb ho hle
        have HX := Lib.hid (And.intro HE HL)
        clear HE HL
        have hs : early b o = (decide (pM o < pM b) || (pM o == pM b) && decide (pD o < pD b)) := rfl
        by_cases c1 : pM o < pM b
        · have g1 : decide (pM o < pM b) = true := by simpa using c1
          rw [g1, Bool.true_or] at hs
          have H := HX.out.1 hs
          clear HX hs c1
          go_enter Tryd.func24, Tryd.ntmps24
          go_wp2_with (first | ((go_at_call 16; with_reducible refine (day_valid _ _).mono ?_); rintro e w' ⟨rfl, rfl⟩) | ((go_at_call 13; with_reducible refine (day_parts _ _ ht).mono ?_); rintro e w' ⟨he, rfl⟩; unfold PEnd at he; (first | rw [E1.out] at he | rw [E2.out] at he); subst he))
          go_ret2
          exact ⟨H, rfl⟩
        · have g1 : decide (pM o < pM b) = false := by simpa using c1
          by_cases c2 : pM o = pM b
          · have g2 : (pM o == pM b) = true := by simpa using c2
            by_cases c3 : pD o < pD b
            · have g3 : decide (pD o < pD b) = true := by simpa using c3
              rw [g1, g2, g3, Bool.false_or, Bool.true_and] at hs
              have H := HX.out.1 hs
              clear HX hs c1 c2 c3
              go_enter Tryd.func24, Tryd.ntmps24
              go_wp2_with (first | ((go_at_call 16; with_reducible refine (day_valid _ _).mono ?_); rintro e w' ⟨rfl, rfl⟩) | ((go_at_call 13; with_reducible refine (day_parts _ _ ht).mono ?_); rintro e w' ⟨he, rfl⟩; unfold PEnd at he; (first | rw [E1.out] at he | rw [E2.out] at he); subst he))
              go_ret2
              exact ⟨H, rfl⟩
            · have g3 : decide (pD o < pD b) = false := by simpa using c3
              rw [g1, g2, g3, Bool.false_or, Bool.true_and] at hs
              have H := HX.out.2 hs
              clear HX hs c1 c2 c3
              go_enter Tryd.func24, Tryd.ntmps24
              go_wp2_with (first | ((go_at_call 16; with_reducible refine (day_valid _ _).mono ?_); rintro e w' ⟨rfl, rfl⟩) | ((go_at_call 13; with_reducible refine (day_parts _ _ ht).mono ?_); rintro e w' ⟨he, rfl⟩; unfold PEnd at he; (first | rw [E1.out] at he | rw [E2.out] at he); subst he))
              go_ret2
              exact ⟨H, rfl⟩
          · have g2 : (pM o == pM b) = false := by simpa using c2
            rw [g1, g2, Bool.false_or, Bool.false_and] at hs
            have H := HX.out.2 hs
            clear HX hs c1 c2
            go_enter Tryd.func24, Tryd.ntmps24
            go_wp2_with (first | ((go_at_call 16; with_reducible refine (day_valid _ _).mono ?_); rintro e w' ⟨rfl, rfl⟩) | ((go_at_call 13; with_reducible refine (day_parts _ _ ht).mono ?_); rintro e w' ⟨he, rfl⟩; unfold PEnd at he; (first | rw [E1.out] at he | rw [E2.out] at he); subst he))
            go_ret2
            exact ⟨H, rfl⟩
    · have H := @ag_no b o (fun h => ho h.2)
      have ho : dayB o = false := by simpa using ho
      go_enter Tryd.func24, Tryd.ntmps24
      go_wp2_with ((go_at_call 16; with_reducible refine (day_valid _ _).mono ?_); rintro e w' ⟨rfl, rfl⟩)
      go_ret2
      exact ⟨H, rfl⟩
  · have H := @ag_no b o (fun h => hb h.1)
    have hb : dayB b = false := by simpa using hb
    go_enter Tryd.func24, Tryd.ntmps24
    go_wp2_with ((go_at_call 16; with_reducible refine (day_valid _ _).mono ?_); rintro e w' ⟨rfl, rfl⟩)
    go_ret2
    exact ⟨H, rfl⟩
set_option maxHeartbeats 2000000 in
theorem r_age (b o : Int) (w : World) : Calls Tryd.prog 25 #[.int .i64 b, .int .i64 o] w fun e w' => AgEnd b o e ∧ w' = w := by
  by_cases hb : dayB b = true
  · obtain ⟨y1, y2, m1, m2, d1, d2, n1, e1⟩ := p_ok hb
    have E1 := Lib.hid e1
    have q1 := Cal.dim_bd (pY b) (pM b)
    clear n1 e1
    by_cases ho : dayB o = true
    · obtain ⟨y3, y4, m3, m4, d3, d4, n2, e2⟩ := p_ok ho
      have E2 := Lib.hid e2
      have q2 := Cal.dim_bd (pY o) (pM o)
      clear n2 e2
      by_cases hlt : o < b
      · have H := ag_less hb ho hlt
        go_enter Tryd.func25, Tryd.ntmps25
        go_wp2_with ((go_at_call 14; with_reducible refine (r_parts _ _).mono ?_); rintro e w' ⟨he, rfl⟩; unfold PEnd at he; (first | rw [E1.out] at he | rw [E2.out] at he); subst he)
        go_ret2
        exact ⟨H, rfl⟩
      · have hle : b ≤ o := by omega
        clear hlt
        have HX := Lib.hid (And.intro (@ag_early b o hb ho hle) (@ag_late b o hb ho hle))
        have hs : early b o = (decide (pM o < pM b) || (pM o == pM b) && decide (pD o < pD b)) := rfl
        by_cases c1 : pM o < pM b
        · have g1 : decide (pM o < pM b) = true := by simpa using c1
          rw [g1, Bool.true_or] at hs
          have H := HX.out.1 hs
          clear HX hs c1
          go_enter Tryd.func25, Tryd.ntmps25
          go_wp2_with ((go_at_call 14; with_reducible refine (r_parts _ _).mono ?_); rintro e w' ⟨he, rfl⟩; unfold PEnd at he; (first | rw [E1.out] at he | rw [E2.out] at he); subst he)
          go_ret2
          exact ⟨H, rfl⟩
        · have g1 : decide (pM o < pM b) = false := by simpa using c1
          by_cases c2 : pM o = pM b
          · have g2 : (pM o == pM b) = true := by simpa using c2
            by_cases c3 : pD o < pD b
            · have g3 : decide (pD o < pD b) = true := by simpa using c3
              rw [g1, g2, g3, Bool.false_or, Bool.true_and] at hs
              have H := HX.out.1 hs
              clear HX hs c1 c2 c3
              go_enter Tryd.func25, Tryd.ntmps25
              go_wp2_with ((go_at_call 14; with_reducible refine (r_parts _ _).mono ?_); rintro e w' ⟨he, rfl⟩; unfold PEnd at he; (first | rw [E1.out] at he | rw [E2.out] at he); subst he)
              go_ret2
              exact ⟨H, rfl⟩
            · have g3 : decide (pD o < pD b) = false := by simpa using c3
              rw [g1, g2, g3, Bool.false_or, Bool.true_and] at hs
              have H := HX.out.2 hs
              clear HX hs c1 c2 c3
              go_enter Tryd.func25, Tryd.ntmps25
              go_wp2_with ((go_at_call 14; with_reducible refine (r_parts _ _).mono ?_); rintro e w' ⟨he, rfl⟩; unfold PEnd at he; (first | rw [E1.out] at he | rw [E2.out] at he); subst he)
              go_ret2
              exact ⟨H, rfl⟩
          · have g2 : (pM o == pM b) = false := by simpa using c2
            rw [g1, g2, Bool.false_or, Bool.false_and] at hs
            have H := HX.out.2 hs
            clear HX hs c1 c2
            go_enter Tryd.func25, Tryd.ntmps25
            go_wp2_with ((go_at_call 14; with_reducible refine (r_parts _ _).mono ?_); rintro e w' ⟨he, rfl⟩; unfold PEnd at he; (first | rw [E1.out] at he | rw [E2.out] at he); subst he)
            go_ret2
            exact ⟨H, rfl⟩
    · have H := @ag_no b o (fun h => ho h.2)
      have ho : dayB o = false := by simpa using ho
      have E2 := Lib.hid (p_no ho).2.2.2
      go_enter Tryd.func25, Tryd.ntmps25
      go_wp2_with ((go_at_call 14; with_reducible refine (r_parts _ _).mono ?_); rintro e w' ⟨he, rfl⟩; unfold PEnd at he; (first | rw [E1.out] at he | rw [E2.out] at he); subst he)
      go_ret2
      exact ⟨H, rfl⟩
  · have H := @ag_no b o (fun h => hb h.1)
    have hb : dayB b = false := by simpa using hb
    have E1 := Lib.hid (p_no hb).2.2.2
    go_enter Tryd.func25, Tryd.ntmps25
    go_wp2_with ((go_at_call 14; with_reducible refine (r_parts _ _).mono ?_); rintro e w' ⟨he, rfl⟩; unfold PEnd at he; (first | rw [E1.out] at he | skip); subst he)
    go_ret2
    exact ⟨H, rfl⟩
end Go.Proofs.YtgecahokkgealaaDoor
