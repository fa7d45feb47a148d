/-
  What is proved here: what the program's and the reference's Format of days return, for every number, where the table of the months lies in memory as the program lays it; and that the statements' own check 'awake' of the third layer returns true there.
-/
import Derived.Test.YtgecahokkgealaaDoorDrf
import Derived.Test.YtgecahokkgealaaDoorPut
import Derived.Test.YtgecahokkgealaaDoorStr
namespace Go.Proofs.YtgecahokkgealaaDoor
open Go.RowKit

/-- two digits -/
def dgt (n : Int) : UInt8 := UInt8.ofNat (48 + n.toNat)
def pairL (n : Int) : List UInt8 := [dgt (n / 10), dgt (n % 10)]
theorem dgt_nat {n : Int} (a : 0 ≤ n) (b : n ≤ 9) : ((dgt n).toNat : Int) = 48 + n := by unfold dgt; rw [UInt8.toNat_ofNat']; omega
theorem dgt_U {n : Int} (a : 0 ≤ n) (b : n ≤ 9) : Value.int .u8 (48 + n) = U (dgt n) := by unfold U; rw [dgt_nat a b]
theorem pairL_Us {n : Int} (a : 0 ≤ n) (b : n ≤ 99) : Us (pairL n) = [Value.int .u8 (48 + n / 10), Value.int .u8 (48 + n % 10)] := by
  rw [dgt_U (n := n / 10) (by omega) (by omega), dgt_U (n := n % 10) (by omega) (by omega)]; rfl
theorem two_cells (y z : Int) : ∀ u ∈ [Value.int .u8 y, Value.int .u8 z], u.oneCell' = true := by
  intro u hu
  simp only [List.mem_cons, List.not_mem_nil, or_false] at hu
  rcases hu with rfl | rfl <;> rfl
theorem news_two (w : World) (u v : Value) (t : TypeId) : ∀ j x, [u, v][j]? = some x → (w.alloc (.cells #[u, v] t)).cell? ((⟨w.heap.size, 0, none⟩ : Addr).add j) = some x :=
  World.news_of_block (heap_alloc_new w _)
theorem Out.pair {w : World} {B g k cap : Nat} {l : List UInt8} {n : Int} (a : 0 ≤ n) (b : n ≤ 99)
    (h : w.ownsRow B 5 1 (.slice (some ⟨g, 0, none⟩) k cap) k (Us l ++ [Value.int .u8 (48 + n / 10), Value.int .u8 (48 + n % 10)])) : Out w B g k cap (l ++ pairL n) := by
  unfold Out
  rw [Us_append, pairL_Us a b]
  exact h

set_option maxHeartbeats 400000 in
theorem app_pair (n : Int) (B g k cap : Nat) (l : List UInt8) (a : 0 ≤ n) (b : n ≤ 99) (hc : k + 2 ≤ cap) (w : World) (hown : Out w B g k cap l) :
    Calls Tryd.prog 32 #[.slice (some ⟨g, 0, none⟩) k cap, .int .i64 n] w (Puts w B g (k + 2) cap (l ++ pairL n)) := by
  obtain ⟨i0, hi, hz0, hz1, hz2⟩ := info_parts info_u8b
  unfold Out at hown
  go_enter Tryd.func32, Tryd.ntmps32
  go_wp2_with (at_builtin; refine wpList_append_fits _ rfl (.tmp 5) (.tmp 14) 40 rfl B 5 i0 1 Tryd.underlying40 hi hz1 g k cap _ rfl (hown.alloc _) ⟨w.heap.size, 0, none⟩ 2 2 [_, _] rfl rfl (news_two _ _ _ _) (two_cells _ _) (by omega) ?_; intro w1 hown1 hg1; have hg1 := grown_trans (grown_alloc w _ (some g)) hg1; have hown1 := Out.pair a b hown1; clear hown; have HO := Lib.hid hown1; have HG := Lib.hid hg1; clear hown1 hg1)
  go_ret
  exact ⟨rfl, HO.out, HG.out⟩

/-- the text of a day -/
def fL (n : Int) : List UInt8 := if dayB n = true then pairL (Cal.yr n % 100) ++ pairL (Cal.mo n) ++ pairL (Cal.da n) else []
theorem fL_yes {n : Int} (h : dayB n = true) : fL n = pairL (pY n % 100) ++ pairL (pM n) ++ pairL (pD n) := by
  obtain ⟨h1, h2, h3, h4⟩ := p_yes h
  unfold fL; rw [if_pos h, h1, h2, h3]
theorem fL_no {n : Int} (h : dayB n = false) : fL n = [] := by simp [fL, h]
theorem fL_length (n : Int) : (fL n).length = 0 ∨ (fL n).length = 6 := by unfold fL; split <;> simp [pairL]
theorem S_nil : S [] = { data := #[] } := by simp [S]
theorem S_append (x y : List UInt8) : S (x ++ y) = S x ++ S y := by apply ByteArray.ext; simp [S, ByteArray.data_append]

/-- what Format answers -/
def FEnd (n : Int) (w : World) (e : Ending) (w' : World) : Prop := e = .returned (.tuple #[.string (S (fL n)), .int .i64 (pE n)]) ∧ Below w.heap.size w w'
theorem f_bad {n : Int} (h : dayB n = false) (w : World) : FEnd n w (.returned (.tuple #[.string { data := #[] }, .int .i64 8])) w := by
  refine ⟨?_, Below.refl _ _⟩
  rw [fL_no h, S_nil, (p_no h).2.2.2]

set_option maxHeartbeats 1000000 in
theorem day_format (n : Int) (w : World) (ht : Tab w) : Calls Tryd.prog 18 #[.int .i64 n] w (FEnd n w) := by
  by_cases hB : dayB n = true
  · obtain ⟨y1, y2, m1, m2, d1, d2, _, e0⟩ := p_ok hB
    have e0 := Lib.hid e0
    have FL := Lib.hid (fL_yes hB)
    have db := Cal.dim_bd (pY n) (pM n)
    obtain ⟨i0, hi, hz0, hz1, hz2⟩ := info_parts info_u8b
    have d3 : pD n ≤ 99 := by omega
    clear d2 db hB
    go_enter Tryd.func18, Tryd.ntmps18
    go_wp2_with fail
    refine (day_parts n w ht).mono ?_
    rintro e w' ⟨he, rfl⟩
    unfold PEnd at he
    rw [e0.out] at he
    subst he
    go_wp2_with (at_make; refine wpList_make_own _ rfl _ _ 40 rfl w'.heap.size 5 i0 (.int .u8 0) 1 Tryd.underlying40 hi hz0 hz1 _ _ _ 6 rfl rfl (by simp) (by rw [hz2]; omega) (by unfold maxLen; omega) (Nat.le_refl _) ?_; intro w1 hown hg)
    have HB := Lib.hid ((Below.refl w'.heap.size w').grown hg (Nat.le_refl _) (by simp))
    have hown0 : Out w1 w'.heap.size w'.heap.size 0 6 [] := hown
    clear hown hg
    go_wp2_with fail
    refine (app_pair (pY n % 100) w'.heap.size w'.heap.size 0 6 [] (by omega) (by omega) (by omega) w1 hown0).mono ?_
    rintro e w2 ⟨rfl, hown2, hg2⟩
    have HB2 := Lib.hid (HB.out.grown hg2 HB.out.size (by simp))
    clear hown0 hg2 HB
    go_wp2_with fail
    refine (app_pair (pM n) w'.heap.size w'.heap.size _ 6 _ (by omega) (by omega) (by omega) w2 hown2).mono ?_
    rintro e w3 ⟨rfl, hown3, hg3⟩
    have HB3 := Lib.hid (HB2.out.grown hg3 HB2.out.size (by simp))
    clear hown2 hg3 HB2
    go_wp2_with fail
    refine (app_pair (pD n) w'.heap.size w'.heap.size _ 6 _ (by omega) (by omega) (by omega) w3 hown3).mono ?_
    rintro e w4 ⟨rfl, hown4, hg4⟩
    have HB4 := Lib.hid (HB3.out.grown hg4 HB3.out.size (by simp))
    clear hown3 hg4 HB3
    have hc := run_conv w4 _ _ _ (Sees.of_own hown4) (0 + 2 + 2 + 2) 6 (by simp [pairL])
    have HL : Hid ([] ++ pairL (pY n % 100) ++ pairL (pM n) ++ pairL (pD n) = fL n) := Lib.hid (by rw [FL.out]; rfl)
    rw [HL.out] at hc
    clear hown4
    go_wp2
    go_ret2
    exact ⟨by rw [e0.out]; rfl, HB4.out⟩
  · have hB : dayB n = false := by simpa using hB
    have e0 := Lib.hid (p_no hB)
    have H := f_bad hB w
    go_enter Tryd.func18, Tryd.ntmps18
    go_wp2_with fail
    refine (day_parts n w ht).mono ?_
    rintro e w' ⟨he, rfl⟩
    unfold PEnd at he
    rw [e0.out.1, e0.out.2.1, e0.out.2.2.1, e0.out.2.2.2] at he
    subst he
    go_wp2
    go_ret2
    exact H

theorem r_two (n : Int) (a : 0 ≤ n) (b : n ≤ 99) (w : World) : Calls Tryd.prog 33 #[.int .i64 n] w fun e w' => e = .returned (.string (S (pairL n))) ∧ Below w.heap.size w w' := by
  have hs : Sees (w.alloc (.cells #[Value.int .u8 (48 + n / 10), Value.int .u8 (48 + n % 10)] 5)) (w.heap.size + 1) (some ⟨w.heap.size, 0, none⟩) (Us (pairL n)) := by
    rw [pairL_Us a b]
    refine .inr ⟨w.heap.size, 0, rfl, by omega, fun j hj => ?_⟩
    rw [Nat.zero_add, cell_of_row _ _ j _ 5 (0, 0) (heap_alloc_new w _)]
    simp
  have hc := run_conv _ _ _ _ hs 2 2 rfl
  clear hs
  go_enter Tryd.func33, Tryd.ntmps33
  go_wp2
  go_ret
  exact ⟨rfl, (Below.refl _ _).alloc (Nat.le_refl _) _⟩

set_option maxHeartbeats 1000000 in
theorem r_format (n : Int) (w : World) : Calls Tryd.prog 19 #[.int .i64 n] w (FEnd n w) := by
  by_cases hB : dayB n = true
  · obtain ⟨y1, y2, m1, m2, d1, d2, _, e0⟩ := p_ok hB
    have e0 := Lib.hid e0
    have FL := Lib.hid (fL_yes hB)
    have db := Cal.dim_bd (pY n) (pM n)
    have d3 : pD n ≤ 99 := by omega
    have s1 : (S (pairL (pY n % 100))).size = 2 := by rw [S_size]; rfl
    have s2 : (S (pairL (pM n))).size = 2 := by rw [S_size]; rfl
    have s3 : (S (pairL (pD n))).size = 2 := by rw [S_size]; rfl
    clear d2 db hB
    go_enter Tryd.func19, Tryd.ntmps19
    go_wp2_with fail
    refine (r_parts n w).mono ?_
    rintro e w' ⟨he, rfl⟩
    unfold PEnd at he
    rw [e0.out] at he
    subst he
    go_wp2_with fail
    refine (r_two (pY n % 100) (by omega) (by omega) w').mono ?_
    rintro e w1 ⟨rfl, b1⟩
    have B1 := Lib.hid b1
    clear b1
    go_wp2_with fail
    refine (r_two (pM n) (by omega) (by omega) w1).mono ?_
    rintro e w2 ⟨rfl, b2⟩
    have B2 := Lib.hid (below_on B1.out b2)
    clear b2
    go_wp2_with fail
    refine (r_two (pD n) (by omega) (by omega) w2).mono ?_
    rintro e w3 ⟨rfl, b3⟩
    have B3 := Lib.hid (below_on B2.out b3)
    clear b3
    go_wp2
    go_ret2
    exact ⟨by rw [e0.out, FL.out, S_append, S_append]; rfl, B3.out⟩
  · have hB : dayB n = false := by simpa using hB
    have e0 := Lib.hid (p_no hB)
    have H := f_bad hB w
    go_enter Tryd.func19, Tryd.ntmps19
    go_wp2_with fail
    refine (r_parts n w).mono ?_
    rintro e w' ⟨he, rfl⟩
    unfold PEnd at he
    rw [e0.out.1, e0.out.2.1, e0.out.2.2.1, e0.out.2.2.2] at he
    subst he
    go_wp2
    go_ret2
    exact H

theorem of_awake : ofV 2000 3 1 = 36584 ∧ ofE 2000 3 1 = 0 := by decide
theorem f_awake : fL 36584 = [48, 48, 48, 51, 48, 49] ∧ pE 36584 = 0 := by decide +kernel
theorem day_awake (w : World) (ht : Tab w) : Calls Tryd.prog 15 #[] w fun e w' => e = .returned (.bool true) ∧ Below w.heap.size w w' := by
  go_enter Tryd.func15, Tryd.ntmps15
  go_wp2_with fail
  have h1 := day_of 2000 3 1 w ht
  rw [of_awake.1, of_awake.2] at h1
  refine Calls.mono h1 ?_
  clear h1
  rintro e w' ⟨rfl, rfl⟩
  go_wp2_with fail
  refine (day_format 36584 w' ht).mono ?_
  rintro e w1 ⟨he, hb⟩
  rw [f_awake.1, f_awake.2] at he
  subst he
  go_wp2
  go_ret
  exact ⟨by rw [S_toList]; rfl, hb⟩

end Go.Proofs.YtgecahokkgealaaDoor
