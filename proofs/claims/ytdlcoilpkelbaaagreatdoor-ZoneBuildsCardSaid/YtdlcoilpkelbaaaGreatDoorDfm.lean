/-
  What is proved here: what the program's and the reference's Format of days return, for every number, where the table of the months lies in memory as the program lays it; and that the statements' own check 'awake' of the third layer returns true there.
-/
import Derived.Test.YtdlcoilpkelbaaaGreatDoorDrf
import Derived.Test.YtdlcoilpkelbaaaGreatDoorPut
import Derived.Test.YtdlcoilpkelbaaaGreatDoorStr
namespace Go.Proofs.YtdlcoilpkelbaaaGreatDoor
open Go.RowKit

/-- two digits -/
def dgt (n : Int) : UInt8 := UInt8.ofNat (48 + n.toNat)
def pairL (n : Int) : List UInt8 := [dgt (n / 10), dgt (n % 10)]
theorem dgt_nat {n : Int} (a : 0 ≤ n) (b : n ≤ 9) : ((dgt n).toNat : Int) = 48 + n := by unfold dgt; rw [UInt8.toNat_ofNat']; omega
theorem dgt_U {n : Int} (a : 0 ≤ n) (b : n ≤ 9) : Value.int .u8 (48 + n) = U (dgt n) := by unfold U; rw [dgt_nat a b]
theorem pairL_Us {n : Int} (a : 0 ≤ n) (b : n ≤ 99) : Us (pairL n) = [Value.int .u8 (48 + n / 10), Value.int .u8 (48 + n % 10)] := by
  rw [dgt_U (n := n / 10) (by omega) (by omega), dgt_U (n := n % 10) (by omega) (by omega)]; rfl
theorem two_cells (y z : Int) : ∀ u ∈ [Value.int .u8 y, Value.int .u8 z], u.oneCell' = true := by
  intro u hu
  simp only [List.mem_cons, List.not_mem_nil, or_false] at hu
  rcases hu with rfl | rfl <;> rfl
theorem news_two (w : World) (u v : Value) (t : TypeId) : ∀ j x, [u, v][j]? = some x → (w.alloc (.cells #[u, v] t)).cell? ((⟨w.heap.size, 0, none⟩ : Addr).add j) = some x :=
  World.news_of_block (heap_alloc_new w _)
theorem Out.pair {w : World} {B g k cap : Nat} {l : List UInt8} {n : Int} (a : 0 ≤ n) (b : n ≤ 99)
    (h : w.ownsRow B 5 1 (.slice (some ⟨g, 0, none⟩) k cap) k (Us l ++ [Value.int .u8 (48 + n / 10), Value.int .u8 (48 + n % 10)])) : Out w B g k cap (l ++ pairL n) := by
  unfold Out
  rw [Us_append, pairL_Us a b]
  exact h

/-- the text of a day -/
def fL (n : Int) : List UInt8 := if dayB n = true then pairL (Cal.yr n % 100) ++ pairL (Cal.mo n) ++ pairL (Cal.da n) else []
theorem fL_yes {n : Int} (h : dayB n = true) : fL n = pairL (pY n % 100) ++ pairL (pM n) ++ pairL (pD n) := by
  obtain ⟨h1, h2, h3, h4⟩ := p_yes h
  unfold fL; rw [if_pos h, h1, h2, h3]
theorem fL_no {n : Int} (h : dayB n = false) : fL n = [] := by simp [fL, h]
theorem fL_length (n : Int) : (fL n).length = 0 ∨ (fL n).length = 6 := by unfold fL; split <;> simp [pairL]
theorem S_nil : S [] = { data := #[] } := by simp [S]
theorem Sd_append (x y : List UInt8) : S (x ++ y) = S x ++ S y := by apply ByteArray.ext; simp [S, ByteArray.data_append]

/-- what Format answers -/
def FEnd (n : Int) (w : World) (e : Ending) (w' : World) : Prop := e = .returned (.tuple #[.string (S (fL n)), .int .i64 (pE n)]) ∧ Below w.heap.size w w'
theorem f_bad {n : Int} (h : dayB n = false) (w : World) : FEnd n w (.returned (.tuple #[.string { data := #[] }, .int .i64 8])) w := by
  refine ⟨?_, Below.refl _ _⟩
  rw [fL_no h, S_nil, (p_no h).2.2.2]

theorem r_two (n : Int) (a : 0 ≤ n) (b : n ≤ 99) (w : World) : Calls Tryz.prog 103 #[.int .i64 n] w fun e w' => e = .returned (.string (S (pairL n))) ∧ Below w.heap.size w w' := by
  have hs : Sees (w.alloc (.cells #[Value.int .u8 (48 + n / 10), Value.int .u8 (48 + n % 10)] 5)) (w.heap.size + 1) (some ⟨w.heap.size, 0, none⟩) (Us (pairL n)) := by
    rw [pairL_Us a b]
    refine .inr ⟨w.heap.size, 0, rfl, by omega, fun j hj => ?_⟩
    rw [Nat.zero_add, cell_of_row _ _ j _ 5 (0, 0) (heap_alloc_new w _)]
    simp
  have hc := run_conv _ _ _ _ hs 2 2 rfl
  clear hs
  go_enter Tryz.func103, Tryz.ntmps103
  go_wp2
  go_ret
  exact ⟨rfl, (Below.refl _ _).alloc (Nat.le_refl _) _⟩

set_option maxHeartbeats 1000000 in
theorem r_format (n : Int) (w : World) : Calls Tryz.prog 71 #[.int .i64 n] w (FEnd n w) := by
  by_cases hB : dayB n = true
  · obtain ⟨y1, y2, m1, m2, d1, d2, _, e0⟩ := p_ok hB
    have e0 := Lib.hid e0
    have FL := Lib.hid (fL_yes hB)
    have db := Cal.dim_bd (pY n) (pM n)
    have d3 : pD n ≤ 99 := by omega
    have s1 : (S (pairL (pY n % 100))).size = 2 := by rw [S_size]; rfl
    have s2 : (S (pairL (pM n))).size = 2 := by rw [S_size]; rfl
    have s3 : (S (pairL (pD n))).size = 2 := by rw [S_size]; rfl
    clear d2 db hB
    go_enter Tryz.func71, Tryz.ntmps71
    go_wp2_with fail
    refine (r_parts n w).mono ?_
    rintro e w' ⟨he, rfl⟩
    unfold PEnd at he
    rw [e0.out] at he
    subst he
    go_wp2_with fail
    refine (r_two (pY n % 100) (by omega) (by omega) w').mono ?_
    rintro e w1 ⟨rfl, b1⟩
    have B1 := Lib.hid b1
    clear b1
    go_wp2_with fail
    refine (r_two (pM n) (by omega) (by omega) w1).mono ?_
    rintro e w2 ⟨rfl, b2⟩
    have B2 := Lib.hid (below_on B1.out b2)
    clear b2
    go_wp2_with fail
    refine (r_two (pD n) (by omega) (by omega) w2).mono ?_
    rintro e w3 ⟨rfl, b3⟩
    have B3 := Lib.hid (below_on B2.out b3)
    clear b3
    go_wp2
    go_ret2
    exact ⟨by rw [e0.out, FL.out, Sd_append, Sd_append]; rfl, B3.out⟩
  · have hB : dayB n = false := by simpa using hB
    have e0 := Lib.hid (p_no hB)
    have H := f_bad hB w
    go_enter Tryz.func71, Tryz.ntmps71
    go_wp2_with fail
    refine (r_parts n w).mono ?_
    rintro e w' ⟨he, rfl⟩
    unfold PEnd at he
    rw [e0.out.1, e0.out.2.1, e0.out.2.2.1, e0.out.2.2.2] at he
    subst he
    go_wp2
    go_ret2
    exact H

theorem of_awake : ofV 2000 3 1 = 36584 ∧ ofE 2000 3 1 = 0 := by decide
theorem f_awake : fL 36584 = [48, 48, 48, 51, 48, 49] ∧ pE 36584 = 0 := by decide +kernel
end Go.Proofs.YtdlcoilpkelbaaaGreatDoor
