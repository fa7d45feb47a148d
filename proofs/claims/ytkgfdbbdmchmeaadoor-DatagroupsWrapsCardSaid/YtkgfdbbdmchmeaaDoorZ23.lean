/-
  What is proved here: the program's table of tags; Tag, Group, isData and File of the program.
-/
import Derived.Test.YtkgfdbbdmchmeaaDoorZ22
namespace Go.Proofs.YtkgfdbbdmchmeaaDoor
open Go.RowKit
set_option maxRecDepth 8000
set_option linter.unusedVariables false
set_option linter.unusedSimpArgs false
def TabT (w : World) : Prop := 0 < w.heap.size ∧ ∀ k : Nat, k < 18 → w.cell? ⟨0, k, none⟩ = some (.int .i64 (tagsG.getD k 0))
theorem TabT.on {w w' : World} (h : TabT w) (hb : Below w.heap.size w w') : TabT w' :=
  ⟨Nat.lt_of_lt_of_le h.1 hb.size, fun k hk => (hb.cell h.1).trans (h.2 k hk)⟩
theorem wpList_ixv {P : Program} {ops : Array Oper} {rest : List Oper} {o : Oper} {a : Act} {w : World} {Q : Exit → Act → World → Prop} (hgd : o.guard = none) (T : TypeId) (x y : Operand) (ho : o.op = .index T x y) {v vx vy : Value} (hx : a.eval x = vx) (hy : a.eval y = vy)
    (hr : (Instr.index T vx vy).run P w = .ok v w) (hK : wpList P ops Q rest (a.put o.dst v) w) : wpList P ops Q (o :: rest) a w := wpList_plain hgd fun K hK2 => o_ixv T x y ho hx hy hr (hK2 _ _ hK)
def tagV15 : List Value := tagsG.map (Value.int .i64)
theorem TabT.row {w : World} (h : TabT w) : w.rangeAt 0 0 tagV15 := fun j v hv => by
  have hj := (List.getElem?_eq_some_iff.1 hv).1
  have hj : j < 18 := by simpa [tagV15, tagsG] using hj
  rw [Nat.zero_add, h.2 j hj, ← hv]
  unfold tagV15
  rw [List.getElem?_map, tagsG_at j hj]
  rfl
theorem size_18 : (Tryd.prog.info? 43).map (·.size) = some 18 := by kernel_rfl
theorem ix_tags {j : Nat} (hj : j < 18) (w : World) : (Instr.index 43 (.agg tagV15.toArray) (.int .i64 (j : Int))).run Tryd.prog w = .ok (.int .i64 (tagsG.getD j 0)) w := by
  obtain rfl | rfl | rfl | rfl | rfl | rfl | rfl | rfl | rfl | rfl | rfl | rfl | rfl | rfl | rfl | rfl | rfl | rfl : j = 0 ∨ j = 1 ∨ j = 2 ∨ j = 3 ∨ j = 4 ∨ j = 5 ∨ j = 6 ∨ j = 7 ∨ j = 8 ∨ j = 9 ∨ j = 10 ∨ j = 11 ∨ j = 12 ∨ j = 13 ∨ j = 14 ∨ j = 15 ∨ j = 16 ∨ j = 17 := by omega
  all_goals kernel_rfl
set_option maxHeartbeats 1600000 in
theorem p_tag (n : Int) (w : World) (ht : TabT w) (hlo : -9223372036854775808 ≤ n) (hhi : n ≤ 9223372036854775807) :
    Calls Tryd.prog 5 #[.int .i64 n] w fun e w' => e = .returned (.tuple #[.int .i64 (gtV n), .int .i64 (gtE n)]) ∧ w' = w := by
  by_cases h1 : n < 1
  · have d1 : decide (n < 1) = true := by simpa using h1
    obtain ⟨e1, e2⟩ := gt_no (.inl h1)
    rw [e1, e2]
    clear e1 e2 ht h1 hlo hhi
    go_enter Tryd.func5, Tryd.ntmps5
    go_wp2
    go_ret2
    exact ⟨rfl, rfl⟩
  have d1 : decide (n < 1) = false := by simpa using h1
  by_cases h2 : 18 < n
  · have d2 : decide (18 < n) = true := by simpa using h2
    obtain ⟨e1, e2⟩ := gt_no (.inr h2)
    rw [e1, e2]
    clear e1 e2 ht h1 h2 hlo hhi
    go_enter Tryd.func5, Tryd.ntmps5
    go_wp2
    go_ret2
    exact ⟨rfl, rfl⟩
  have d2 : decide (18 < n) = false := by simpa using h2
  obtain ⟨k, hk⟩ : ∃ k : Nat, n = (k : Int) + 1 := ⟨(n - 1).toNat, by omega⟩
  have hk18 : k < 18 := by omega
  obtain ⟨e1, e2⟩ := gt_yes hk hk18
  rw [e1, e2]
  have c0 := ht.2 k hk18
  obtain ⟨z, hz⟩ : ∃ z, tagsG.getD k 0 = z := ⟨_, rfl⟩
  rw [hz] at c0 ⊢
  have es : wrap64 (n - 1) = (k : Int) := by unfold wrap64; omega
  have dk : decide ((k : Int) < 18) = true := by simp; omega
  clear e1 e2 ht h1 h2 hz hk hlo hhi
  go_enter Tryd.func5, Tryd.ntmps5
  go_wp2
  go_ret2
  exact ⟨rfl, rfl⟩
set_option maxHeartbeats 1600000 in
theorem p_group (t : Int) (w : World) (ht : TabT w) :
    Calls Tryd.prog 7 #[.int .i64 t] w fun e w' => e = .returned (.tuple #[.int .i64 (ggR t).1, .int .i64 (ggR t).2]) ∧ w' = w := by
  have HR := Lib.hid ht.row
  obtain ⟨R, hR⟩ : ∃ z, ggR t = z := ⟨_, rfl⟩
  rw [hR]
  have HW := Lib.hid (show ggF t (tagsG.drop 0) ((0 : Nat) : Int) = R from hR)
  have HIX := Lib.hid (show ∀ j : Nat, j < 18 → ∀ w : World, (Instr.index 43 (.agg tagV15.toArray) (.int .i64 (j : Int))).run Tryd.prog w = .ok (.int .i64 (tagsG.getD j 0)) w from fun j hj w => ix_tags hj w)
  have HSZ := Lib.hid (show (Tryd.prog.info? 43).map (·.size) = some tagV15.length from size_18)
  obtain ⟨tv, htv⟩ : ∃ z, tagV15 = z := ⟨_, rfl⟩
  rw [htv] at HR HIX HSZ
  clear ht hR htv
  go_enter Tryd.func7, Tryd.ntmps7
  go_wp2_with (first
    | ((with_reducible refine at_load_ (d := 6) ?_); go_must (refine wpList_load_mid rfl 43 _ rfl 0 0 rfl tv _ HR.out Tryd.underlying43 rfl HSZ.out ?_)))
  go_loop [7] (fun i => ∃ k : Nat, k ≤ 18 ∧ i = .int .i64 (k : Int) ∧ Hid (ggF t (tagsG.drop k) (k : Int) = R)) (fun i => 18 - (intOf i).toNat)
  case atStart => exact ⟨0, by omega, rfl, HW⟩
  case round =>
    obtain ⟨k, hk, rfl, HQ⟩ := hrel
    by_cases hlt : k < 18
    · have dk : decide ((k : Int) < 18) = true := by simp; omega
      have hst := ggF_at (t := t) hlt
      rw [HQ.out] at hst
      have hix := HIX.out k hlt
      obtain ⟨z, hz⟩ : ∃ z, tagsG.getD k 0 = z := ⟨_, rfl⟩
      rw [hz] at hst hix
      have HJ := Lib.hid hix
      have ea : wrap64 ((k : Int) + 1) = ((k + 1 : Nat) : Int) := by unfold wrap64; omega
      by_cases he : z = t
      · have de : (z == t) = true := by simpa using he
        rw [if_pos he] at hst
        have HE := Lib.hid hst
        clear hst he hz hix
        go_wp2_with (first
          | ((with_reducible refine at_any_ (d := 10) ?_); go_must (refine wpList_ixv rfl _ _ _ rfl rfl rfl (HJ.out _) ?_)))
        go_ret2
        exact ⟨by rw [HE.out]; simp [ea], rfl⟩
      · have de : (z == t) = false := by simpa using he
        rw [if_neg he] at hst
        have HE := Lib.hid hst.symm
        clear hst he hz hix
        go_wp2_with (first
          | ((with_reducible refine at_any_ (d := 10) ?_); go_must (refine wpList_ixv rfl _ _ _ rfl rfl rfl (HJ.out _) ?_)))
        go_round
        case rel => exact ⟨k + 1, by omega, by first | rfl | go_num, HE⟩
        case measure => simp [intOf]; omega
    · obtain rfl : k = 18 := by omega
      have hr : R = (0, 4) := HQ.out.symm
      subst hr
      go_wp2
      go_ret2
      exact ⟨rfl, rfl⟩
def isdB (n : Int) : Bool := decide (1 ≤ n) && decide (n ≤ 16)
theorem isd_yes {n : Int} (h : 1 ≤ n ∧ n ≤ 16) : isdB n = true := by unfold isdB; simp [h.1, h.2]
theorem isd_no {n : Int} (h : ¬ (1 ≤ n ∧ n ≤ 16)) : isdB n = false := by
  unfold isdB
  by_cases h1 : 1 ≤ n
  · have h2 : ¬ n ≤ 16 := fun h2 => h ⟨h1, h2⟩
    simp only [decide_eq_true h1, decide_eq_false h2]
    rfl
  · simp only [decide_eq_false h1]
    rfl
set_option maxHeartbeats 1600000 in
theorem p_isdata (n : Int) (w : World) : Calls Tryd.prog 23 #[.int .i64 n] w fun e w' => e = .returned (.bool (isdB n)) ∧ w' = w := by
  by_cases h1 : 1 ≤ n
  · have d1 : decide (1 ≤ n) = true := by simpa using h1
    have e1 : isdB n = decide (n ≤ 16) := by unfold isdB; rw [d1]; rfl
    rw [e1]
    obtain ⟨b, hb⟩ : ∃ b, decide (n ≤ 16) = b := ⟨_, rfl⟩
    rw [hb]
    clear e1 h1
    cases b <;>
    · go_enter Tryd.func23, Tryd.ntmps23
      go_wp2
      go_ret
      exact ⟨rfl, rfl⟩
  · have d1 : decide (1 ≤ n) = false := by simpa using h1
    have e1 : isdB n = false := isd_no fun h => h1 h.1
    rw [e1]
    clear e1 h1
    go_enter Tryd.func23, Tryd.ntmps23
    go_wp2
    go_ret
    exact ⟨rfl, rfl⟩
set_option maxHeartbeats 1600000 in
theorem p_file (n : Int) (w : World) (hlo : -9223372036854775808 ≤ n) (hhi : n ≤ 9223372036854775807) :
    Calls Tryd.prog 9 #[.int .i64 n] w fun e w' => e = .returned (.tuple #[.int .i64 (fiR n).1, .int .i64 (fiR n).2.1, .int .i64 (fiR n).2.2]) ∧ w' = w := by
  have HD := Lib.hid (fun u => p_isdata n u)
  by_cases h1 : 1 ≤ n ∧ n ≤ 16
  · rw [isd_yes h1] at HD
    have e1 : fiR n = (256 + n, n, 0) := by unfold fiR; rw [if_neg (by omega), if_neg (by omega), if_neg (by omega)]
    rw [e1]
    have es : wrap64 (256 + n) = 256 + n := by unfold wrap64; omega
    clear e1 h1 hlo hhi
    go_enter Tryd.func9, Tryd.ntmps9
    go_wp2_with (first
      | (go_at_call 23; ((with_reducible refine (HD.out _).mono ?_); rintro e w1 ⟨rfl, hw1⟩); (have hw2 := hw1.symm; clear hw1; subst hw2)))
    go_ret3
    exact ⟨by simp [es], rfl⟩
  rw [isd_no h1] at HD
  by_cases h3 : n = 17
  · subst h3
    clear h1
    rw [show fiR 17 = (286, 30, 0) from rfl]
    go_enter Tryd.func9, Tryd.ntmps9
    go_wp2_with (first
      | (go_at_call 23; ((with_reducible refine (HD.out _).mono ?_); rintro e w1 ⟨rfl, hw1⟩); (have hw2 := hw1.symm; clear hw1; subst hw2)))
    go_ret3
    exact ⟨rfl, rfl⟩
  by_cases h4 : n = 18
  · subst h4
    clear h1 h3
    rw [show fiR 18 = (285, 29, 0) from rfl]
    go_enter Tryd.func9, Tryd.ntmps9
    go_wp2_with (first
      | (go_at_call 23; ((with_reducible refine (HD.out _).mono ?_); rintro e w1 ⟨rfl, hw1⟩); (have hw2 := hw1.symm; clear hw1; subst hw2)))
    go_ret3
    exact ⟨rfl, rfl⟩
  have d3 : (n == 17) = false := by simpa using h3
  have d4 : (n == 18) = false := by simpa using h4
  have e1 : fiR n = (0, 0, 3) := by unfold fiR; rw [if_pos (by omega)]
  rw [e1]
  clear e1 h1 h3 h4 hlo hhi
  go_enter Tryd.func9, Tryd.ntmps9
  go_wp2_with (first
    | (go_at_call 23; ((with_reducible refine (HD.out _).mono ?_); rintro e w1 ⟨rfl, hw1⟩); (have hw2 := hw1.symm; clear hw1; subst hw2)))
  go_ret3
  exact ⟨rfl, rfl⟩
end Go.Proofs.YtkgfdbbdmchmeaaDoor
