/-
  What is proved here: what the program's readPairs returns, for every text.
-/
import Derived.Test.YtdlcoilpkelbaaaGreatDoorDfm
import Derived.Test.YtdlcoilpkelbaaaGreatDoorBlk
namespace Go.Proofs.YtdlcoilpkelbaaaGreatDoor
open Go.RowKit

theorem info_arr3 : (Tryz.prog.info? 99).map (·.size) = some 3 := by kernel_rfl

/-- the byte at a place; whether it is a digit; its value; the numbers behind the first k bytes -/
def ch (s : ByteArray) (k : Nat) : Nat := (s.data.toList.getD k 0).toNat
def dig (s : ByteArray) (k : Nat) : Bool := decide (48 ≤ ch s k) && decide (ch s k ≤ 57)
def pr (s : ByteArray) (k j : Nat) : Int := if k ≤ 2 * j then 0 else if k = 2 * j + 1 then (ch s (2 * j) : Int) - 48 else ((ch s (2 * j) : Int) - 48) * 10 + ((ch s (2 * j + 1) : Int) - 48)
theorem ch_at (s : ByteArray) (k : Nat) (h : k < s.size) : ch s k = s[k].toNat := by
  unfold ch
  have hk : k < s.data.toList.length := by simpa using h
  rw [List.getD, List.getElem?_eq_getElem hk]; rfl
theorem ch_lt (s : ByteArray) (k : Nat) : ch s k < 256 := UInt8.toNat_lt _
def allDig (s : ByteArray) (k : Nat) : Prop := ∀ q, q < k → dig s q = true
theorem allDig_succ {s : ByteArray} {k : Nat} (h : allDig s k) (g : dig s k = true) : allDig s (k + 1) := by
  intro q hq
  by_cases e : q = k
  · subst e; exact g
  · exact h q (by omega)
theorem dig_bd {s : ByteArray} {k : Nat} (h : dig s k = true) : 48 ≤ ch s k ∧ ch s k ≤ 57 := by simpa [dig] using h

/-- the block of the numbers behind the first k bytes -/
def Prs (s : ByteArray) (k g : Nat) (wr : World) : Prop := wr.heap[g]? = some (.cells #[.int .i64 (pr s k 0), .int .i64 (pr s k 1), .int .i64 (pr s k 2)] 99 (0, 0))
theorem Prs.zero (s : ByteArray) {g : Nat} {wr : World} (h : wr.heap[g]? = some (.cells #[.int .i64 0, .int .i64 0, .int .i64 0] 99 (0, 0))) : Prs s 0 g wr := by
  unfold Prs; simpa [pr] using h
theorem Prs.step {s : ByteArray} {k g j : Nat} {wr : World} {v : Int} (h : Prs s k g wr) (hk : k < 6) (hj : j = k / 2) (hv : v = pr s (k + 1) j) : Prs s (k + 1) g (wr.setCell ⟨g, j, none⟩ (.int .i64 v)) := by
  subst hv hj
  have e := block_set h (i := k / 2) (.int .i64 (pr s (k + 1) (k / 2)))
  unfold Prs
  rw [e]
  have hk' : k = 0 ∨ k = 1 ∨ k = 2 ∨ k = 3 ∨ k = 4 ∨ k = 5 := by omega
  rcases hk' with rfl | rfl | rfl | rfl | rfl | rfl <;> simp [pr]
theorem Prs.drewN {s : ByteArray} {k g : Nat} {wr : World} (h : Prs s k g wr) (n : Nat) : Prs s k g (wr.drewN n) := h

/-- what the loop keeps -/
def RpRel (s : ByteArray) (w : World) (k : Nat) (wr : World) : Prop :=
  Below w.heap.size w wr ∧ wr.heap[w.heap.size]? = some (.cells #[.int .i64 0, .int .i64 0, .int .i64 0] 99 (0, 0)) ∧ Prs s k (w.heap.size + 1) wr ∧ allDig s k
theorem RpRel.step {s : ByteArray} {w wr : World} {k j n : Nat} {v : Int} (h : RpRel s w k wr) (hk : k < 6) (hj : j = k / 2) (hv : v = pr s (k + 1) j) (hd : dig s k = true) : RpRel s w (k + 1) ((wr.drewN n).setCell ⟨w.heap.size + 1, j, none⟩ (.int .i64 v)) := by
  obtain ⟨hb, h0, h1, h2⟩ := h
  exact ⟨(below_dn hb n).setCell (by simp) _, block_far (a := ⟨w.heap.size + 1, j, none⟩) h0 (by simp) _, (h1.drewN n).step hk hj hv, allDig_succ h2 hd⟩
/-- whether a text is six digits -/
def rpOk (s : ByteArray) : Bool := decide (s.size = 6) && (List.range 6).all (dig s)
theorem rpOk_yes {s : ByteArray} (h : s.size = 6) (g : allDig s 6) : rpOk s = true := by
  unfold rpOk
  rw [Bool.and_eq_true]
  exact ⟨by simpa using h, by rw [List.all_eq_true]; intro q hq; exact g q (List.mem_range.1 hq)⟩
theorem rpOk_no {s : ByteArray} {k : Nat} (hk : k < 6) (g : dig s k = false) : rpOk s = false := by
  unfold rpOk
  rw [Bool.and_eq_false_iff]
  right
  rw [List.all_eq_false]
  exact ⟨k, List.mem_range.2 hk, by simp [g]⟩
theorem rpOk_size {s : ByteArray} (h : s.size ≠ 6) : rpOk s = false := by
  unfold rpOk; simp [h]
/-- what readPairs answers -/
def RpEnd (s : ByteArray) (w : World) (e : Ending) (w' : World) : Prop :=
  (if rpOk s = true then e = .returned (.tuple #[.agg #[.int .i64 (pr s 6 0), .int .i64 (pr s 6 1), .int .i64 (pr s 6 2)], .bool true])
   else e = .returned (.tuple #[.agg #[.int .i64 0, .int .i64 0, .int .i64 0], .bool false])) ∧ Below w.heap.size w w'
theorem rp_bad {s : ByteArray} {w w' : World} (h : rpOk s = false) (hb : Below w.heap.size w w') : RpEnd s w (.returned (.tuple #[.agg #[.int .i64 0, .int .i64 0, .int .i64 0], .bool false])) w' := by
  unfold RpEnd; rw [if_neg (by rw [h]; decide)]; exact ⟨rfl, hb⟩
theorem rp_good {s : ByteArray} {w w' : World} (h : rpOk s = true) (hb : Below w.heap.size w w') : RpEnd s w (.returned (.tuple #[.agg #[.int .i64 (pr s 6 0), .int .i64 (pr s 6 1), .int .i64 (pr s 6 2)], .bool true])) w' := by
  unfold RpEnd; rw [if_pos h]; exact ⟨rfl, hb⟩
theorem RpRel.start (s : ByteArray) (w : World) : RpRel s w 0 ((w.alloc (.cells #[.int .i64 0, .int .i64 0, .int .i64 0] 99)).alloc (.cells #[.int .i64 0, .int .i64 0, .int .i64 0] 99)) :=
  ⟨((Below.refl _ _).alloc (Nat.le_refl _) _).alloc (by simp) _, block_alloc (heap_alloc_new w _) _, Prs.zero s (block_next w _ _), fun q h => by omega⟩

set_option maxHeartbeats 4000000 in
theorem read_pairs (s : ByteArray) (w : World) (_m : s.size ≤ maxLen) :
    Calls Tryz.prog 113 #[.string s] w (RpEnd s w) := by
  by_cases h6 : s.size = 6
  · have d6 : ((s.size : Int) != 6) = false := by simp; omega
    have H6 := Lib.hid h6
    have z1 : s.size ≤ 6 := by omega
    have z2 : 6 ≤ s.size := by omega
    clear h6
    go_enter Tryz.func113, Tryz.ntmps113
    go_wp2
    go_loopw [12] (fun i wr => ∃ k : Nat, k ≤ 6 ∧ i = .int .i64 (k : Int) ∧ Hid (RpRel s w k wr)) (fun i _ => 6 - (intOf i).toNat)
    case atStart => exact ⟨0, by omega, rfl, Lib.hid (RpRel.start s w)⟩
    case round =>
      obtain ⟨k, hk, rfl, HR⟩ := hrel
      by_cases hlt : k < 6
      · have hks : k < s.size := by omega
        have hc := ch_at s k hks
        obtain ⟨c, hcc⟩ : ∃ c, c = ch s k := ⟨_, rfl⟩
        have hc8 : c < 256 := by rw [hcc]; exact ch_lt s k
        rw [← hcc] at hc
        have HC := Lib.hid hcc
        have hi : (s[k].toNat : Int) = (c : Int) := by rw [hc]
        clear hcc hc
        by_cases hD : dig s k = true
        · have hd := dig_bd hD
          rw [← HC.out] at hd
          obtain ⟨hd1, hd2⟩ := hd
          have t1 : decide ((c : Int) < 48) = false := by simp; omega
          have t2 : decide ((57 : Int) < (c : Int)) = false := by simp; omega
          have b1 := HR.out.2.2.1
          unfold Prs at b1
          have hk6 : k = 0 ∨ k = 1 ∨ k = 2 ∨ k = 3 ∨ k = 4 ∨ k = 5 := by omega
          have HD := Lib.hid hD
          clear hD
          have hbd : ∀ j, -1000 ≤ pr s k j ∧ pr s k j ≤ 10000 := fun j => by
            have h1 := ch_lt s (2 * j)
            have h2 := ch_lt s (2 * j + 1)
            unfold pr; repeat' split
            all_goals omega
          rcases hk6 with rfl | rfl | rfl | rfl | rfl | rfl
          · have hb0 := hbd 0
            have c0 : wr.cell? ⟨w.heap.size + 1, 0, none⟩ = some (.int .i64 (pr s 0 0)) := cell_of_row wr (w.heap.size + 1) 0 _ _ _ b1
            have f0 := frozen_of_row wr (w.heap.size + 1) 0 _ _ b1
            have hv : pr s 0 0 * 10 + ((c : Int) - 48) = pr s (0 + 1) 0 := by rw [HC.out]; simp [pr]
            have HV := Lib.hid hv
            clear b1 hbd hv
            go_wp2
            go_region
            all_goals
              go_wp2
              go_roundw
              case rel => exact ⟨1, by omega, by go_num, Lib.hid (HR.out.step hlt rfl HV.out HD.out)⟩
              case measure => simp [intOf]
          · have hb0 := hbd 0
            have c0 : wr.cell? ⟨w.heap.size + 1, 0, none⟩ = some (.int .i64 (pr s 1 0)) := cell_of_row wr (w.heap.size + 1) 0 _ _ _ b1
            have f0 := frozen_of_row wr (w.heap.size + 1) 0 _ _ b1
            have hv : pr s 1 0 * 10 + ((c : Int) - 48) = pr s (1 + 1) 0 := by rw [HC.out]; simp [pr]
            have HV := Lib.hid hv
            clear b1 hbd hv
            go_wp2
            go_region
            all_goals
              go_wp2
              go_roundw
              case rel => exact ⟨2, by omega, by go_num, Lib.hid (HR.out.step hlt rfl HV.out HD.out)⟩
              case measure => simp [intOf]
          · have hb0 := hbd 1
            have c0 : wr.cell? ⟨w.heap.size + 1, 1, none⟩ = some (.int .i64 (pr s 2 1)) := cell_of_row wr (w.heap.size + 1) 1 _ _ _ b1
            have f0 := frozen_of_row wr (w.heap.size + 1) 1 _ _ b1
            have hv : pr s 2 1 * 10 + ((c : Int) - 48) = pr s (2 + 1) 1 := by rw [HC.out]; simp [pr]
            have HV := Lib.hid hv
            clear b1 hbd hv
            go_wp2
            go_region
            all_goals
              go_wp2
              go_roundw
              case rel => exact ⟨3, by omega, by go_num, Lib.hid (HR.out.step hlt rfl HV.out HD.out)⟩
              case measure => simp [intOf]
          · have hb0 := hbd 1
            have c0 : wr.cell? ⟨w.heap.size + 1, 1, none⟩ = some (.int .i64 (pr s 3 1)) := cell_of_row wr (w.heap.size + 1) 1 _ _ _ b1
            have f0 := frozen_of_row wr (w.heap.size + 1) 1 _ _ b1
            have hv : pr s 3 1 * 10 + ((c : Int) - 48) = pr s (3 + 1) 1 := by rw [HC.out]; simp [pr]
            have HV := Lib.hid hv
            clear b1 hbd hv
            go_wp2
            go_region
            all_goals
              go_wp2
              go_roundw
              case rel => exact ⟨4, by omega, by go_num, Lib.hid (HR.out.step hlt rfl HV.out HD.out)⟩
              case measure => simp [intOf]
          · have hb0 := hbd 2
            have c0 : wr.cell? ⟨w.heap.size + 1, 2, none⟩ = some (.int .i64 (pr s 4 2)) := cell_of_row wr (w.heap.size + 1) 2 _ _ _ b1
            have f0 := frozen_of_row wr (w.heap.size + 1) 2 _ _ b1
            have hv : pr s 4 2 * 10 + ((c : Int) - 48) = pr s (4 + 1) 2 := by rw [HC.out]; simp [pr]
            have HV := Lib.hid hv
            clear b1 hbd hv
            go_wp2
            go_region
            all_goals
              go_wp2
              go_roundw
              case rel => exact ⟨5, by omega, by go_num, Lib.hid (HR.out.step hlt rfl HV.out HD.out)⟩
              case measure => simp [intOf]
          · have hb0 := hbd 2
            have c0 : wr.cell? ⟨w.heap.size + 1, 2, none⟩ = some (.int .i64 (pr s 5 2)) := cell_of_row wr (w.heap.size + 1) 2 _ _ _ b1
            have f0 := frozen_of_row wr (w.heap.size + 1) 2 _ _ b1
            have hv : pr s 5 2 * 10 + ((c : Int) - 48) = pr s (5 + 1) 2 := by rw [HC.out]; simp [pr]
            have HV := Lib.hid hv
            clear b1 hbd hv
            go_wp2
            go_region
            all_goals
              go_wp2
              go_roundw
              case rel => exact ⟨6, by omega, by go_num, Lib.hid (HR.out.step hlt rfl HV.out HD.out)⟩
              case measure => simp [intOf]
        · have hD : dig s k = false := by simpa using hD
          have HN := Lib.hid (rpOk_no hlt hD)
          have HB := Lib.hid HR.out.1
          have b0 := HR.out.2.1
          have B0 := Lib.hid b0
          have hd : c < 48 ∨ 57 < c := by
            rw [HC.out]
            by_cases h : ch s k < 48
            · exact .inl h
            · right; unfold dig at hD; rw [Bool.and_eq_false_iff] at hD; simp at hD; omega
          have f0 := frozen_of_row wr w.heap.size 0 _ _ b0
          have f1 := frozen_of_row wr w.heap.size 1 _ _ b0
          have f2 := frozen_of_row wr w.heap.size 2 _ _ b0
          have g0 := cell_of_row wr w.heap.size 0 _ _ _ b0
          have g1 := cell_of_row wr w.heap.size 1 _ _ _ b0
          have g2 := cell_of_row wr w.heap.size 2 _ _ _ b0
          simp only [List.getElem?_toArray, List.getElem?_cons_succ, List.getElem?_cons_zero] at g0 g1 g2
          clear b0 hD
          rcases hd with hd | hd
          · have t1 : decide ((c : Int) < 48) = true := by simp; omega
            go_wp2
            refine bodyPost_ret (ret_cell_tmp rfl _ _ _ _ _ _ _ rfl (block_set (block_set (block_set B0.out _) _) _) Tryz.underlying99 rfl info_arr3) rfl ?_
            exact rp_bad HN.out (((HB.out.setCell (by simp) _).setCell (by simp) _).setCell (by simp) _)
          · have t1 : decide ((c : Int) < 48) = false := by simp; omega
            have t2 : decide ((57 : Int) < (c : Int)) = true := by simp; omega
            go_wp2
            refine bodyPost_ret (ret_cell_tmp rfl _ _ _ _ _ _ _ rfl (block_set (block_set (block_set B0.out _) _) _) Tryz.underlying99 rfl info_arr3) rfl ?_
            exact rp_bad HN.out (((HB.out.setCell (by simp) _).setCell (by simp) _).setCell (by simp) _)
      · obtain rfl : k = 6 := by omega
        have hg := HR.out.2.2.2
        have HG := Lib.hid (rpOk_yes H6.out hg)
        have HB := Lib.hid HR.out.1
        have b0 := HR.out.2.1
        have B0 := Lib.hid b0
        have b1 := HR.out.2.2.1
        unfold Prs at b1
        have f0 := frozen_of_row wr w.heap.size 0 _ _ b0
        have f1 := frozen_of_row wr w.heap.size 1 _ _ b0
        have f2 := frozen_of_row wr w.heap.size 2 _ _ b0
        have g0 : wr.cell? ⟨w.heap.size, 0, none⟩ = some (.int .i64 0) := cell_of_row wr w.heap.size 0 _ _ _ b0
        have g1 : wr.cell? ⟨w.heap.size, 1, none⟩ = some (.int .i64 0) := cell_of_row wr w.heap.size 1 _ _ _ b0
        have g2 : wr.cell? ⟨w.heap.size, 2, none⟩ = some (.int .i64 0) := cell_of_row wr w.heap.size 2 _ _ _ b0
        have c0 : wr.cell? ⟨w.heap.size + 1, 0, none⟩ = some (.int .i64 (pr s 6 0)) := cell_of_row wr (w.heap.size + 1) 0 _ _ _ b1
        have c1 : wr.cell? ⟨w.heap.size + 1, 1, none⟩ = some (.int .i64 (pr s 6 1)) := cell_of_row wr (w.heap.size + 1) 1 _ _ _ b1
        have c2 : wr.cell? ⟨w.heap.size + 1, 2, none⟩ = some (.int .i64 (pr s 6 2)) := cell_of_row wr (w.heap.size + 1) 2 _ _ _ b1
        clear b0 b1 hg
        go_wp2
        refine bodyPost_ret (ret_cell_tmp rfl _ _ _ _ _ _ _ rfl (block_set (block_set (block_set B0.out _) _) _) Tryz.underlying99 rfl info_arr3) rfl ?_
        exact rp_good HG.out (((HB.out.setCell (by simp) _).setCell (by simp) _).setCell (by simp) _)
  · have d6 : ((s.size : Int) != 6) = true := by simp; omega
    have HN := Lib.hid (rpOk_size h6)
    clear h6
    go_enter Tryz.func113, Tryz.ntmps113
    go_wp2
    first | (refine bodyPost_ret (ret_cell_tmp rfl _ _ _ _ _ _ _ rfl (block_set (block_set (block_set (block_alloc (heap_alloc_new _ _) _) _) _) _) Tryz.underlying99 rfl info_arr3) rfl ?_) | (refine bodyPost_ret (ret_cell_tmp rfl _ _ _ _ _ _ _ rfl (block_alloc (heap_alloc_new _ _) _) Tryz.underlying99 rfl info_arr3) rfl ?_)
    refine rp_bad HN.out ?_
    repeat' (first | exact Below.refl _ _ | refine Below.setCell ?_ ?_ _ | refine Below.alloc ?_ ?_ _ | (simp; done))

end Go.Proofs.YtdlcoilpkelbaaaGreatDoor
