/-
  What is proved here: what the program's and the reference's Parse of days return, for every text and number, where the table of the months lies in memory as the program lays it.
-/
import Derived.Test.YtdlcoilpkelbaaaGreatDoorDrp
namespace Go.Proofs.YtdlcoilpkelbaaaGreatDoor
open Go.RowKit

/-- the year with these last two digits -/
def fy (p f : Int) : Int := if f - f % 100 + p < f then f - f % 100 + p + 100 else f - f % 100 + p
theorem full_year (p f : Int) (w : World) (p1 : 0 ≤ p) (p2 : p ≤ 99) (f1 : 1900 ≤ f) (f2 : f ≤ 2000) :
    Calls Tryz.prog 115 #[.int .i64 p, .int .i64 f] w fun e w' => e = .returned (.int .i64 (fy p f)) ∧ w' = w := by
  by_cases h : f - f % 100 + p < f
  · have e : fy p f = f - f % 100 + p + 100 := by unfold fy; rw [if_pos h]
    rw [e]; clear e
    go_enter Tryz.func115, Tryz.ntmps115
    go_wp2
    go_ret
    exact ⟨rfl, rfl⟩
  · have e : fy p f = f - f % 100 + p := by unfold fy; rw [if_neg h]
    rw [e]; clear e
    go_enter Tryz.func115, Tryz.ntmps115
    go_wp2
    go_ret
    exact ⟨rfl, rfl⟩
theorem pr_bd {s : ByteArray} (h : rpOk s = true) (j : Nat) (hj : j < 3) : 0 ≤ pr s 6 j ∧ pr s 6 j ≤ 99 := by
  unfold rpOk at h
  rw [Bool.and_eq_true, List.all_eq_true] at h
  have d1 := dig_bd (h.2 (2 * j) (List.mem_range.2 (by omega)))
  have d2 := dig_bd (h.2 (2 * j + 1) (List.mem_range.2 (by omega)))
  unfold pr
  rw [if_neg (by omega), if_neg (by omega)]
  omega

/-- what Parse answers -/
def psV (s : ByteArray) (f : Int) : Int := if (1900 ≤ f ∧ f ≤ 2000) ∧ rpOk s = true then ofV (fy (pr s 6 0) f) (pr s 6 1) (pr s 6 2) else 0
def psE (s : ByteArray) (f : Int) : Int := if 1900 ≤ f ∧ f ≤ 2000 then (if rpOk s = true then ofE (fy (pr s 6 0) f) (pr s 6 1) (pr s 6 2) else 1) else 3
def PsEnd (s : ByteArray) (f : Int) (w : World) (e : Ending) (w' : World) : Prop := e = .returned (.tuple #[.int .i64 (psV s f), .int .i64 (psE s f)]) ∧ Below w.heap.size w w'
theorem ps_range {s : ByteArray} {f : Int} {w w' : World} (h : f < 1900 ∨ 2000 < f) (hb : Below w.heap.size w w') : PsEnd s f w (.returned (.tuple #[.int .i64 0, .int .i64 3])) w' := by
  have e1 : psV s f = 0 := by unfold psV; rw [if_neg (fun g => by omega)]
  have e2 : psE s f = 3 := by unfold psE; rw [if_neg (by omega)]
  unfold PsEnd; rw [e1, e2]; exact ⟨rfl, hb⟩
theorem ps_form {s : ByteArray} {f : Int} {w w' : World} (f1 : 1900 ≤ f) (f2 : f ≤ 2000) (h : rpOk s = false) (hb : Below w.heap.size w w') : PsEnd s f w (.returned (.tuple #[.int .i64 0, .int .i64 1])) w' := by
  have e1 : psV s f = 0 := by unfold psV; rw [if_neg (fun g => by rw [h] at g; exact absurd g.2 (by decide))]
  have e2 : psE s f = 1 := by unfold psE; rw [if_pos ⟨f1, f2⟩, if_neg (by rw [h]; decide)]
  unfold PsEnd; rw [e1, e2]; exact ⟨rfl, hb⟩
theorem ps_ok {s : ByteArray} {f : Int} {w w' : World} (f1 : 1900 ≤ f) (f2 : f ≤ 2000) (h : rpOk s = true) (hb : Below w.heap.size w w') :
    PsEnd s f w (.returned (.tuple #[.int .i64 (ofV (fy (pr s 6 0) f) (pr s 6 1) (pr s 6 2)), .int .i64 (ofE (fy (pr s 6 0) f) (pr s 6 1) (pr s 6 2))])) w' := by
  have e1 : psV s f = ofV (fy (pr s 6 0) f) (pr s 6 1) (pr s 6 2) := by unfold psV; rw [if_pos ⟨⟨f1, f2⟩, h⟩]
  have e2 : psE s f = ofE (fy (pr s 6 0) f) (pr s 6 1) (pr s 6 2) := by unfold psE; rw [if_pos ⟨f1, f2⟩, if_pos h]
  unfold PsEnd; rw [e1, e2]; exact ⟨rfl, hb⟩

set_option maxHeartbeats 2000000 in
theorem day_parse (s : ByteArray) (f : Int) (w : World) (ht : Tab w) (m : s.size ≤ maxLen) :
    Calls Tryz.prog 90 #[.string s, .int .i64 f] w (PsEnd s f w) := by
  by_cases h1 : f < 1900
  · have H := @ps_range s f w w (.inl h1) (Below.refl _ _)
    have d1 : decide (f < 1900) = true := by simpa using h1
    clear h1 m
    go_enter Tryz.func90, Tryz.ntmps90
    go_wp2
    go_ret2
    exact H
  · have d1 : decide (f < 1900) = false := by simpa using h1
    by_cases h2 : 2000 < f
    · have H := @ps_range s f w w (.inr h2) (Below.refl _ _)
      have d2 : decide (2000 < f) = true := by simpa using h2
      clear h1 h2 m
      go_enter Tryz.func90, Tryz.ntmps90
      go_wp2
      go_ret2
      exact H
    · have d2 : decide (2000 < f) = false := by simpa using h2
      have f1 : 1900 ≤ f := by omega
      have f2 : f ≤ 2000 := by omega
      clear h1 h2
      have RP := Lib.hid (read_pairs s w m)
      clear m
      by_cases hok : rpOk s = true
      · have p0 := pr_bd hok 0 (by omega)
        have FY := Lib.hid (fun w => full_year (pr s 6 0) f w p0.1 p0.2 f1 f2)
        have HS := Lib.hid (fun w' (hb : Below w.heap.size w w') => ps_ok f1 f2 hok hb)
        clear p0
        go_enter Tryz.func90, Tryz.ntmps90
        go_wp2_with fail
        refine RP.out.mono ?_
        rintro e w1 ⟨he, hb⟩
        rw [if_pos hok] at he
        subst he
        have HB := Lib.hid hb
        have HT := Lib.hid (ht.on hb ht.1)
        clear ht hb RP hok
        go_wp2
        obtain ⟨w2, hw2⟩ : ∃ w2, w2 = w1.alloc (.cells #[.int .i64 (pr s 6 0), .int .i64 (pr s 6 1), .int .i64 (pr s 6 2)] 99) := ⟨_, rfl⟩
        have b2 : w2.heap[w1.heap.size]? = some (.cells #[.int .i64 (pr s 6 0), .int .i64 (pr s 6 1), .int .i64 (pr s 6 2)] 99 (0, 0)) := by rw [hw2]; exact heap_alloc_new _ _
        have c0 : w2.cell? ⟨w1.heap.size, 0, none⟩ = some (.int .i64 (pr s 6 0)) := cell_of_row w2 w1.heap.size 0 _ _ _ b2
        have c1 : w2.cell? ⟨w1.heap.size, 1, none⟩ = some (.int .i64 (pr s 6 1)) := cell_of_row w2 w1.heap.size 1 _ _ _ b2
        have c2 : w2.cell? ⟨w1.heap.size, 2, none⟩ = some (.int .i64 (pr s 6 2)) := cell_of_row w2 w1.heap.size 2 _ _ _ b2
        have HB2 : Hid (Below w.heap.size w w2) := Lib.hid (by rw [hw2]; exact HB.out.alloc HB.out.size _)
        have HT2 : Hid (Tab w2) := Lib.hid (by rw [hw2]; exact HT.out.on ((Below.refl w1.heap.size w1).alloc (Nat.le_refl _) _) HT.out.1)
        rw [← hw2]
        clear b2 hw2 HB HT
        go_quiet ((first | (go_at_call 115; exact Calls.quiet_of_same (FY.out _)) | (go_at_call 114; exact Calls.quiet_of_same (day_of _ _ _ _ HT2.out))))
        go_wp2
        go_ret2
        exact HS.out _ (below_dn HB2.out _)
      · have hok : rpOk s = false := by simpa using hok
        have H := Lib.hid (fun w' => @ps_form s f w w' f1 f2 hok)
        go_enter Tryz.func90, Tryz.ntmps90
        go_wp2_with fail
        refine RP.out.mono ?_
        rintro e w1 ⟨he, hb⟩
        rw [hok] at he
        simp only [Bool.false_eq_true, if_false] at he
        subst he
        have HB := Lib.hid hb
        clear ht hb RP hok
        go_wp2
        go_ret2
        refine H.out _ ?_
        repeat' (first | exact HB.out | refine Below.setCell ?_ ?_ _ | refine Below.alloc ?_ ?_ _ | (simp; done) | exact HB.out.size)

end Go.Proofs.YtdlcoilpkelbaaaGreatDoor
