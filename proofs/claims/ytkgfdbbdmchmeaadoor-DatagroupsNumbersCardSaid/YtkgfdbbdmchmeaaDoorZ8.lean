/-
  What is proved here: what the program's shortest and admit return and how admit counts, for a header that was read; no condition of its own.
-/
import Derived.Test.YtkgfdbbdmchmeaaDoorRows
import Derived.Test.YtkgfdbbdmchmeaaDoorZ0
import Derived.Test.YtkgfdbbdmchmeaaDoorZ6
import Derived.Test.YtkgfdbbdmchmeaaDoorZ7
namespace Go.Proofs.YtkgfdbbdmchmeaaDoor
open Go.RowKit
set_option maxRecDepth 8000
def shortB (f n : Nat) : Bool := if lb n = 0 then decide (f ≤ 127) else decide (f = 128 + lb n)
theorem hdr_shortest (t f n s : Nat) (hf : f < 256) (hn : n < 4294967296) (w : World) :
    Calls Tryd.prog 83 #[hdrV t f n s] w fun e w' => e = .returned (.bool (shortB f n)) ∧ Below w.heap.size w w' := by
  obtain ⟨y, hy⟩ : ∃ y, y = lb n := ⟨_, rfl⟩
  have hL : ∀ u, Calls Tryd.prog 57 #[.int .i64 (n : Int)] u fun e w' => e = .returned (.int .i64 (y : Int)) ∧ w' = u := fun u => by rw [hy]; exact length_bytes n (by omega) u
  have HL := Lib.hid hL
  have hy8 : y ≤ 8 := by rw [hy]; exact lb_le8 n
  have hb := (Below.refl w.heap.size w).alloc (Nat.le_refl _) (.cells #[.int .i64 t, .int .u8 f, .int .i64 n, .int .i64 s] 90)
  have HB := Lib.hid hb
  clear hb hL
  unfold hdrV
  by_cases h : y = 0
  · have e : shortB f n = decide ((f : Int) ≤ 127) := by unfold shortB; rw [← hy, if_pos h]; by_cases h2 : f ≤ 127 <;> simp [h2] <;> omega
    rw [e]
    clear hy e
    subst h
    go_enter Tryd.func83, Tryd.ntmps83
    go_wp2_with (go_at_call 57; refine (HL.out _).mono ?_; rintro e w' ⟨rfl, rfl⟩)
    go_ret
    exact ⟨rfl, HB.out⟩
  · have e : shortB f n = ((f : Int) == (128 : Int) + y) := by unfold shortB; rw [← hy, if_neg h]; by_cases h2 : f = 128 + y <;> simp [h2] <;> omega
    have d : ((y : Int) == 0) = false := by simp; omega
    have d' : (y == 0) = false := by simp; omega
    rw [e]
    clear hy e h
    go_enter Tryd.func83, Tryd.ntmps83
    go_wp2_with (go_at_call 57; refine (HL.out _).mono ?_; rintro e w' ⟨rfl, rfl⟩)
    go_ret
    exact ⟨rfl, HB.out⟩
def Rd (w : World) (R : Nat) (st : Bool) (c : Nat) : Prop := w.heap[R]? = some (.cells #[.bool st, .int .i64 (c : Int)] 85 (0, 0))
def admE (st : Bool) (t f n : Nat) (d : Int) (c : Nat) : Int :=
  if (f = 128 ∧ consB t = false) ∨ (st = true ∧ shortB f n = false) then 5 else if 8 < d then 7 else if 256 < c + 1 then 2 else 0
def AdmIs (w : World) (R : Nat) (st : Bool) (x : Int) (c : Nat) (e : Ending) (w' : World) : Prop :=
  e = .returned (.int .i64 x) ∧ w.grownBy w' (some R) ∧ ∃ c', Rd w' R st c' ∧ (x = 0 → c' = c + 1)
theorem Rd.grown {w w' : World} {R : Nat} {st : Bool} {c : Nat} (h : Rd w R st c) (hg : Below w.heap.size w w') : Rd w' R st c :=
  (hg.block R (lt_of_block h)).trans h
theorem adm_bad {w w' : World} {R : Nat} {st : Bool} {c : Nat} {x : Int} (hx : x ≠ 0) (h : Rd w R st c) (hb : Below w.heap.size w w') : AdmIs w R st x c (.returned (.int .i64 x)) w' :=
  ⟨rfl, grown_below hb, c, h.grown hb, fun e => absurd e hx⟩
theorem Rd.count {w : World} {R : Nat} {st : Bool} {c : Nat} (h : Rd w R st c) : Rd (w.setCell ⟨R, 1, none⟩ (.int .i64 ((c : Int) + 1))) R st (c + 1) := by
  have := block_set (i := 1) h (.int .i64 ((c : Int) + 1))
  unfold Rd
  rw [this]
  rfl
theorem adm_count {w w' : World} {R : Nat} {st : Bool} {c : Nat} {x : Int} (h : Rd w R st c) (hb : Below w.heap.size w w') : AdmIs w R st x c (.returned (.int .i64 x)) (w'.setCell ⟨R, 1, none⟩ (.int .i64 ((c : Int) + 1))) := by
  refine ⟨rfl, ?_, c + 1, (h.grown hb).count, fun _ => rfl⟩
  refine grown_trans (grown_below hb) ⟨rfl, rfl, rfl, Nat.le_of_eq (by simp), fun k _ hk => Below.heap_setCell w' _ _ k (by simpa using fun e => hk (by rw [e]))⟩
theorem adm_count2 {w : World} {R : Nat} {st : Bool} {c : Nat} {x : Int} (h : Rd w R st c) (o : Obj) : AdmIs w R st x c (.returned (.int .i64 x)) ((w.setCell ⟨R, 1, none⟩ (.int .i64 ((c : Int) + 1))).alloc o) := by
  refine ⟨rfl, ?_, c + 1, h.count.grown ((Below.refl _ _).alloc (Nat.le_refl _) o), fun _ => rfl⟩
  refine grown_trans (b := w.setCell ⟨R, 1, none⟩ (.int .i64 ((c : Int) + 1))) ⟨rfl, rfl, rfl, Nat.le_of_eq (by simp), fun k _ hk => Below.heap_setCell w _ _ k (by simpa using fun e => hk (by rw [e]))⟩ (grown_alloc _ o _)
set_option maxHeartbeats 1000000 in
theorem rd_admit (R : Nat) (st : Bool) (c : Nat) (t f n s : Nat) (d : Int) (ht : t ≤ 65535) (hf : f < 256) (hn : n < 4294967296) (hc : c ≤ 256) (w : World) (hr : Rd w R st c) :
    Calls Tryd.prog 79 #[.pointer (some ⟨R, 0, none⟩), hdrV t f n s, .int .i64 d] w (AdmIs w R st (admE st t f n d c) c) := by
  have HRD := Lib.hid hr
  have HK := Lib.hid (fun u => tlv_cons (t : Int) (by omega) (by omega) u)
  have HS := Lib.hid (fun u => hdr_shortest t f n s hf hn u)
  have hb := (Below.refl w.heap.size w).alloc (Nat.le_refl _) (.cells #[.int .i64 t, .int .u8 f, .int .i64 n, .int .i64 s] 90)
  have HB := Lib.hid hb
  have hlt := lt_of_block hr
  have q0 := cell_of_row w R 0 _ _ _ hr
  have q1 := cell_of_row w R 1 _ _ _ hr
  have f1 := frozen_of_row w R 1 _ _ hr
  simp only [List.getElem?_toArray, List.getElem?_cons_succ, List.getElem?_cons_zero] at q0 q1
  have hne : R ≠ w.heap.size := by omega
  clear hb hr
  unfold hdrV
  by_cases h1 : f = 128
  · have d1 : ((f : Int) == 128) = true := by simp; omega
    cases hk : consB t
    · have HK2 := Lib.hid (show ∀ u, Calls Tryd.prog 69 #[.int .i64 (t : Int)] u fun e w' => e = .returned (.bool false) ∧ w' = u from fun u => by have := HK.out u; rwa [hk] at this)
      have hx : admE st t f n d c = 5 := by unfold admE; rw [if_pos (.inl ⟨h1, hk⟩)]
      rw [hx]
      clear hx hk h1
      go_enter Tryd.func79, Tryd.ntmps79
      go_wp2_with (first | (go_at_call 69; refine (HK2.out _).mono ?_; rintro e w' ⟨rfl, rfl⟩))
      go_ret
      exact adm_bad (by decide) HRD.out HB.out
    · have HK2 := Lib.hid (show ∀ u, Calls Tryd.prog 69 #[.int .i64 (t : Int)] u fun e w' => e = .returned (.bool true) ∧ w' = u from fun u => by have := HK.out u; rwa [hk] at this)
      cases st
      · have hp : ¬ ((f = 128 ∧ consB t = false) ∨ (false = true ∧ shortB f n = false)) := by rw [hk]; simp
        by_cases h8 : 8 < d
        · have d8 : decide (8 < d) = true := by simpa using h8
          have hx : admE false t f n d c = 7 := by unfold admE; rw [if_neg (hp), if_pos h8]
          rw [hx]
          clear hx hk h1 hp h8
          go_enter Tryd.func79, Tryd.ntmps79
          go_wp2_with (first | (go_at_call 69; refine (HK2.out _).mono ?_; rintro e w' ⟨rfl, rfl⟩))
          go_ret
          exact adm_bad (by decide) HRD.out HB.out
        · have d8 : decide (8 < d) = false := by simpa using h8
          by_cases h9 : 256 < c + 1
          · have d9 : decide ((256 : Int) < (c : Int) + 1) = true := by simp; omega
            have hx : admE false t f n d c = 2 := by unfold admE; rw [if_neg (hp), if_neg h8, if_pos h9]
            rw [hx]
            clear hx hk h1 hp h8 h9
            go_enter Tryd.func79, Tryd.ntmps79
            go_wp2_with (first | (go_at_call 69; refine (HK2.out _).mono ?_; rintro e w' ⟨rfl, rfl⟩))
            go_ret
            exact adm_count2 HRD.out _
          · have d9 : decide ((256 : Int) < (c : Int) + 1) = false := by simp; omega
            have hx : admE false t f n d c = 0 := by unfold admE; rw [if_neg (hp), if_neg h8, if_neg h9]
            rw [hx]
            clear hx hk h1 hp h8 h9
            go_enter Tryd.func79, Tryd.ntmps79
            go_wp2_with (first | (go_at_call 69; refine (HK2.out _).mono ?_; rintro e w' ⟨rfl, rfl⟩))
            go_ret
            exact adm_count2 HRD.out _
      · cases hs : shortB f n
        · have HS2 := Lib.hid (show ∀ u, Calls Tryd.prog 83 #[hdrV t f n s] u fun e w' => e = .returned (.bool false) ∧ Below u.heap.size u w' from fun u => by have := HS.out u; rwa [hs] at this)
          unfold hdrV at HS2
          have hx : admE true t f n d c = 5 := by unfold admE; rw [if_pos (.inr ⟨rfl, hs⟩)]
          rw [hx]
          clear hx hk h1 hs
          go_enter Tryd.func79, Tryd.ntmps79
          go_wp2_with (first | (go_at_call 69; refine (HK2.out _).mono ?_; rintro e w' ⟨rfl, rfl⟩) | (go_at_call 83; refine (HS2.out _).mono ?_; rintro e w2 ⟨rfl, hb2⟩; have HB2 := Lib.hid (HB.out.trans (hb2.mono HB.out.size)); have q1 := (hb2.cell (p := ⟨R, 1, none⟩) (by simp; omega)).trans ((HB.out.cell (p := ⟨R, 1, none⟩) hlt).trans q1); have f1 := (hb2.frozen (p := ⟨R, 1, none⟩) (by simp; omega)).trans ((HB.out.frozen (p := ⟨R, 1, none⟩) hlt).trans f1); clear hb2))
          go_ret
          exact adm_bad (by decide) HRD.out HB2.out
        · have HS2 := Lib.hid (show ∀ u, Calls Tryd.prog 83 #[hdrV t f n s] u fun e w' => e = .returned (.bool true) ∧ Below u.heap.size u w' from fun u => by have := HS.out u; rwa [hs] at this)
          unfold hdrV at HS2
          have hp : ¬ ((f = 128 ∧ consB t = false) ∨ (true = true ∧ shortB f n = false)) := by rw [hs]; rw [hk]; simp
          by_cases h8 : 8 < d
          · have d8 : decide (8 < d) = true := by simpa using h8
            have hx : admE true t f n d c = 7 := by unfold admE; rw [if_neg (hp), if_pos h8]
            rw [hx]
            clear hx hk h1 hp hs h8
            go_enter Tryd.func79, Tryd.ntmps79
            go_wp2_with (first | (go_at_call 69; refine (HK2.out _).mono ?_; rintro e w' ⟨rfl, rfl⟩) | (go_at_call 83; refine (HS2.out _).mono ?_; rintro e w2 ⟨rfl, hb2⟩; have HB2 := Lib.hid (HB.out.trans (hb2.mono HB.out.size)); have q1 := (hb2.cell (p := ⟨R, 1, none⟩) (by simp; omega)).trans ((HB.out.cell (p := ⟨R, 1, none⟩) hlt).trans q1); have f1 := (hb2.frozen (p := ⟨R, 1, none⟩) (by simp; omega)).trans ((HB.out.frozen (p := ⟨R, 1, none⟩) hlt).trans f1); clear hb2))
            go_ret
            exact adm_bad (by decide) HRD.out HB2.out
          · have d8 : decide (8 < d) = false := by simpa using h8
            by_cases h9 : 256 < c + 1
            · have d9 : decide ((256 : Int) < (c : Int) + 1) = true := by simp; omega
              have hx : admE true t f n d c = 2 := by unfold admE; rw [if_neg (hp), if_neg h8, if_pos h9]
              rw [hx]
              clear hx hk h1 hp hs h8 h9
              go_enter Tryd.func79, Tryd.ntmps79
              go_wp2_with (first | (go_at_call 69; refine (HK2.out _).mono ?_; rintro e w' ⟨rfl, rfl⟩) | (go_at_call 83; refine (HS2.out _).mono ?_; rintro e w2 ⟨rfl, hb2⟩; have HB2 := Lib.hid (HB.out.trans (hb2.mono HB.out.size)); have q1 := (hb2.cell (p := ⟨R, 1, none⟩) (by simp; omega)).trans ((HB.out.cell (p := ⟨R, 1, none⟩) hlt).trans q1); have f1 := (hb2.frozen (p := ⟨R, 1, none⟩) (by simp; omega)).trans ((HB.out.frozen (p := ⟨R, 1, none⟩) hlt).trans f1); clear hb2))
              go_ret
              exact adm_count HRD.out HB2.out
            · have d9 : decide ((256 : Int) < (c : Int) + 1) = false := by simp; omega
              have hx : admE true t f n d c = 0 := by unfold admE; rw [if_neg (hp), if_neg h8, if_neg h9]
              rw [hx]
              clear hx hk h1 hp hs h8 h9
              go_enter Tryd.func79, Tryd.ntmps79
              go_wp2_with (first | (go_at_call 69; refine (HK2.out _).mono ?_; rintro e w' ⟨rfl, rfl⟩) | (go_at_call 83; refine (HS2.out _).mono ?_; rintro e w2 ⟨rfl, hb2⟩; have HB2 := Lib.hid (HB.out.trans (hb2.mono HB.out.size)); have q1 := (hb2.cell (p := ⟨R, 1, none⟩) (by simp; omega)).trans ((HB.out.cell (p := ⟨R, 1, none⟩) hlt).trans q1); have f1 := (hb2.frozen (p := ⟨R, 1, none⟩) (by simp; omega)).trans ((HB.out.frozen (p := ⟨R, 1, none⟩) hlt).trans f1); clear hb2))
              go_ret
              exact adm_count HRD.out HB2.out
  · have d1 : ((f : Int) == 128) = false := by simp; omega
    cases st
    · have hp : ¬ ((f = 128 ∧ consB t = false) ∨ (false = true ∧ shortB f n = false)) := by simp [h1]
      by_cases h8 : 8 < d
      · have d8 : decide (8 < d) = true := by simpa using h8
        have hx : admE false t f n d c = 7 := by unfold admE; rw [if_neg (hp), if_pos h8]
        rw [hx]
        clear hx h1 hp h8
        go_enter Tryd.func79, Tryd.ntmps79
        go_wp2_with (fail)
        go_ret
        exact adm_bad (by decide) HRD.out HB.out
      · have d8 : decide (8 < d) = false := by simpa using h8
        by_cases h9 : 256 < c + 1
        · have d9 : decide ((256 : Int) < (c : Int) + 1) = true := by simp; omega
          have hx : admE false t f n d c = 2 := by unfold admE; rw [if_neg (hp), if_neg h8, if_pos h9]
          rw [hx]
          clear hx h1 hp h8 h9
          go_enter Tryd.func79, Tryd.ntmps79
          go_wp2_with (fail)
          go_ret
          exact adm_count2 HRD.out _
        · have d9 : decide ((256 : Int) < (c : Int) + 1) = false := by simp; omega
          have hx : admE false t f n d c = 0 := by unfold admE; rw [if_neg (hp), if_neg h8, if_neg h9]
          rw [hx]
          clear hx h1 hp h8 h9
          go_enter Tryd.func79, Tryd.ntmps79
          go_wp2_with (fail)
          go_ret
          exact adm_count2 HRD.out _
    · cases hs : shortB f n
      · have HS2 := Lib.hid (show ∀ u, Calls Tryd.prog 83 #[hdrV t f n s] u fun e w' => e = .returned (.bool false) ∧ Below u.heap.size u w' from fun u => by have := HS.out u; rwa [hs] at this)
        unfold hdrV at HS2
        have hx : admE true t f n d c = 5 := by unfold admE; rw [if_pos (.inr ⟨rfl, hs⟩)]
        rw [hx]
        clear hx h1 hs
        go_enter Tryd.func79, Tryd.ntmps79
        go_wp2_with (first | (go_at_call 83; refine (HS2.out _).mono ?_; rintro e w2 ⟨rfl, hb2⟩; have HB2 := Lib.hid (HB.out.trans (hb2.mono HB.out.size)); have q1 := (hb2.cell (p := ⟨R, 1, none⟩) (by simp; omega)).trans ((HB.out.cell (p := ⟨R, 1, none⟩) hlt).trans q1); have f1 := (hb2.frozen (p := ⟨R, 1, none⟩) (by simp; omega)).trans ((HB.out.frozen (p := ⟨R, 1, none⟩) hlt).trans f1); clear hb2))
        go_ret
        exact adm_bad (by decide) HRD.out HB2.out
      · have HS2 := Lib.hid (show ∀ u, Calls Tryd.prog 83 #[hdrV t f n s] u fun e w' => e = .returned (.bool true) ∧ Below u.heap.size u w' from fun u => by have := HS.out u; rwa [hs] at this)
        unfold hdrV at HS2
        have hp : ¬ ((f = 128 ∧ consB t = false) ∨ (true = true ∧ shortB f n = false)) := by rw [hs]; simp [h1]
        by_cases h8 : 8 < d
        · have d8 : decide (8 < d) = true := by simpa using h8
          have hx : admE true t f n d c = 7 := by unfold admE; rw [if_neg (hp), if_pos h8]
          rw [hx]
          clear hx h1 hp hs h8
          go_enter Tryd.func79, Tryd.ntmps79
          go_wp2_with (first | (go_at_call 83; refine (HS2.out _).mono ?_; rintro e w2 ⟨rfl, hb2⟩; have HB2 := Lib.hid (HB.out.trans (hb2.mono HB.out.size)); have q1 := (hb2.cell (p := ⟨R, 1, none⟩) (by simp; omega)).trans ((HB.out.cell (p := ⟨R, 1, none⟩) hlt).trans q1); have f1 := (hb2.frozen (p := ⟨R, 1, none⟩) (by simp; omega)).trans ((HB.out.frozen (p := ⟨R, 1, none⟩) hlt).trans f1); clear hb2))
          go_ret
          exact adm_bad (by decide) HRD.out HB2.out
        · have d8 : decide (8 < d) = false := by simpa using h8
          by_cases h9 : 256 < c + 1
          · have d9 : decide ((256 : Int) < (c : Int) + 1) = true := by simp; omega
            have hx : admE true t f n d c = 2 := by unfold admE; rw [if_neg (hp), if_neg h8, if_pos h9]
            rw [hx]
            clear hx h1 hp hs h8 h9
            go_enter Tryd.func79, Tryd.ntmps79
            go_wp2_with (first | (go_at_call 83; refine (HS2.out _).mono ?_; rintro e w2 ⟨rfl, hb2⟩; have HB2 := Lib.hid (HB.out.trans (hb2.mono HB.out.size)); have q1 := (hb2.cell (p := ⟨R, 1, none⟩) (by simp; omega)).trans ((HB.out.cell (p := ⟨R, 1, none⟩) hlt).trans q1); have f1 := (hb2.frozen (p := ⟨R, 1, none⟩) (by simp; omega)).trans ((HB.out.frozen (p := ⟨R, 1, none⟩) hlt).trans f1); clear hb2))
            go_ret
            exact adm_count HRD.out HB2.out
          · have d9 : decide ((256 : Int) < (c : Int) + 1) = false := by simp; omega
            have hx : admE true t f n d c = 0 := by unfold admE; rw [if_neg (hp), if_neg h8, if_neg h9]
            rw [hx]
            clear hx h1 hp hs h8 h9
            go_enter Tryd.func79, Tryd.ntmps79
            go_wp2_with (first | (go_at_call 83; refine (HS2.out _).mono ?_; rintro e w2 ⟨rfl, hb2⟩; have HB2 := Lib.hid (HB.out.trans (hb2.mono HB.out.size)); have q1 := (hb2.cell (p := ⟨R, 1, none⟩) (by simp; omega)).trans ((HB.out.cell (p := ⟨R, 1, none⟩) hlt).trans q1); have f1 := (hb2.frozen (p := ⟨R, 1, none⟩) (by simp; omega)).trans ((HB.out.frozen (p := ⟨R, 1, none⟩) hlt).trans f1); clear hb2))
            go_ret
            exact adm_count HRD.out HB2.out
end Go.Proofs.YtkgfdbbdmchmeaaDoor
