/-
  What is proved here: what Widen answers, plain; what may stand at a place, as the program and the reference find it.
-/
import Derived.Test.YtibahbkjjfmbgaaGreatDoorUQ1
import Derived.Test.YtibahbkjjfmbgaaGreatDoorUX4
import Derived.Test.YtibahbkjjfmbgaaGreatDoorUX6
namespace Go.Proofs.YtibahbkjjfmbgaaGreatDoor
open Go.RowKit
set_option linter.unusedVariables false
set_option linter.unusedSimpArgs false
def digB (c : Nat) : Bool := decide (48 ≤ c) && decide (c ≤ 57)
def mayP (c p : Nat) : Bool := if p = 65 then !digB c else if p = 57 then (digB c || decide (c = 60)) else true
def mayK (c k : Nat) : Bool := if k = 0 ∨ c = 60 then true else if k = 1 then digB c else !digB c
def plcK (k : Nat) : Nat := if k = 2 then 65 else if k = 1 then 57 else 88
theorem may_eq (c : Nat) {k : Nat} (hk : k ≤ 2) : mayP c (plcK k) = mayK c k := by
 have h : k = 0 ∨ k = 1 ∨ k = 2 := by omega
 have h60 : digB 60 = false := by decide
 rcases h with rfl | rfl | rfl
 · simp [mayP, plcK, mayK]
 · by_cases hc : c = 60 <;> simp [mayP, plcK, mayK, hc]
 · by_cases hc : c = 60 <;> simp [mayP, plcK, mayK, hc, h60]
def fitF (c p : Nat) : List UInt8 := (simL c).filter fun b => mayP b.toNat p
def fitL (c p : Nat) : List UInt8 := if fitF c p = [] then [UInt8.ofNat c] else fitF c p
def widL (x p : List UInt8) : List (List UInt8) := (List.range x.length).map fun i => fitL (x.getD i 0).toNat (p.getD i 0).toNat
def widS (X P : List (List UInt8)) : List (List (List UInt8)) := (List.range X.length).map fun i => widL (X.getD i []) (P.getD i [])
def widE (X : List (List UInt8)) : Int := if shapeL X = 0 then 2 else if (X.any fun x => !validL x) = true then 12 else 0
def widO (X : List (List UInt8)) : List (List (List UInt8)) := if widE X = 0 then widS X (fmPl (fmt3 (X.map List.length))) else []
theorem fit_tab : ((List.range 256).all fun c => [65, 57, 88].all fun p => (sortU (fitL c p) == fitL c p) && decide ((fitL c p).length ≤ 4) && decide ((simL c).length ≤ 4)) = true := by kernel_rfl
theorem fit_sorted {c k : Nat} (hc : c < 256) : sortU (fitL c (plcK k)) = fitL c (plcK k) ∧ (fitL c (plcK k)).length ≤ 4 ∧ (simL c).length ≤ 4 := by
 have h := fit_tab
 rw [List.all_eq_true] at h
 have h1 := h c (List.mem_range.2 hc)
 rw [List.all_eq_true] at h1
 have hp : plcK k ∈ [65, 57, 88] := by unfold plcK; split; · decide
                                       · split <;> decide
 have h2 := h1 _ hp
 rw [Bool.and_eq_true, Bool.and_eq_true] at h2
 exact ⟨by simpa using h2.1.1, of_decide_eq_true h2.1.2, of_decide_eq_true h2.2⟩
def kindF (f l a : Nat) : Nat :=
 if f = 1 ∧ l = 0 then (if a < 5 then 2 else if a = 14 then 1 else 0)
 else if f = 1 ∧ l = 1 then (if a < 7 ∨ (8 ≤ a ∧ a < 15) ∨ a = 29 then 1 else if a = 7 ∨ a < 18 then 2 else 0)
 else if f = 1 ∨ l = 0 then 2
 else if a = 9 ∨ (13 ≤ a ∧ a < 20) ∨ (21 ≤ a ∧ a < 28) ∨ a = (if f = 3 then 43 else 35) ∨ (f = 3 ∧ a = 42) then 1
 else if (10 ≤ a ∧ a < 13) ∨ a = 20 then 2 else 0
theorem kindF_le (f l a : Nat) : kindF f l a ≤ 2 := by unfold kindF; repeat (first | omega | split)
theorem pl_tab : ([1, 2, 3].all fun f => (List.range (fmPl (3 - f)).length).all fun l => (List.range ((fmPl (3 - f)).getD l []).length).all fun a => (((fmPl (3 - f)).getD l []).getD a 0).toNat == plcK (kindF f l a)) = true := by kernel_rfl
theorem pl_kind {f l a : Nat} (hf : f = 1 ∨ f = 2 ∨ f = 3) (hl : l < (fmPl (3 - f)).length) (ha : a < ((fmPl (3 - f)).getD l []).length) : (((fmPl (3 - f)).getD l []).getD a 0).toNat = plcK (kindF f l a) := by
 have h := pl_tab
 rw [List.all_eq_true] at h
 have h1 := h f (by rcases hf with rfl | rfl | rfl <;> decide)
 rw [List.all_eq_true] at h1
 have h2 := h1 l (List.mem_range.2 hl)
 rw [List.all_eq_true] at h2
 simpa using h2 a (List.mem_range.2 ha)
theorem shape_fmt {X : List (List UInt8)} {f : Nat} (h : shapeL X = (f : Int)) (hf : f ≠ 0) : (f = 1 ∨ f = 2 ∨ f = 3) ∧ fmt3 (X.map List.length) = 3 - f ∧ X.map List.length = (fmPl (3 - f)).map List.length := by
 have h0 : shapeL X ≠ 0 := by omega
 have e0 : (fmPl 0).map List.length = [44, 44] := by decide
 have e1 : (fmPl 1).map List.length = [36, 36] := by decide
 have e2 : (fmPl 2).map List.length = [30, 30, 30] := by decide
 rcases (shape_lens X).1 h0 with e | e | e
 · have hs : shapeL X = 1 := by
    rcases X with _ | ⟨a, _ | ⟨b, _ | ⟨c, _ | ⟨d, t⟩⟩⟩⟩ <;> simp at e
    simp [shapeL, e]
   obtain rfl : f = 1 := by omega
   exact ⟨.inl rfl, by rw [e]; decide, by rw [e]; exact e2.symm⟩
 · have hs : shapeL X = 2 := by
    rcases X with _ | ⟨a, _ | ⟨b, _ | ⟨c, t⟩⟩⟩ <;> simp at e
    simp [shapeL, e]
   obtain rfl : f = 2 := by omega
   exact ⟨.inr (.inl rfl), by rw [e]; decide, by rw [e]; exact e1.symm⟩
 · have hs : shapeL X = 3 := by
    rcases X with _ | ⟨a, _ | ⟨b, _ | ⟨c, t⟩⟩⟩ <;> simp at e
    simp [shapeL, e]
   obtain rfl : f = 3 := by omega
   exact ⟨.inr (.inr rfl), by rw [e]; decide, by rw [e]; exact e0.symm⟩
theorem shape_nat (X : List (List UInt8)) : ∃ f : Nat, shapeL X = (f : Int) ∧ f ≤ 3 := by
 unfold shapeL
 repeat (first | exact ⟨0, rfl, by decide⟩ | exact ⟨1, rfl, by decide⟩ | exact ⟨2, rfl, by decide⟩ | exact ⟨3, rfl, by decide⟩ | split)
set_option maxHeartbeats 1600000 in
theorem p_may (c p : Nat) (b : Bool) (hb : mayP c p = b) (w : World) : Calls Tryz.prog 118 #[.int .u8 (c : Int), .int .u8 (p : Int)] w fun e w' => e = .returned (.bool b) ∧ w = w' := by
 subst hb
 by_cases h65 : p = 65
 ·
  subst h65
  by_cases h1 : 48 ≤ c
  ·
   by_cases h2 : c ≤ 57
   · have i1 : (48 : Int) ≤ (c : Int) := by omega
     have i2 : (c : Int) ≤ 57 := by omega
     have i3 : ((c : Int) = 60) = False := by simp; omega
     have i4 : ((c : Int) == 60) = false := by simpa using (show ¬ (c : Int) = 60 by omega)
     have HM := Lib.hid (show mayP c 65 = false by simp [mayP, mayK, digB, *] <;> omega)
     go_enter Tryz.func118, Tryz.ntmps118
     go_wp2
     go_ret
     exact ⟨by rw [HM.out]; rfl, rfl⟩
   ·
    by_cases h3 : c = 60
    · subst h3
      have HM := Lib.hid (show mayP 60 65 = true by simp [mayP, mayK, digB, *] <;> omega)
      go_enter Tryz.func118, Tryz.ntmps118
      go_wp2
      go_ret
      exact ⟨by rw [HM.out]; rfl, rfl⟩
    · have i1 : (48 : Int) ≤ (c : Int) := by omega
      have i2 : ((c : Int) ≤ 57) = False := by simp; omega
      have i3 : ((c : Int) = 60) = False := by simp; omega
      have i4 : ((c : Int) == 60) = false := by simpa using (show ¬ (c : Int) = 60 by omega)
      have HM := Lib.hid (show mayP c 65 = true by simp [mayP, mayK, digB, *] <;> omega)
      go_enter Tryz.func118, Tryz.ntmps118
      go_wp2
      go_ret
      exact ⟨by rw [HM.out]; rfl, rfl⟩
  · have i1 : ((48 : Int) ≤ (c : Int)) = False := by simp; omega
    have i3 : ((c : Int) = 60) = False := by simp; omega
    have i4 : ((c : Int) == 60) = false := by simpa using (show ¬ (c : Int) = 60 by omega)
    have HM := Lib.hid (show mayP c 65 = true by simp [mayP, mayK, digB, *] <;> omega)
    go_enter Tryz.func118, Tryz.ntmps118
    go_wp2
    go_ret
    exact ⟨by rw [HM.out]; rfl, rfl⟩
 ·
  by_cases h57 : p = 57
  ·
   subst h57
   by_cases h1 : 48 ≤ c
   ·
    by_cases h2 : c ≤ 57
    · have i1 : (48 : Int) ≤ (c : Int) := by omega
      have i2 : (c : Int) ≤ 57 := by omega
      have i3 : ((c : Int) = 60) = False := by simp; omega
      have i4 : ((c : Int) == 60) = false := by simpa using (show ¬ (c : Int) = 60 by omega)
      have HM := Lib.hid (show mayP c 57 = true by simp [mayP, mayK, digB, *] <;> omega)
      go_enter Tryz.func118, Tryz.ntmps118
      go_wp2
      go_ret
      exact ⟨by rw [HM.out]; rfl, rfl⟩
    ·
     by_cases h3 : c = 60
     · subst h3
       have HM := Lib.hid (show mayP 60 57 = true by simp [mayP, mayK, digB, *] <;> omega)
       go_enter Tryz.func118, Tryz.ntmps118
       go_wp2
       go_ret
       exact ⟨by rw [HM.out]; rfl, rfl⟩
     · have i1 : (48 : Int) ≤ (c : Int) := by omega
       have i2 : ((c : Int) ≤ 57) = False := by simp; omega
       have i3 : ((c : Int) = 60) = False := by simp; omega
       have i4 : ((c : Int) == 60) = false := by simpa using (show ¬ (c : Int) = 60 by omega)
       have HM := Lib.hid (show mayP c 57 = false by simp [mayP, mayK, digB, *] <;> omega)
       go_enter Tryz.func118, Tryz.ntmps118
       go_wp2
       go_ret
       exact ⟨by rw [HM.out]; rfl, rfl⟩
   · have i1 : ((48 : Int) ≤ (c : Int)) = False := by simp; omega
     have i3 : ((c : Int) = 60) = False := by simp; omega
     have i4 : ((c : Int) == 60) = false := by simpa using (show ¬ (c : Int) = 60 by omega)
     have HM := Lib.hid (show mayP c 57 = false by simp [mayP, mayK, digB, *] <;> omega)
     go_enter Tryz.func118, Tryz.ntmps118
     go_wp2
     go_ret
     exact ⟨by rw [HM.out]; rfl, rfl⟩
  ·
   have e65 : ((p : Int) = 65) = False := by simp; omega
   have e57 : ((p : Int) = 57) = False := by simp; omega
   have HM := Lib.hid (show mayP c p = true by unfold mayP; rw [if_neg h65, if_neg h57])
   by_cases h1 : 48 ≤ c
   ·
    by_cases h2 : c ≤ 57
    · have i1 : (48 : Int) ≤ (c : Int) := by omega
      have i2 : (c : Int) ≤ 57 := by omega
      have i3 : ((c : Int) = 60) = False := by simp; omega
      have i4 : ((c : Int) == 60) = false := by simpa using (show ¬ (c : Int) = 60 by omega)
      have HM := Lib.hid (show mayP c p = true by simp [mayP, mayK, digB, *] <;> omega)
      go_enter Tryz.func118, Tryz.ntmps118
      go_wp2
      go_ret
      exact ⟨by rw [HM.out]; rfl, rfl⟩
    ·
     by_cases h3 : c = 60
     · subst h3
       have HM := Lib.hid (show mayP 60 p = true by simp [mayP, mayK, digB, *] <;> omega)
       go_enter Tryz.func118, Tryz.ntmps118
       go_wp2
       go_ret
       exact ⟨by rw [HM.out]; rfl, rfl⟩
     · have i1 : (48 : Int) ≤ (c : Int) := by omega
       have i2 : ((c : Int) ≤ 57) = False := by simp; omega
       have i3 : ((c : Int) = 60) = False := by simp; omega
       have i4 : ((c : Int) == 60) = false := by simpa using (show ¬ (c : Int) = 60 by omega)
       have HM := Lib.hid (show mayP c p = true by simp [mayP, mayK, digB, *] <;> omega)
       go_enter Tryz.func118, Tryz.ntmps118
       go_wp2
       go_ret
       exact ⟨by rw [HM.out]; rfl, rfl⟩
   · have i1 : ((48 : Int) ≤ (c : Int)) = False := by simp; omega
     have i3 : ((c : Int) = 60) = False := by simp; omega
     have i4 : ((c : Int) == 60) = false := by simpa using (show ¬ (c : Int) = 60 by omega)
     have HM := Lib.hid (show mayP c p = true by simp [mayP, mayK, digB, *] <;> omega)
     go_enter Tryz.func118, Tryz.ntmps118
     go_wp2
     go_ret
     exact ⟨by rw [HM.out]; rfl, rfl⟩
set_option maxHeartbeats 1600000 in
theorem r_may (c k : Nat) (hk : k ≤ 2) (b : Bool) (hb : mayK c k = b) (w : World) : Calls Tryz.prog 42 #[.int .u8 (c : Int), .int .i64 (k : Int)] w fun e w' => e = .returned (.bool b) ∧ w = w' := by
 subst hb
 have h : k = 0 ∨ k = 1 ∨ k = 2 := by omega
 rcases h with rfl | rfl | rfl
 ·
  skip
  by_cases h1 : 48 ≤ c
  ·
   by_cases h2 : c ≤ 57
   · have i1 : (48 : Int) ≤ (c : Int) := by omega
     have i2 : (c : Int) ≤ 57 := by omega
     have i3 : ((c : Int) = 60) = False := by simp; omega
     have i4 : ((c : Int) == 60) = false := by simpa using (show ¬ (c : Int) = 60 by omega)
     have HM := Lib.hid (show mayK c 0 = true by simp [mayP, mayK, digB, *] <;> omega)
     go_enter Tryz.func42, Tryz.ntmps42
     go_wp2
     go_ret
     exact ⟨by rw [HM.out]; rfl, rfl⟩
   ·
    by_cases h3 : c = 60
    · subst h3
      have HM := Lib.hid (show mayK 60 0 = true by simp [mayP, mayK, digB, *] <;> omega)
      go_enter Tryz.func42, Tryz.ntmps42
      go_wp2
      go_ret
      exact ⟨by rw [HM.out]; rfl, rfl⟩
    · have i1 : (48 : Int) ≤ (c : Int) := by omega
      have i2 : ((c : Int) ≤ 57) = False := by simp; omega
      have i3 : ((c : Int) = 60) = False := by simp; omega
      have i4 : ((c : Int) == 60) = false := by simpa using (show ¬ (c : Int) = 60 by omega)
      have HM := Lib.hid (show mayK c 0 = true by simp [mayP, mayK, digB, *] <;> omega)
      go_enter Tryz.func42, Tryz.ntmps42
      go_wp2
      go_ret
      exact ⟨by rw [HM.out]; rfl, rfl⟩
  · have i1 : ((48 : Int) ≤ (c : Int)) = False := by simp; omega
    have i3 : ((c : Int) = 60) = False := by simp; omega
    have i4 : ((c : Int) == 60) = false := by simpa using (show ¬ (c : Int) = 60 by omega)
    have HM := Lib.hid (show mayK c 0 = true by simp [mayP, mayK, digB, *] <;> omega)
    go_enter Tryz.func42, Tryz.ntmps42
    go_wp2
    go_ret
    exact ⟨by rw [HM.out]; rfl, rfl⟩
 ·
  skip
  by_cases h1 : 48 ≤ c
  ·
   by_cases h2 : c ≤ 57
   · have i1 : (48 : Int) ≤ (c : Int) := by omega
     have i2 : (c : Int) ≤ 57 := by omega
     have i3 : ((c : Int) = 60) = False := by simp; omega
     have i4 : ((c : Int) == 60) = false := by simpa using (show ¬ (c : Int) = 60 by omega)
     have HM := Lib.hid (show mayK c 1 = true by simp [mayP, mayK, digB, *] <;> omega)
     go_enter Tryz.func42, Tryz.ntmps42
     go_wp2
     go_ret
     exact ⟨by rw [HM.out]; rfl, rfl⟩
   ·
    by_cases h3 : c = 60
    · subst h3
      have HM := Lib.hid (show mayK 60 1 = true by simp [mayP, mayK, digB, *] <;> omega)
      go_enter Tryz.func42, Tryz.ntmps42
      go_wp2
      go_ret
      exact ⟨by rw [HM.out]; rfl, rfl⟩
    · have i1 : (48 : Int) ≤ (c : Int) := by omega
      have i2 : ((c : Int) ≤ 57) = False := by simp; omega
      have i3 : ((c : Int) = 60) = False := by simp; omega
      have i4 : ((c : Int) == 60) = false := by simpa using (show ¬ (c : Int) = 60 by omega)
      have HM := Lib.hid (show mayK c 1 = false by simp [mayP, mayK, digB, *] <;> omega)
      go_enter Tryz.func42, Tryz.ntmps42
      go_wp2
      go_ret
      exact ⟨by rw [HM.out]; rfl, rfl⟩
  · have i1 : ((48 : Int) ≤ (c : Int)) = False := by simp; omega
    have i3 : ((c : Int) = 60) = False := by simp; omega
    have i4 : ((c : Int) == 60) = false := by simpa using (show ¬ (c : Int) = 60 by omega)
    have HM := Lib.hid (show mayK c 1 = false by simp [mayP, mayK, digB, *] <;> omega)
    go_enter Tryz.func42, Tryz.ntmps42
    go_wp2
    go_ret
    exact ⟨by rw [HM.out]; rfl, rfl⟩
 ·
  skip
  by_cases h1 : 48 ≤ c
  ·
   by_cases h2 : c ≤ 57
   · have i1 : (48 : Int) ≤ (c : Int) := by omega
     have i2 : (c : Int) ≤ 57 := by omega
     have i3 : ((c : Int) = 60) = False := by simp; omega
     have i4 : ((c : Int) == 60) = false := by simpa using (show ¬ (c : Int) = 60 by omega)
     have HM := Lib.hid (show mayK c 2 = false by simp [mayP, mayK, digB, *] <;> omega)
     go_enter Tryz.func42, Tryz.ntmps42
     go_wp2
     go_ret
     exact ⟨by rw [HM.out]; rfl, rfl⟩
   ·
    by_cases h3 : c = 60
    · subst h3
      have HM := Lib.hid (show mayK 60 2 = true by simp [mayP, mayK, digB, *] <;> omega)
      go_enter Tryz.func42, Tryz.ntmps42
      go_wp2
      go_ret
      exact ⟨by rw [HM.out]; rfl, rfl⟩
    · have i1 : (48 : Int) ≤ (c : Int) := by omega
      have i2 : ((c : Int) ≤ 57) = False := by simp; omega
      have i3 : ((c : Int) = 60) = False := by simp; omega
      have i4 : ((c : Int) == 60) = false := by simpa using (show ¬ (c : Int) = 60 by omega)
      have HM := Lib.hid (show mayK c 2 = true by simp [mayP, mayK, digB, *] <;> omega)
      go_enter Tryz.func42, Tryz.ntmps42
      go_wp2
      go_ret
      exact ⟨by rw [HM.out]; rfl, rfl⟩
  · have i1 : ((48 : Int) ≤ (c : Int)) = False := by simp; omega
    have i3 : ((c : Int) = 60) = False := by simp; omega
    have i4 : ((c : Int) == 60) = false := by simpa using (show ¬ (c : Int) = 60 by omega)
    have HM := Lib.hid (show mayK c 2 = true by simp [mayP, mayK, digB, *] <;> omega)
    go_enter Tryz.func42, Tryz.ntmps42
    go_wp2
    go_ret
    exact ⟨by rw [HM.out]; rfl, rfl⟩
theorem r_kind0 (a : Nat) (h1 : 0 ≤ a) (h2 : a < 5) (w : World) : Calls Tryz.prog 43 #[.int .i64 1, .int .i64 0, .int .i64 (a : Int)] w fun e w' => e = .returned (.int .i64 ((kindF 1 0 a : Nat) : Int)) ∧ w = w' := by
 have HK := Lib.hid (show kindF 1 0 a = 2 by unfold kindF; repeat (first | omega | split))
 have elt5 : (a : Int) < 5 := by omega
 have eeq14 : ((a : Int) = 14) = False := by simp; omega
 have beq14 : ((a : Int) == 14) = false := by simpa using (show ¬ (a : Int) = 14 by omega)
 clear h1 h2
 go_enter Tryz.func43, Tryz.ntmps43
 go_wp2
 go_ret
 exact ⟨by rw [HK.out]; rfl, rfl⟩
theorem r_kind1 (a : Nat) (h1 : 5 ≤ a) (h2 : a < 14) (w : World) : Calls Tryz.prog 43 #[.int .i64 1, .int .i64 0, .int .i64 (a : Int)] w fun e w' => e = .returned (.int .i64 ((kindF 1 0 a : Nat) : Int)) ∧ w = w' := by
 have HK := Lib.hid (show kindF 1 0 a = 0 by unfold kindF; repeat (first | omega | split))
 have elt5 : ((a : Int) < 5) = False := by simp; omega
 have eeq14 : ((a : Int) = 14) = False := by simp; omega
 have beq14 : ((a : Int) == 14) = false := by simpa using (show ¬ (a : Int) = 14 by omega)
 clear h1 h2
 go_enter Tryz.func43, Tryz.ntmps43
 go_wp2
 go_ret
 exact ⟨by rw [HK.out]; rfl, rfl⟩
theorem r_kind2 (a : Nat) (h1 : 14 ≤ a) (h2 : a < 15) (w : World) : Calls Tryz.prog 43 #[.int .i64 1, .int .i64 0, .int .i64 (a : Int)] w fun e w' => e = .returned (.int .i64 ((kindF 1 0 a : Nat) : Int)) ∧ w = w' := by
 have HK := Lib.hid (show kindF 1 0 a = 1 by unfold kindF; repeat (first | omega | split))
 obtain rfl : a = 14 := by omega
 clear h1 h2
 go_enter Tryz.func43, Tryz.ntmps43
 go_wp2
 go_ret
 exact ⟨by rw [HK.out]; rfl, rfl⟩
theorem r_kind3 (a : Nat) (h1 : 15 ≤ a) (h2 : a < 30) (w : World) : Calls Tryz.prog 43 #[.int .i64 1, .int .i64 0, .int .i64 (a : Int)] w fun e w' => e = .returned (.int .i64 ((kindF 1 0 a : Nat) : Int)) ∧ w = w' := by
 have HK := Lib.hid (show kindF 1 0 a = 0 by unfold kindF; repeat (first | omega | split))
 have elt5 : ((a : Int) < 5) = False := by simp; omega
 have eeq14 : ((a : Int) = 14) = False := by simp; omega
 have beq14 : ((a : Int) == 14) = false := by simpa using (show ¬ (a : Int) = 14 by omega)
 clear h1 h2
 go_enter Tryz.func43, Tryz.ntmps43
 go_wp2
 go_ret
 exact ⟨by rw [HK.out]; rfl, rfl⟩
theorem r_kind4 (a : Nat) (h1 : 0 ≤ a) (h2 : a < 7) (w : World) : Calls Tryz.prog 43 #[.int .i64 1, .int .i64 1, .int .i64 (a : Int)] w fun e w' => e = .returned (.int .i64 ((kindF 1 1 a : Nat) : Int)) ∧ w = w' := by
 have HK := Lib.hid (show kindF 1 1 a = 1 by unfold kindF; repeat (first | omega | split))
 have elt7 : (a : Int) < 7 := by omega
 have ege8 : ((8 : Int) ≤ (a : Int)) = False := by simp; omega
 have elt15 : (a : Int) < 15 := by omega
 have eeq29 : ((a : Int) = 29) = False := by simp; omega
 have beq29 : ((a : Int) == 29) = false := by simpa using (show ¬ (a : Int) = 29 by omega)
 have eeq7 : ((a : Int) = 7) = False := by simp; omega
 have beq7 : ((a : Int) == 7) = false := by simpa using (show ¬ (a : Int) = 7 by omega)
 have elt18 : (a : Int) < 18 := by omega
 clear h1 h2
 go_enter Tryz.func43, Tryz.ntmps43
 go_wp2
 go_ret
 exact ⟨by rw [HK.out]; rfl, rfl⟩
theorem r_kind5 (a : Nat) (h1 : 7 ≤ a) (h2 : a < 8) (w : World) : Calls Tryz.prog 43 #[.int .i64 1, .int .i64 1, .int .i64 (a : Int)] w fun e w' => e = .returned (.int .i64 ((kindF 1 1 a : Nat) : Int)) ∧ w = w' := by
 have HK := Lib.hid (show kindF 1 1 a = 2 by unfold kindF; repeat (first | omega | split))
 obtain rfl : a = 7 := by omega
 clear h1 h2
 go_enter Tryz.func43, Tryz.ntmps43
 go_wp2
 go_ret
 exact ⟨by rw [HK.out]; rfl, rfl⟩
theorem r_kind6 (a : Nat) (h1 : 8 ≤ a) (h2 : a < 15) (w : World) : Calls Tryz.prog 43 #[.int .i64 1, .int .i64 1, .int .i64 (a : Int)] w fun e w' => e = .returned (.int .i64 ((kindF 1 1 a : Nat) : Int)) ∧ w = w' := by
 have HK := Lib.hid (show kindF 1 1 a = 1 by unfold kindF; repeat (first | omega | split))
 have elt7 : ((a : Int) < 7) = False := by simp; omega
 have ege8 : (8 : Int) ≤ (a : Int) := by omega
 have elt15 : (a : Int) < 15 := by omega
 have eeq29 : ((a : Int) = 29) = False := by simp; omega
 have beq29 : ((a : Int) == 29) = false := by simpa using (show ¬ (a : Int) = 29 by omega)
 have eeq7 : ((a : Int) = 7) = False := by simp; omega
 have beq7 : ((a : Int) == 7) = false := by simpa using (show ¬ (a : Int) = 7 by omega)
 have elt18 : (a : Int) < 18 := by omega
 clear h1 h2
 go_enter Tryz.func43, Tryz.ntmps43
 go_wp2
 go_ret
 exact ⟨by rw [HK.out]; rfl, rfl⟩
theorem r_kind7 (a : Nat) (h1 : 15 ≤ a) (h2 : a < 18) (w : World) : Calls Tryz.prog 43 #[.int .i64 1, .int .i64 1, .int .i64 (a : Int)] w fun e w' => e = .returned (.int .i64 ((kindF 1 1 a : Nat) : Int)) ∧ w = w' := by
 have HK := Lib.hid (show kindF 1 1 a = 2 by unfold kindF; repeat (first | omega | split))
 have elt7 : ((a : Int) < 7) = False := by simp; omega
 have ege8 : (8 : Int) ≤ (a : Int) := by omega
 have elt15 : ((a : Int) < 15) = False := by simp; omega
 have eeq29 : ((a : Int) = 29) = False := by simp; omega
 have beq29 : ((a : Int) == 29) = false := by simpa using (show ¬ (a : Int) = 29 by omega)
 have eeq7 : ((a : Int) = 7) = False := by simp; omega
 have beq7 : ((a : Int) == 7) = false := by simpa using (show ¬ (a : Int) = 7 by omega)
 have elt18 : (a : Int) < 18 := by omega
 clear h1 h2
 go_enter Tryz.func43, Tryz.ntmps43
 go_wp2
 go_ret
 exact ⟨by rw [HK.out]; rfl, rfl⟩
theorem r_kind8 (a : Nat) (h1 : 18 ≤ a) (h2 : a < 29) (w : World) : Calls Tryz.prog 43 #[.int .i64 1, .int .i64 1, .int .i64 (a : Int)] w fun e w' => e = .returned (.int .i64 ((kindF 1 1 a : Nat) : Int)) ∧ w = w' := by
 have HK := Lib.hid (show kindF 1 1 a = 0 by unfold kindF; repeat (first | omega | split))
 have elt7 : ((a : Int) < 7) = False := by simp; omega
 have ege8 : (8 : Int) ≤ (a : Int) := by omega
 have elt15 : ((a : Int) < 15) = False := by simp; omega
 have eeq29 : ((a : Int) = 29) = False := by simp; omega
 have beq29 : ((a : Int) == 29) = false := by simpa using (show ¬ (a : Int) = 29 by omega)
 have eeq7 : ((a : Int) = 7) = False := by simp; omega
 have beq7 : ((a : Int) == 7) = false := by simpa using (show ¬ (a : Int) = 7 by omega)
 have elt18 : ((a : Int) < 18) = False := by simp; omega
 clear h1 h2
 go_enter Tryz.func43, Tryz.ntmps43
 go_wp2
 go_ret
 exact ⟨by rw [HK.out]; rfl, rfl⟩
theorem r_kind9 (a : Nat) (h1 : 29 ≤ a) (h2 : a < 30) (w : World) : Calls Tryz.prog 43 #[.int .i64 1, .int .i64 1, .int .i64 (a : Int)] w fun e w' => e = .returned (.int .i64 ((kindF 1 1 a : Nat) : Int)) ∧ w = w' := by
 have HK := Lib.hid (show kindF 1 1 a = 1 by unfold kindF; repeat (first | omega | split))
 obtain rfl : a = 29 := by omega
 clear h1 h2
 go_enter Tryz.func43, Tryz.ntmps43
 go_wp2
 go_ret
 exact ⟨by rw [HK.out]; rfl, rfl⟩
theorem r_kind10 (a : Nat) (h1 : 0 ≤ a) (h2 : a < 30) (w : World) : Calls Tryz.prog 43 #[.int .i64 1, .int .i64 2, .int .i64 (a : Int)] w fun e w' => e = .returned (.int .i64 ((kindF 1 2 a : Nat) : Int)) ∧ w = w' := by
 have HK := Lib.hid (show kindF 1 2 a = 2 by unfold kindF; repeat (first | omega | split))
 clear h1 h2
 go_enter Tryz.func43, Tryz.ntmps43
 go_wp2
 go_ret
 exact ⟨by rw [HK.out]; rfl, rfl⟩
theorem r_kind11 (a : Nat) (h1 : 0 ≤ a) (h2 : a < 36) (w : World) : Calls Tryz.prog 43 #[.int .i64 2, .int .i64 0, .int .i64 (a : Int)] w fun e w' => e = .returned (.int .i64 ((kindF 2 0 a : Nat) : Int)) ∧ w = w' := by
 have HK := Lib.hid (show kindF 2 0 a = 2 by unfold kindF; repeat (first | omega | split))
 clear h1 h2
 go_enter Tryz.func43, Tryz.ntmps43
 go_wp2
 go_ret
 exact ⟨by rw [HK.out]; rfl, rfl⟩
theorem r_kind12 (a : Nat) (h1 : 0 ≤ a) (h2 : a < 9) (w : World) : Calls Tryz.prog 43 #[.int .i64 2, .int .i64 1, .int .i64 (a : Int)] w fun e w' => e = .returned (.int .i64 ((kindF 2 1 a : Nat) : Int)) ∧ w = w' := by
 have HK := Lib.hid (show kindF 2 1 a = 0 by unfold kindF; repeat (first | omega | split))
 have eeq9 : ((a : Int) = 9) = False := by simp; omega
 have beq9 : ((a : Int) == 9) = false := by simpa using (show ¬ (a : Int) = 9 by omega)
 have ege13 : ((13 : Int) ≤ (a : Int)) = False := by simp; omega
 have elt20 : (a : Int) < 20 := by omega
 have ege21 : ((21 : Int) ≤ (a : Int)) = False := by simp; omega
 have elt28 : (a : Int) < 28 := by omega
 have ege10 : ((10 : Int) ≤ (a : Int)) = False := by simp; omega
 have elt13 : (a : Int) < 13 := by omega
 have eeq20 : ((a : Int) = 20) = False := by simp; omega
 have beq20 : ((a : Int) == 20) = false := by simpa using (show ¬ (a : Int) = 20 by omega)
 have eeq35 : ((a : Int) = 35) = False := by simp; omega
 have beq35 : ((a : Int) == 35) = false := by simpa using (show ¬ (a : Int) = 35 by omega)
 clear h1 h2
 go_enter Tryz.func43, Tryz.ntmps43
 go_wp2
 go_ret
 exact ⟨by rw [HK.out]; rfl, rfl⟩
theorem r_kind13 (a : Nat) (h1 : 9 ≤ a) (h2 : a < 10) (w : World) : Calls Tryz.prog 43 #[.int .i64 2, .int .i64 1, .int .i64 (a : Int)] w fun e w' => e = .returned (.int .i64 ((kindF 2 1 a : Nat) : Int)) ∧ w = w' := by
 have HK := Lib.hid (show kindF 2 1 a = 1 by unfold kindF; repeat (first | omega | split))
 obtain rfl : a = 9 := by omega
 clear h1 h2
 go_enter Tryz.func43, Tryz.ntmps43
 go_wp2
 go_ret
 exact ⟨by rw [HK.out]; rfl, rfl⟩
theorem r_kind14 (a : Nat) (h1 : 10 ≤ a) (h2 : a < 13) (w : World) : Calls Tryz.prog 43 #[.int .i64 2, .int .i64 1, .int .i64 (a : Int)] w fun e w' => e = .returned (.int .i64 ((kindF 2 1 a : Nat) : Int)) ∧ w = w' := by
 have HK := Lib.hid (show kindF 2 1 a = 2 by unfold kindF; repeat (first | omega | split))
 have eeq9 : ((a : Int) = 9) = False := by simp; omega
 have beq9 : ((a : Int) == 9) = false := by simpa using (show ¬ (a : Int) = 9 by omega)
 have ege13 : ((13 : Int) ≤ (a : Int)) = False := by simp; omega
 have elt20 : (a : Int) < 20 := by omega
 have ege21 : ((21 : Int) ≤ (a : Int)) = False := by simp; omega
 have elt28 : (a : Int) < 28 := by omega
 have ege10 : (10 : Int) ≤ (a : Int) := by omega
 have elt13 : (a : Int) < 13 := by omega
 have eeq20 : ((a : Int) = 20) = False := by simp; omega
 have beq20 : ((a : Int) == 20) = false := by simpa using (show ¬ (a : Int) = 20 by omega)
 have eeq35 : ((a : Int) = 35) = False := by simp; omega
 have beq35 : ((a : Int) == 35) = false := by simpa using (show ¬ (a : Int) = 35 by omega)
 clear h1 h2
 go_enter Tryz.func43, Tryz.ntmps43
 go_wp2
 go_ret
 exact ⟨by rw [HK.out]; rfl, rfl⟩
theorem r_kind15 (a : Nat) (h1 : 13 ≤ a) (h2 : a < 20) (w : World) : Calls Tryz.prog 43 #[.int .i64 2, .int .i64 1, .int .i64 (a : Int)] w fun e w' => e = .returned (.int .i64 ((kindF 2 1 a : Nat) : Int)) ∧ w = w' := by
 have HK := Lib.hid (show kindF 2 1 a = 1 by unfold kindF; repeat (first | omega | split))
 have eeq9 : ((a : Int) = 9) = False := by simp; omega
 have beq9 : ((a : Int) == 9) = false := by simpa using (show ¬ (a : Int) = 9 by omega)
 have ege13 : (13 : Int) ≤ (a : Int) := by omega
 have elt20 : (a : Int) < 20 := by omega
 have ege21 : ((21 : Int) ≤ (a : Int)) = False := by simp; omega
 have elt28 : (a : Int) < 28 := by omega
 have ege10 : (10 : Int) ≤ (a : Int) := by omega
 have elt13 : ((a : Int) < 13) = False := by simp; omega
 have eeq20 : ((a : Int) = 20) = False := by simp; omega
 have beq20 : ((a : Int) == 20) = false := by simpa using (show ¬ (a : Int) = 20 by omega)
 have eeq35 : ((a : Int) = 35) = False := by simp; omega
 have beq35 : ((a : Int) == 35) = false := by simpa using (show ¬ (a : Int) = 35 by omega)
 clear h1 h2
 go_enter Tryz.func43, Tryz.ntmps43
 go_wp2
 go_ret
 exact ⟨by rw [HK.out]; rfl, rfl⟩
theorem r_kind16 (a : Nat) (h1 : 20 ≤ a) (h2 : a < 21) (w : World) : Calls Tryz.prog 43 #[.int .i64 2, .int .i64 1, .int .i64 (a : Int)] w fun e w' => e = .returned (.int .i64 ((kindF 2 1 a : Nat) : Int)) ∧ w = w' := by
 have HK := Lib.hid (show kindF 2 1 a = 2 by unfold kindF; repeat (first | omega | split))
 obtain rfl : a = 20 := by omega
 clear h1 h2
 go_enter Tryz.func43, Tryz.ntmps43
 go_wp2
 go_ret
 exact ⟨by rw [HK.out]; rfl, rfl⟩
theorem r_kind17 (a : Nat) (h1 : 21 ≤ a) (h2 : a < 28) (w : World) : Calls Tryz.prog 43 #[.int .i64 2, .int .i64 1, .int .i64 (a : Int)] w fun e w' => e = .returned (.int .i64 ((kindF 2 1 a : Nat) : Int)) ∧ w = w' := by
 have HK := Lib.hid (show kindF 2 1 a = 1 by unfold kindF; repeat (first | omega | split))
 have eeq9 : ((a : Int) = 9) = False := by simp; omega
 have beq9 : ((a : Int) == 9) = false := by simpa using (show ¬ (a : Int) = 9 by omega)
 have ege13 : (13 : Int) ≤ (a : Int) := by omega
 have elt20 : ((a : Int) < 20) = False := by simp; omega
 have ege21 : (21 : Int) ≤ (a : Int) := by omega
 have elt28 : (a : Int) < 28 := by omega
 have ege10 : (10 : Int) ≤ (a : Int) := by omega
 have elt13 : ((a : Int) < 13) = False := by simp; omega
 have eeq20 : ((a : Int) = 20) = False := by simp; omega
 have beq20 : ((a : Int) == 20) = false := by simpa using (show ¬ (a : Int) = 20 by omega)
 have eeq35 : ((a : Int) = 35) = False := by simp; omega
 have beq35 : ((a : Int) == 35) = false := by simpa using (show ¬ (a : Int) = 35 by omega)
 clear h1 h2
 go_enter Tryz.func43, Tryz.ntmps43
 go_wp2
 go_ret
 exact ⟨by rw [HK.out]; rfl, rfl⟩
theorem r_kind18 (a : Nat) (h1 : 28 ≤ a) (h2 : a < 35) (w : World) : Calls Tryz.prog 43 #[.int .i64 2, .int .i64 1, .int .i64 (a : Int)] w fun e w' => e = .returned (.int .i64 ((kindF 2 1 a : Nat) : Int)) ∧ w = w' := by
 have HK := Lib.hid (show kindF 2 1 a = 0 by unfold kindF; repeat (first | omega | split))
 have eeq9 : ((a : Int) = 9) = False := by simp; omega
 have beq9 : ((a : Int) == 9) = false := by simpa using (show ¬ (a : Int) = 9 by omega)
 have ege13 : (13 : Int) ≤ (a : Int) := by omega
 have elt20 : ((a : Int) < 20) = False := by simp; omega
 have ege21 : (21 : Int) ≤ (a : Int) := by omega
 have elt28 : ((a : Int) < 28) = False := by simp; omega
 have ege10 : (10 : Int) ≤ (a : Int) := by omega
 have elt13 : ((a : Int) < 13) = False := by simp; omega
 have eeq20 : ((a : Int) = 20) = False := by simp; omega
 have beq20 : ((a : Int) == 20) = false := by simpa using (show ¬ (a : Int) = 20 by omega)
 have eeq35 : ((a : Int) = 35) = False := by simp; omega
 have beq35 : ((a : Int) == 35) = false := by simpa using (show ¬ (a : Int) = 35 by omega)
 clear h1 h2
 go_enter Tryz.func43, Tryz.ntmps43
 go_wp2
 go_ret
 exact ⟨by rw [HK.out]; rfl, rfl⟩
theorem r_kind19 (a : Nat) (h1 : 35 ≤ a) (h2 : a < 36) (w : World) : Calls Tryz.prog 43 #[.int .i64 2, .int .i64 1, .int .i64 (a : Int)] w fun e w' => e = .returned (.int .i64 ((kindF 2 1 a : Nat) : Int)) ∧ w = w' := by
 have HK := Lib.hid (show kindF 2 1 a = 1 by unfold kindF; repeat (first | omega | split))
 obtain rfl : a = 35 := by omega
 clear h1 h2
 go_enter Tryz.func43, Tryz.ntmps43
 go_wp2
 go_ret
 exact ⟨by rw [HK.out]; rfl, rfl⟩
theorem r_kind20 (a : Nat) (h1 : 0 ≤ a) (h2 : a < 44) (w : World) : Calls Tryz.prog 43 #[.int .i64 3, .int .i64 0, .int .i64 (a : Int)] w fun e w' => e = .returned (.int .i64 ((kindF 3 0 a : Nat) : Int)) ∧ w = w' := by
 have HK := Lib.hid (show kindF 3 0 a = 2 by unfold kindF; repeat (first | omega | split))
 clear h1 h2
 go_enter Tryz.func43, Tryz.ntmps43
 go_wp2
 go_ret
 exact ⟨by rw [HK.out]; rfl, rfl⟩
theorem r_kind21 (a : Nat) (h1 : 0 ≤ a) (h2 : a < 9) (w : World) : Calls Tryz.prog 43 #[.int .i64 3, .int .i64 1, .int .i64 (a : Int)] w fun e w' => e = .returned (.int .i64 ((kindF 3 1 a : Nat) : Int)) ∧ w = w' := by
 have HK := Lib.hid (show kindF 3 1 a = 0 by unfold kindF; repeat (first | omega | split))
 have eeq9 : ((a : Int) = 9) = False := by simp; omega
 have beq9 : ((a : Int) == 9) = false := by simpa using (show ¬ (a : Int) = 9 by omega)
 have ege13 : ((13 : Int) ≤ (a : Int)) = False := by simp; omega
 have elt20 : (a : Int) < 20 := by omega
 have ege21 : ((21 : Int) ≤ (a : Int)) = False := by simp; omega
 have elt28 : (a : Int) < 28 := by omega
 have ege10 : ((10 : Int) ≤ (a : Int)) = False := by simp; omega
 have elt13 : (a : Int) < 13 := by omega
 have eeq20 : ((a : Int) = 20) = False := by simp; omega
 have beq20 : ((a : Int) == 20) = false := by simpa using (show ¬ (a : Int) = 20 by omega)
 have eeq43 : ((a : Int) = 43) = False := by simp; omega
 have beq43 : ((a : Int) == 43) = false := by simpa using (show ¬ (a : Int) = 43 by omega)
 have eeq42 : ((a : Int) = 42) = False := by simp; omega
 have beq42 : ((a : Int) == 42) = false := by simpa using (show ¬ (a : Int) = 42 by omega)
 clear h1 h2
 go_enter Tryz.func43, Tryz.ntmps43
 go_wp2
 go_ret
 exact ⟨by rw [HK.out]; rfl, rfl⟩
theorem r_kind22 (a : Nat) (h1 : 9 ≤ a) (h2 : a < 10) (w : World) : Calls Tryz.prog 43 #[.int .i64 3, .int .i64 1, .int .i64 (a : Int)] w fun e w' => e = .returned (.int .i64 ((kindF 3 1 a : Nat) : Int)) ∧ w = w' := by
 have HK := Lib.hid (show kindF 3 1 a = 1 by unfold kindF; repeat (first | omega | split))
 obtain rfl : a = 9 := by omega
 clear h1 h2
 go_enter Tryz.func43, Tryz.ntmps43
 go_wp2
 go_ret
 exact ⟨by rw [HK.out]; rfl, rfl⟩
theorem r_kind23 (a : Nat) (h1 : 10 ≤ a) (h2 : a < 13) (w : World) : Calls Tryz.prog 43 #[.int .i64 3, .int .i64 1, .int .i64 (a : Int)] w fun e w' => e = .returned (.int .i64 ((kindF 3 1 a : Nat) : Int)) ∧ w = w' := by
 have HK := Lib.hid (show kindF 3 1 a = 2 by unfold kindF; repeat (first | omega | split))
 have eeq9 : ((a : Int) = 9) = False := by simp; omega
 have beq9 : ((a : Int) == 9) = false := by simpa using (show ¬ (a : Int) = 9 by omega)
 have ege13 : ((13 : Int) ≤ (a : Int)) = False := by simp; omega
 have elt20 : (a : Int) < 20 := by omega
 have ege21 : ((21 : Int) ≤ (a : Int)) = False := by simp; omega
 have elt28 : (a : Int) < 28 := by omega
 have ege10 : (10 : Int) ≤ (a : Int) := by omega
 have elt13 : (a : Int) < 13 := by omega
 have eeq20 : ((a : Int) = 20) = False := by simp; omega
 have beq20 : ((a : Int) == 20) = false := by simpa using (show ¬ (a : Int) = 20 by omega)
 have eeq43 : ((a : Int) = 43) = False := by simp; omega
 have beq43 : ((a : Int) == 43) = false := by simpa using (show ¬ (a : Int) = 43 by omega)
 have eeq42 : ((a : Int) = 42) = False := by simp; omega
 have beq42 : ((a : Int) == 42) = false := by simpa using (show ¬ (a : Int) = 42 by omega)
 clear h1 h2
 go_enter Tryz.func43, Tryz.ntmps43
 go_wp2
 go_ret
 exact ⟨by rw [HK.out]; rfl, rfl⟩
theorem r_kind24 (a : Nat) (h1 : 13 ≤ a) (h2 : a < 20) (w : World) : Calls Tryz.prog 43 #[.int .i64 3, .int .i64 1, .int .i64 (a : Int)] w fun e w' => e = .returned (.int .i64 ((kindF 3 1 a : Nat) : Int)) ∧ w = w' := by
 have HK := Lib.hid (show kindF 3 1 a = 1 by unfold kindF; repeat (first | omega | split))
 have eeq9 : ((a : Int) = 9) = False := by simp; omega
 have beq9 : ((a : Int) == 9) = false := by simpa using (show ¬ (a : Int) = 9 by omega)
 have ege13 : (13 : Int) ≤ (a : Int) := by omega
 have elt20 : (a : Int) < 20 := by omega
 have ege21 : ((21 : Int) ≤ (a : Int)) = False := by simp; omega
 have elt28 : (a : Int) < 28 := by omega
 have ege10 : (10 : Int) ≤ (a : Int) := by omega
 have elt13 : ((a : Int) < 13) = False := by simp; omega
 have eeq20 : ((a : Int) = 20) = False := by simp; omega
 have beq20 : ((a : Int) == 20) = false := by simpa using (show ¬ (a : Int) = 20 by omega)
 have eeq43 : ((a : Int) = 43) = False := by simp; omega
 have beq43 : ((a : Int) == 43) = false := by simpa using (show ¬ (a : Int) = 43 by omega)
 have eeq42 : ((a : Int) = 42) = False := by simp; omega
 have beq42 : ((a : Int) == 42) = false := by simpa using (show ¬ (a : Int) = 42 by omega)
 clear h1 h2
 go_enter Tryz.func43, Tryz.ntmps43
 go_wp2
 go_ret
 exact ⟨by rw [HK.out]; rfl, rfl⟩
theorem r_kind25 (a : Nat) (h1 : 20 ≤ a) (h2 : a < 21) (w : World) : Calls Tryz.prog 43 #[.int .i64 3, .int .i64 1, .int .i64 (a : Int)] w fun e w' => e = .returned (.int .i64 ((kindF 3 1 a : Nat) : Int)) ∧ w = w' := by
 have HK := Lib.hid (show kindF 3 1 a = 2 by unfold kindF; repeat (first | omega | split))
 obtain rfl : a = 20 := by omega
 clear h1 h2
 go_enter Tryz.func43, Tryz.ntmps43
 go_wp2
 go_ret
 exact ⟨by rw [HK.out]; rfl, rfl⟩
theorem r_kind26 (a : Nat) (h1 : 21 ≤ a) (h2 : a < 28) (w : World) : Calls Tryz.prog 43 #[.int .i64 3, .int .i64 1, .int .i64 (a : Int)] w fun e w' => e = .returned (.int .i64 ((kindF 3 1 a : Nat) : Int)) ∧ w = w' := by
 have HK := Lib.hid (show kindF 3 1 a = 1 by unfold kindF; repeat (first | omega | split))
 have eeq9 : ((a : Int) = 9) = False := by simp; omega
 have beq9 : ((a : Int) == 9) = false := by simpa using (show ¬ (a : Int) = 9 by omega)
 have ege13 : (13 : Int) ≤ (a : Int) := by omega
 have elt20 : ((a : Int) < 20) = False := by simp; omega
 have ege21 : (21 : Int) ≤ (a : Int) := by omega
 have elt28 : (a : Int) < 28 := by omega
 have ege10 : (10 : Int) ≤ (a : Int) := by omega
 have elt13 : ((a : Int) < 13) = False := by simp; omega
 have eeq20 : ((a : Int) = 20) = False := by simp; omega
 have beq20 : ((a : Int) == 20) = false := by simpa using (show ¬ (a : Int) = 20 by omega)
 have eeq43 : ((a : Int) = 43) = False := by simp; omega
 have beq43 : ((a : Int) == 43) = false := by simpa using (show ¬ (a : Int) = 43 by omega)
 have eeq42 : ((a : Int) = 42) = False := by simp; omega
 have beq42 : ((a : Int) == 42) = false := by simpa using (show ¬ (a : Int) = 42 by omega)
 clear h1 h2
 go_enter Tryz.func43, Tryz.ntmps43
 go_wp2
 go_ret
 exact ⟨by rw [HK.out]; rfl, rfl⟩
theorem r_kind27 (a : Nat) (h1 : 28 ≤ a) (h2 : a < 42) (w : World) : Calls Tryz.prog 43 #[.int .i64 3, .int .i64 1, .int .i64 (a : Int)] w fun e w' => e = .returned (.int .i64 ((kindF 3 1 a : Nat) : Int)) ∧ w = w' := by
 have HK := Lib.hid (show kindF 3 1 a = 0 by unfold kindF; repeat (first | omega | split))
 have eeq9 : ((a : Int) = 9) = False := by simp; omega
 have beq9 : ((a : Int) == 9) = false := by simpa using (show ¬ (a : Int) = 9 by omega)
 have ege13 : (13 : Int) ≤ (a : Int) := by omega
 have elt20 : ((a : Int) < 20) = False := by simp; omega
 have ege21 : (21 : Int) ≤ (a : Int) := by omega
 have elt28 : ((a : Int) < 28) = False := by simp; omega
 have ege10 : (10 : Int) ≤ (a : Int) := by omega
 have elt13 : ((a : Int) < 13) = False := by simp; omega
 have eeq20 : ((a : Int) = 20) = False := by simp; omega
 have beq20 : ((a : Int) == 20) = false := by simpa using (show ¬ (a : Int) = 20 by omega)
 have eeq43 : ((a : Int) = 43) = False := by simp; omega
 have beq43 : ((a : Int) == 43) = false := by simpa using (show ¬ (a : Int) = 43 by omega)
 have eeq42 : ((a : Int) = 42) = False := by simp; omega
 have beq42 : ((a : Int) == 42) = false := by simpa using (show ¬ (a : Int) = 42 by omega)
 clear h1 h2
 go_enter Tryz.func43, Tryz.ntmps43
 go_wp2
 go_ret
 exact ⟨by rw [HK.out]; rfl, rfl⟩
theorem r_kind28 (a : Nat) (h1 : 42 ≤ a) (h2 : a < 43) (w : World) : Calls Tryz.prog 43 #[.int .i64 3, .int .i64 1, .int .i64 (a : Int)] w fun e w' => e = .returned (.int .i64 ((kindF 3 1 a : Nat) : Int)) ∧ w = w' := by
 have HK := Lib.hid (show kindF 3 1 a = 1 by unfold kindF; repeat (first | omega | split))
 obtain rfl : a = 42 := by omega
 clear h1 h2
 go_enter Tryz.func43, Tryz.ntmps43
 go_wp2
 go_ret
 exact ⟨by rw [HK.out]; rfl, rfl⟩
theorem r_kind29 (a : Nat) (h1 : 43 ≤ a) (h2 : a < 44) (w : World) : Calls Tryz.prog 43 #[.int .i64 3, .int .i64 1, .int .i64 (a : Int)] w fun e w' => e = .returned (.int .i64 ((kindF 3 1 a : Nat) : Int)) ∧ w = w' := by
 have HK := Lib.hid (show kindF 3 1 a = 1 by unfold kindF; repeat (first | omega | split))
 obtain rfl : a = 43 := by omega
 clear h1 h2
 go_enter Tryz.func43, Tryz.ntmps43
 go_wp2
 go_ret
 exact ⟨by rw [HK.out]; rfl, rfl⟩
theorem r_kind (f l a : Nat) (hf : f = 1 ∨ f = 2 ∨ f = 3) (hl : l < (fmPl (3 - f)).length) (ha : a < ((fmPl (3 - f)).getD l []).length) (w : World) : Calls Tryz.prog 43 #[.int .i64 (f : Int), .int .i64 (l : Int), .int .i64 (a : Int)] w fun e w' => e = .returned (.int .i64 ((kindF f l a : Nat) : Int)) ∧ w = w' := by
 rcases hf with rfl | rfl | rfl
 ·
  have hl2 : l < 3 := hl
  have h : l = 0 ∨ l = 1 ∨ l = 2 := by omega
  rcases h with rfl | rfl | rfl
  · have ha2 : a < 30 := ha
    by_cases c5 : a < 5
    · exact r_kind0 a (by omega) c5 w
    by_cases c14 : a < 14
    · exact r_kind1 a (by omega) c14 w
    by_cases c15 : a < 15
    · exact r_kind2 a (by omega) c15 w
    exact r_kind3 a (by omega) ha2 w
  · have ha2 : a < 30 := ha
    by_cases c7 : a < 7
    · exact r_kind4 a (by omega) c7 w
    by_cases c8 : a < 8
    · exact r_kind5 a (by omega) c8 w
    by_cases c15 : a < 15
    · exact r_kind6 a (by omega) c15 w
    by_cases c18 : a < 18
    · exact r_kind7 a (by omega) c18 w
    by_cases c29 : a < 29
    · exact r_kind8 a (by omega) c29 w
    exact r_kind9 a (by omega) ha2 w
  · have ha2 : a < 30 := ha
    exact r_kind10 a (by omega) ha2 w
 ·
  have hl2 : l < 2 := hl
  have h : l = 0 ∨ l = 1 := by omega
  rcases h with rfl | rfl
  · have ha2 : a < 36 := ha
    exact r_kind11 a (by omega) ha2 w
  ·
   have ha2 : a < 36 := ha
   by_cases c9 : a < 9
   · exact r_kind12 a (by omega) c9 w
   by_cases c10 : a < 10
   · exact r_kind13 a (by omega) c10 w
   by_cases c13 : a < 13
   · exact r_kind14 a (by omega) c13 w
   by_cases c20 : a < 20
   · exact r_kind15 a (by omega) c20 w
   by_cases c21 : a < 21
   · exact r_kind16 a (by omega) c21 w
   by_cases c28 : a < 28
   · exact r_kind17 a (by omega) c28 w
   by_cases c35 : a < 35
   · exact r_kind18 a (by omega) c35 w
   exact r_kind19 a (by omega) ha2 w
 ·
  have hl2 : l < 2 := hl
  have h : l = 0 ∨ l = 1 := by omega
  rcases h with rfl | rfl
  · have ha2 : a < 44 := ha
    exact r_kind20 a (by omega) ha2 w
  ·
   have ha2 : a < 44 := ha
   by_cases c9 : a < 9
   · exact r_kind21 a (by omega) c9 w
   by_cases c10 : a < 10
   · exact r_kind22 a (by omega) c10 w
   by_cases c13 : a < 13
   · exact r_kind23 a (by omega) c13 w
   by_cases c20 : a < 20
   · exact r_kind24 a (by omega) c20 w
   by_cases c21 : a < 21
   · exact r_kind25 a (by omega) c21 w
   by_cases c28 : a < 28
   · exact r_kind26 a (by omega) c28 w
   by_cases c42 : a < 42
   · exact r_kind27 a (by omega) c42 w
   by_cases c43 : a < 43
   · exact r_kind28 a (by omega) c43 w
   exact r_kind29 a (by omega) ha2 w
end Go.Proofs.YtibahbkjjfmbgaaGreatDoor
