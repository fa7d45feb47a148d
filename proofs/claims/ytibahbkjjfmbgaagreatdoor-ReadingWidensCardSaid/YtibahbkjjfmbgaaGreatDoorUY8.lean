/-
  What is proved here: which layout lines have, as the program finds it.
-/
import Derived.Test.YtibahbkjjfmbgaaGreatDoorUY4
import Derived.Test.YtibahbkjjfmbgaaGreatDoorUY1
import Derived.Test.YtibahbkjjfmbgaaGreatDoorUZp
namespace Go.Proofs.YtibahbkjjfmbgaaGreatDoor
open Go.RowKit Go.Maps
set_option linter.unusedVariables false
def otherB (wd : Nat) (x : List UInt8) : Bool := decide (x.length ≠ wd)
set_option maxHeartbeats 1000000 in
theorem p_ixo (g6 wd : Nat) (ls : List (List UInt8)) (A : Option Addr) (c : Nat) (hl : ls.length ≤ 10000000000000) (w : World) (hs : Strs w A ls) (hc : ∀ x ∈ ls, ∀ b, otherB wd x = b → ∀ w, w.cell? ⟨g6, 2, none⟩ = some (.int .i64 (wd : Int)) → (Calls Tryz.prog 93 #[.string (S x), .pointer (some ⟨g6, 0, none⟩)] w fun e w' => e = .returned (.bool b) ∧ w = w')) (h2 : w.cell? ⟨g6, 2, none⟩ = some (.int .i64 (wd : Int))) :
 Calls Tryz.prog 71 #[.slice A ls.length c, .func (.func 93) #[] #[.pointer (some ⟨g6, 0, none⟩)]] w fun e w' => (∃ v : Int, e = .returned (.int .i64 v) ∧ decide (0 ≤ v) = ls.any (fun x => otherB wd x)) ∧ w = w' := by
 have HS := Lib.hid hs
 have HC := Lib.hid hc
 have H2 := Lib.hid h2
 obtain ⟨n, hn⟩ : ∃ n, ls.length = n := ⟨_, rfl⟩
 have HN := Lib.hid hn
 rw [hn] at hl ⊢
 clear hs hc hn h2
 go_enter Tryz.func71, Tryz.ntmps71
 go_wp2
 go_loopw [8] (fun i wr => ∃ (j : Nat), j ≤ n ∧ i = .int .i64 (j : Int) ∧ Hid (w = wr ∧ ∀ i, i < j → (fun x => otherB wd x) (ls.getD i []) = false)) (fun i _ => n - (intOf i).toNat)
 case atStart => exact ⟨0, by omega, rfl, Lib.hid ⟨rfl, fun i hi => by omega⟩⟩
 case round =>
  obtain ⟨j, hj, rfl, HR⟩ := hrel
  obtain rfl := HR.out.1
  by_cases hlt : j < n
  ·
   obtain ⟨ab, ao, rfl, hab, hcell⟩ := HS.out.cell (by rw [HN.out]; omega)
   have hcl := hcell j (by rw [HN.out]; exact hlt)
   obtain ⟨x, hx⟩ : ∃ x, ls.getD j [] = x := ⟨_, rfl⟩
   rw [hx] at hcl
   have HX := Lib.hid hx
   have HCC := Lib.hid (HC.out x (by rw [← hx, List.getD_eq_getElem?_getD, List.getElem?_eq_getElem (by rw [HN.out]; exact hlt)]; exact List.getElem_mem _))
   clear hx hcell hab
   rcases hp : (fun x => otherB wd x) x with _ | _
   · have HP := Lib.hid hp
     clear hp
     go_wp2_with (go_at_call 93; ((with_reducible refine (HCC.out false HP.out _ H2.out).mono ?_); rintro e w9 ⟨rfl, rfl⟩))
     go_roundw
     case rel => exact ⟨j + 1, by omega, by go_num, Lib.hid ⟨by first | rfl | trivial, fun i hi => by
      by_cases e : i = j
      · rw [e, HX.out]; exact HP.out
      · exact HR.out.2 i (by omega)⟩⟩
     case measure => simp [intOf]; omega
   · have HP := Lib.hid hp
     clear hp
     go_wp2_with (go_at_call 93; ((with_reducible refine (HCC.out true HP.out _ H2.out).mono ?_); rintro e w9 ⟨rfl, rfl⟩))
     go_ret
     refine ⟨⟨(j : Int), rfl, ?_⟩, rfl⟩
     have h1 : ls.any (fun x => otherB wd x) = true := by
      rw [List.any_eq_true]
      refine ⟨x, ?_, HP.out⟩
      rw [← HX.out, List.getD_eq_getElem?_getD, List.getElem?_eq_getElem (by rw [HN.out]; exact hlt)]
      exact List.getElem_mem _
     rw [h1]; simp
  · obtain rfl : j = n := by omega
    go_wp2
    go_ret
    refine ⟨⟨-1, rfl, ?_⟩, rfl⟩
    have h1 : ls.any (fun x => otherB wd x) = false := by
     rw [List.any_eq_false]
     intro x hx
     obtain ⟨i, hi, rfl⟩ := List.getElem_of_mem hx
     have := HR.out.2 i (by rw [← HN.out]; exact hi)
     rw [List.getD_eq_getElem?_getD, List.getElem?_eq_getElem hi] at this
     simpa using this
    rw [h1]; rfl
theorem p_cfo (g6 wd : Nat) (ls : List (List UInt8)) (A : Option Addr) (c n : Nat) (hn : ls.length = n) (hl : ls.length ≤ 10000000000000) (w : World) (hs : Strs w A ls) (b : Bool) (hb : ls.any (fun x => otherB wd x) = b) (hc : ∀ x ∈ ls, ∀ b, otherB wd x = b → ∀ w, w.cell? ⟨g6, 2, none⟩ = some (.int .i64 (wd : Int)) → (Calls Tryz.prog 93 #[.string (S x), .pointer (some ⟨g6, 0, none⟩)] w fun e w' => e = .returned (.bool b) ∧ w = w')) (h2 : w.cell? ⟨g6, 2, none⟩ = some (.int .i64 (wd : Int))) :
 Calls Tryz.prog 38 #[.slice A n c, .func (.func 93) #[] #[.pointer (some ⟨g6, 0, none⟩)]] w fun e w' => e = .returned (.bool b) ∧ w = w' := by
 subst hn
 have H := Lib.hid (p_ixo g6 wd ls A c hl w hs hc h2)
 have HB := Lib.hid hb
 clear hs hb hc hl h2
 go_enter Tryz.func38, Tryz.ntmps38
 go_wp2_with (go_at_call 71; ((with_reducible refine H.out.mono ?_); rintro e w9 ⟨⟨v, rfl, hv⟩, rfl⟩))
 go_ret
 refine ⟨?_, rfl⟩
 rw [← HB.out]
 rfl
set_option maxHeartbeats 1000000 in
theorem p_ixp (ls : List (List UInt8)) (A : Option Addr) (c : Nat) (hl : ls.length ≤ 10000000000000) (w : World) (hs : Strs w A ls) (hc : ∀ x ∈ ls, ∀ b, (!validL x) = b → ∀ w, (Calls Tryz.prog 58 #[.string (S x)] w fun e w' => e = .returned (.bool b) ∧ w = w')) :
 Calls Tryz.prog 71 #[.slice A ls.length c, .func (.func 58) #[] #[]] w fun e w' => (∃ v : Int, e = .returned (.int .i64 v) ∧ decide (0 ≤ v) = ls.any (fun x => !validL x)) ∧ w = w' := by
 have HS := Lib.hid hs
 have HC := Lib.hid hc
 obtain ⟨n, hn⟩ : ∃ n, ls.length = n := ⟨_, rfl⟩
 have HN := Lib.hid hn
 rw [hn] at hl ⊢
 clear hs hc hn
 go_enter Tryz.func71, Tryz.ntmps71
 go_wp2
 go_loopw [8] (fun i wr => ∃ (j : Nat), j ≤ n ∧ i = .int .i64 (j : Int) ∧ Hid (w = wr ∧ ∀ i, i < j → (fun x => !validL x) (ls.getD i []) = false)) (fun i _ => n - (intOf i).toNat)
 case atStart => exact ⟨0, by omega, rfl, Lib.hid ⟨rfl, fun i hi => by omega⟩⟩
 case round =>
  obtain ⟨j, hj, rfl, HR⟩ := hrel
  obtain rfl := HR.out.1
  by_cases hlt : j < n
  ·
   obtain ⟨ab, ao, rfl, hab, hcell⟩ := HS.out.cell (by rw [HN.out]; omega)
   have hcl := hcell j (by rw [HN.out]; exact hlt)
   obtain ⟨x, hx⟩ : ∃ x, ls.getD j [] = x := ⟨_, rfl⟩
   rw [hx] at hcl
   have HX := Lib.hid hx
   have HCC := Lib.hid (HC.out x (by rw [← hx, List.getD_eq_getElem?_getD, List.getElem?_eq_getElem (by rw [HN.out]; exact hlt)]; exact List.getElem_mem _))
   clear hx hcell hab
   rcases hp : (fun x => !validL x) x with _ | _
   · have HP := Lib.hid hp
     clear hp
     go_wp2_with (go_at_call 58; ((with_reducible refine (HCC.out false HP.out _).mono ?_); rintro e w9 ⟨rfl, rfl⟩))
     go_roundw
     case rel => exact ⟨j + 1, by omega, by go_num, Lib.hid ⟨by first | rfl | trivial, fun i hi => by
      by_cases e : i = j
      · rw [e, HX.out]; exact HP.out
      · exact HR.out.2 i (by omega)⟩⟩
     case measure => simp [intOf]; omega
   · have HP := Lib.hid hp
     clear hp
     go_wp2_with (go_at_call 58; ((with_reducible refine (HCC.out true HP.out _).mono ?_); rintro e w9 ⟨rfl, rfl⟩))
     go_ret
     refine ⟨⟨(j : Int), rfl, ?_⟩, rfl⟩
     have h1 : ls.any (fun x => !validL x) = true := by
      rw [List.any_eq_true]
      refine ⟨x, ?_, HP.out⟩
      rw [← HX.out, List.getD_eq_getElem?_getD, List.getElem?_eq_getElem (by rw [HN.out]; exact hlt)]
      exact List.getElem_mem _
     rw [h1]; simp
  · obtain rfl : j = n := by omega
    go_wp2
    go_ret
    refine ⟨⟨-1, rfl, ?_⟩, rfl⟩
    have h1 : ls.any (fun x => !validL x) = false := by
     rw [List.any_eq_false]
     intro x hx
     obtain ⟨i, hi, rfl⟩ := List.getElem_of_mem hx
     have := HR.out.2 i (by rw [← HN.out]; exact hi)
     rw [List.getD_eq_getElem?_getD, List.getElem?_eq_getElem hi] at this
     simpa using this
    rw [h1]; rfl
theorem p_cfp (ls : List (List UInt8)) (A : Option Addr) (c n : Nat) (hn : ls.length = n) (hl : ls.length ≤ 10000000000000) (w : World) (hs : Strs w A ls) (b : Bool) (hb : ls.any (fun x => !validL x) = b) (hc : ∀ x ∈ ls, ∀ b, (!validL x) = b → ∀ w, (Calls Tryz.prog 58 #[.string (S x)] w fun e w' => e = .returned (.bool b) ∧ w = w')) :
 Calls Tryz.prog 38 #[.slice A n c, .func (.func 58) #[] #[]] w fun e w' => e = .returned (.bool b) ∧ w = w' := by
 subst hn
 have H := Lib.hid (p_ixp  ls A c hl w hs hc)
 have HB := Lib.hid hb
 clear hs hb hc hl
 go_enter Tryz.func38, Tryz.ntmps38
 go_wp2_with (go_at_call 71; ((with_reducible refine H.out.mono ?_); rintro e w9 ⟨⟨v, rfl, hv⟩, rfl⟩))
 go_ret
 refine ⟨?_, rfl⟩
 rw [← HB.out]
 rfl
theorem p_lf1 (x : List UInt8) (wd g6 : Nat) (b : Bool) (hb : otherB wd x = b) (w : World) (hc : w.cell? ⟨g6, 2, none⟩ = some (.int .i64 (wd : Int))) :
 Calls Tryz.prog 93 #[.string (S x), .pointer (some ⟨g6, 0, none⟩)] w fun e w' => e = .returned (.bool b) ∧ w = w' := by
 have HB := Lib.hid hb
 clear hb
 go_enter Tryz.func93, Tryz.ntmps93
 go_wp2
 go_ret
 refine ⟨?_, rfl⟩
 rw [← HB.out]
 unfold otherB
 by_cases e : x.length = wd
 · simp [S_size, e]
 · have e2 : (x.length : Int) ≠ (wd : Int) := by omega
   simp [S_size, e, e2]
theorem p_par1 (x : List UInt8) (hx : (S x).size ≤ maxLen) (b : Bool) (hb : (!validL x) = b) (w : World) :
 Calls Tryz.prog 58 #[.string (S x)] w fun e w' => e = .returned (.bool b) ∧ w = w' := by
 have HB := Lib.hid (show _ ∧ _ from ⟨hb, hx⟩)
 clear hb
 go_enter Tryz.func58, Tryz.ntmps58
 go_wp2_with (go_at_call 37; ((with_reducible refine (p_valid (S x) x rfl _ HB.out.2).mono ?_); rintro e w9 ⟨rfl, rfl⟩))
 go_ret
 refine ⟨?_, rfl⟩
 rw [← HB.out.1]
 rfl
def fitsB (f : Int) (ls : List (List UInt8)) : Bool := decide (ls.length = cntN f) && !(ls.any (otherB (widN f)))
theorem fits_lines {f : Int} {ls : List (List UInt8)} (h : fitsB f ls = true) : LinesOf f ls := by
 unfold fitsB at h
 simp only [Bool.and_eq_true, decide_eq_true_eq, Bool.not_eq_true', List.any_eq_false] at h
 refine ⟨h.1, fun j hj => ?_⟩
 have h2 := h.2 (ls.getD j []) (by
  rw [List.getD_eq_getElem?_getD, List.getElem?_eq_getElem (by omega)]
  exact List.getElem_mem _)
 unfold otherB at h2
 simpa using h2
theorem lines_fits {f : Int} {ls : List (List UInt8)} (h : LinesOf f ls) : fitsB f ls = true := by
 unfold fitsB
 simp only [Bool.and_eq_true, decide_eq_true_eq, Bool.not_eq_true', List.any_eq_false]
 refine ⟨h.1, fun x hx => ?_⟩
 obtain ⟨i, hi, rfl⟩ := List.getElem_of_mem hx
 have := h.2 i (by rw [← h.1]; exact hi)
 rw [List.getD_eq_getElem?_getD, List.getElem?_eq_getElem hi] at this
 unfold otherB
 simpa using this
theorem lines_shape {ls : List (List UInt8)} : (LinesOf 1 ls ↔ shapeL ls = 1) ∧ (LinesOf 2 ls ↔ shapeL ls = 2) ∧ (LinesOf 3 ls ↔ shapeL ls = 3) := by
 have c1 : cntN 1 = 3 := rfl
 have c2 : cntN 2 = 2 := rfl
 have c3 : cntN 3 = 2 := rfl
 have w1 : widN 1 = 30 := rfl
 have w2 : widN 2 = 36 := rfl
 have w3 : widN 3 = 44 := rfl
 have i1 : LinesOf 1 ls ↔ (ls.length = 3 ∧ (ls.getD 0 []).length = 30 ∧ (ls.getD 1 []).length = 30 ∧ (ls.getD 2 []).length = 30) := by
  unfold LinesOf; rw [c1, w1]
  refine ⟨fun h => ⟨h.1, h.2 0 (by omega), h.2 1 (by omega), h.2 2 (by omega)⟩, fun h => ⟨h.1, fun j hj => ?_⟩⟩
  have : j = 0 ∨ j = 1 ∨ j = 2 := by omega
  rcases this with rfl | rfl | rfl
  · exact h.2.1
  · exact h.2.2.1
  · exact h.2.2.2
 have i2 : LinesOf 2 ls ↔ (ls.length = 2 ∧ (ls.getD 0 []).length = 36 ∧ (ls.getD 1 []).length = 36) := by
  unfold LinesOf; rw [c2, w2]
  refine ⟨fun h => ⟨h.1, h.2 0 (by omega), h.2 1 (by omega)⟩, fun h => ⟨h.1, fun j hj => ?_⟩⟩
  have : j = 0 ∨ j = 1 := by omega
  rcases this with rfl | rfl
  · exact h.2.1
  · exact h.2.2
 have i3 : LinesOf 3 ls ↔ (ls.length = 2 ∧ (ls.getD 0 []).length = 44 ∧ (ls.getD 1 []).length = 44) := by
  unfold LinesOf; rw [c3, w3]
  refine ⟨fun h => ⟨h.1, h.2 0 (by omega), h.2 1 (by omega)⟩, fun h => ⟨h.1, fun j hj => ?_⟩⟩
  have : j = 0 ∨ j = 1 := by omega
  rcases this with rfl | rfl
  · exact h.2.1
  · exact h.2.2
 rw [i1, i2, i3]
 unfold shapeL
 refine ⟨?_, ?_, ?_⟩ <;> repeat (first | omega | split)
theorem shape_of {f : Int} (h : 1 ≤ f ∧ f ≤ 3) {ls : List (List UInt8)} : LinesOf f ls ↔ shapeL ls = f := by
 have h : f = 1 ∨ f = 2 ∨ f = 3 := by omega
 obtain ⟨h1, h2, h3⟩ := lines_shape (ls := ls)
 rcases h with rfl | rfl | rfl
 · exact h1
 · exact h2
 · exact h3
theorem shape_range (ls : List (List UInt8)) : 0 ≤ shapeL ls ∧ shapeL ls ≤ 3 := by unfold shapeL; repeat (first | omega | split)
def lfV (ls : List (List UInt8)) : List Value := if shapeL ls = 0 then lay0 else layV (shapeL ls)
def lfB (ls : List (List UInt8)) : Bool := decide (shapeL ls ≠ 0)
theorem lf_is {f : Int} {ls : List (List UInt8)} (hf : 1 ≤ f ∧ f ≤ 3) (h : shapeL ls = f) : lfV ls = layV f ∧ lfB ls = true := by
 unfold lfV lfB
 rw [h, if_neg (by omega)]
 exact ⟨rfl, by simp; omega⟩
theorem lf_no {ls : List (List UInt8)} (h : shapeL ls = 0) : lfV ls = lay0 ∧ lfB ls = false := by
 unfold lfV lfB
 rw [h]
 exact ⟨rfl, rfl⟩
theorem ix_fm0 (w : World) : (Instr.index 119 (.agg #[.int .i64 1, .int .i64 2, .int .i64 3]) (.int .i64 0)).run Tryz.prog w = .ok (.int .i64 1) w := by kernel_rfl
theorem ix_fm1 (w : World) : (Instr.index 119 (.agg #[.int .i64 1, .int .i64 2, .int .i64 3]) (.int .i64 1)).run Tryz.prog w = .ok (.int .i64 2) w := by kernel_rfl
theorem ix_fm2 (w : World) : (Instr.index 119 (.agg #[.int .i64 1, .int .i64 2, .int .i64 3]) (.int .i64 2)).run Tryz.prog w = .ok (.int .i64 3) w := by kernel_rfl
theorem ix_fm (k : Nat) (hk : k < 3) (w : World) : (Instr.index 119 (.agg #[.int .i64 1, .int .i64 2, .int .i64 3]) (.int .i64 (k : Int))).run Tryz.prog w = .ok (.int .i64 ((k : Int) + 1)) w := by
 have h : k = 0 ∨ k = 1 ∨ k = 2 := by omega
 rcases h with rfl | rfl | rfl
 · exact ix_fm0 w
 · exact ix_fm1 w
 · exact ix_fm2 w
set_option maxHeartbeats 1600000 in
set_option maxRecDepth 20000 in
theorem p_lfor (ls : List (List UInt8)) (A : Option Addr) (c : Nat) (hl : ls.length ≤ 10000000000000) (w : World) (hs : Strs w A ls) :
 Calls Tryz.prog 57 #[.slice A ls.length c] w fun e w' => e = .returned (.tuple #[.agg (lfV ls).toArray, .bool (lfB ls)]) ∧ Below w.heap.size w w' := by
 have HS := Lib.hid hs
 have HO := Lib.hid (Own.start w)
 obtain ⟨n, hn⟩ : ∃ n, ls.length = n := ⟨_, rfl⟩
 have HN := Lib.hid hn
 have HL := Lib.hid hl
 rw [hn] at hl ⊢
 clear hs hn
 go_enter Tryz.func57, Tryz.ntmps57
 go_wp2_with (first
  | ((with_reducible refine at_alloc_ (d := 2) ?_); refine wpList_alloc_v (op := ⟨some 2, _, _, _, _, _⟩) rfl 88 rfl lay0 info_l ?_; intro g2 v2a hf hr; replace HO := Lib.hid (HO.out.new hf hr); clear hf hr))
 go_loopw [10] (fun i wr => ∃ (k : Nat), k ≤ 3 ∧ i = .int .i64 (k : Int) ∧ Hid (Own w wr [(g2, lay0)]) ∧ Hid (∀ f : Int, 1 ≤ f → f ≤ k → shapeL ls ≠ f)) (fun i _ => 3 - (intOf i).toNat)
 case atStart => exact ⟨0, by omega, rfl, HO, Lib.hid (fun f h1 h2 => by omega)⟩
 case round =>
  clear HO
  obtain ⟨k, hk, rfl, HO, HNO⟩ := hrel
  by_cases hlt : k < 3
  ·
   have hix := fun w => ix_fm k hlt w
   obtain ⟨f, hf⟩ : ∃ f : Int, (k : Int) + 1 = f := ⟨_, rfl⟩
   rw [hf] at hix
   have HF : Hid (1 ≤ f ∧ f ≤ 3) := Lib.hid (by omega)
   have HFK := Lib.hid hf
   obtain ⟨ct, hct⟩ : ∃ ct, cntN f = ct := ⟨_, rfl⟩
   obtain ⟨wd, hwd⟩ : ∃ wd, widN f = wd := ⟨_, rfl⟩
   have HC : Hid ((layV f)[1]? = some (.int .i64 (ct : Int)) ∧ (layV f)[2]? = some (.int .i64 (wd : Int))) := Lib.hid (by rw [← hct, ← hwd]; exact lay_cnt HF.out)
   have HSL : Hid ((Tryz.prog.info? 88).map (·.size) = some (layV f).length) := Lib.hid (by rw [layV_len HF.out]; exact size_l)
   have HCW := Lib.hid (show _ ∧ _ from ⟨hct, hwd⟩)
   clear hf hct hwd
   by_cases hn : n = ct
   · have e1 : ((n : Int) == (ct : Int)) = true := by rw [hn]; exact beq_self_eq_true _
     have HNC := Lib.hid hn
     clear hn
     rcases ha : ls.any (fun x => otherB wd x) with _ | _
     · have HA := Lib.hid ha
       clear ha
       go_wp2_with (first
        | (go_at_call 92; ((with_reducible refine (layout_of f HF.out _).mono ?_); rintro e w5 ⟨rfl, hb⟩); replace HO := Lib.hid (HO.out.on hb); clear hb)
        | ((with_reducible refine at_alloc_ (d := 6) ?_); refine wpList_alloc_v (op := ⟨some 6, _, _, _, _, _⟩) rfl 88 rfl lay0 info_l ?_; intro g6 v6a hf hr; replace HO := Lib.hid (HO.out.new hf hr); clear hf hr)
        | ((with_reducible refine at_store_ (i := 6) ?_); refine wpList_store_v rfl 88 (.tmp 6) (.tmp 16) rfl g6 lay0 (layV f) rfl rfl (HO.out.row (i := 1) rfl) (by rw [layV_len HF.out]; rfl) (layR_one _ _ _) HSL.out ?_; intro v6s hw hr; replace HO := Lib.hid (HO.out.set (i := 1) rfl hw hr); clear hw hr)
        | ((with_reducible refine at_load_ (d := 22) ?_); refine wpList_load_c (op := ⟨some 22, _, _, _, _, _⟩) rfl 3 _ rfl g6 1 rfl _ (((HO.out.row (i := 1) rfl).cell 1).trans HC.out.1) Tryz.isAgg3 ?_)
        | (go_at_call 38; ((with_reducible refine (p_cfo g6 wd ls A c n HN.out HL.out _ (HS.out.on HO.out.bl) false HA.out (fun x _ b hb w hc => p_lf1 x wd g6 b hb w hc) (((HO.out.row (i := 1) rfl).cell 2).trans HC.out.2)).mono ?_); rintro e w9 ⟨rfl, rfl⟩))
        | ((with_reducible refine at_load_ (d := 30) ?_); refine wpList_load_v (op := ⟨some 30, _, _, _, _, _⟩) rfl 88 _ rfl g6 rfl (layV f) _ (HO.out.row (i := 1) rfl) Tryz.underlying88 rfl HSL.out ?_)
        | ((with_reducible refine at_store_ (i := 2) ?_); refine wpList_store_v rfl 88 (.tmp 2) (.tmp 30) rfl g2 lay0 (layV f) rfl rfl (HO.out.row (i := 0) rfl) (by rw [layV_len HF.out]; rfl) (layR_one _ _ _) HSL.out ?_; intro v2s hw hr; replace HO := Lib.hid (HO.out.set (i := 0) rfl hw hr); clear hw hr))
       have hsh : shapeL ls = f := (shape_of HF.out).1 (fits_lines (by
        unfold fitsB
        rw [HN.out, HCW.out.1, HCW.out.2, HNC.out]
        show (decide (ct = ct) && !(ls.any fun x => otherB wd x)) = true
        rw [HA.out]; simp))
       obtain ⟨l1, l2⟩ := lf_is HF.out hsh
       rw [l1, l2]
       exact bodyPost_ret (results_v1 rfl _ _ g2 (layV f) _ rfl (HO.out.row (i := 0) rfl) Tryz.underlying88 rfl HSL.out) rfl ⟨rfl, HO.out.bl⟩
     · have HA := Lib.hid ha
       clear ha
       go_wp2_with (first
        | (go_at_call 92; ((with_reducible refine (layout_of f HF.out _).mono ?_); rintro e w5 ⟨rfl, hb⟩); replace HO := Lib.hid (HO.out.on hb); clear hb)
        | ((with_reducible refine at_alloc_ (d := 6) ?_); refine wpList_alloc_v (op := ⟨some 6, _, _, _, _, _⟩) rfl 88 rfl lay0 info_l ?_; intro g6 v6a hf hr; replace HO := Lib.hid (HO.out.new hf hr); clear hf hr)
        | ((with_reducible refine at_store_ (i := 6) ?_); refine wpList_store_v rfl 88 (.tmp 6) (.tmp 16) rfl g6 lay0 (layV f) rfl rfl (HO.out.row (i := 1) rfl) (by rw [layV_len HF.out]; rfl) (layR_one _ _ _) HSL.out ?_; intro v6s hw hr; replace HO := Lib.hid (HO.out.set (i := 1) rfl hw hr); clear hw hr)
        | ((with_reducible refine at_load_ (d := 22) ?_); refine wpList_load_c (op := ⟨some 22, _, _, _, _, _⟩) rfl 3 _ rfl g6 1 rfl _ (((HO.out.row (i := 1) rfl).cell 1).trans HC.out.1) Tryz.isAgg3 ?_)
        | (go_at_call 38; ((with_reducible refine (p_cfo g6 wd ls A c n HN.out HL.out _ (HS.out.on HO.out.bl) true HA.out (fun x _ b hb w hc => p_lf1 x wd g6 b hb w hc) (((HO.out.row (i := 1) rfl).cell 2).trans HC.out.2)).mono ?_); rintro e w9 ⟨rfl, rfl⟩))
        | ((with_reducible refine at_load_ (d := 30) ?_); refine wpList_load_v (op := ⟨some 30, _, _, _, _, _⟩) rfl 88 _ rfl g6 rfl (layV f) _ (HO.out.row (i := 1) rfl) Tryz.underlying88 rfl HSL.out ?_)
        | ((with_reducible refine at_store_ (i := 2) ?_); refine wpList_store_v rfl 88 (.tmp 2) (.tmp 30) rfl g2 lay0 (layV f) rfl rfl (HO.out.row (i := 0) rfl) (by rw [layV_len HF.out]; rfl) (layR_one _ _ _) HSL.out ?_; intro v2s hw hr; replace HO := Lib.hid (HO.out.set (i := 0) rfl hw hr); clear hw hr))
       go_roundw
       case rel =>
        refine ⟨k + 1, by omega, by go_num, Lib.hid (HO.out.pre (L := [(g2, lay0)])), Lib.hid (fun f' h1 h2 => ?_)⟩
        by_cases e : f' ≤ k
        · exact HNO.out f' h1 e
        · have e2 : f' = f := by have := HFK.out; omega
          rw [e2]
          intro hsh
          have h3 := lines_fits ((shape_of HF.out).2 hsh)
          unfold fitsB at h3
          rw [HCW.out.2] at h3
          have h4 : (ls.any (otherB wd)) = true := HA.out
          rw [h4] at h3
          simp at h3
       case measure => simp [intOf]; omega
   · have e1 : ((n : Int) == (ct : Int)) = false := by
      have : (n : Int) ≠ (ct : Int) := by omega
      simpa using this
     have HNC := Lib.hid hn
     go_wp2_with (first
      | (go_at_call 92; ((with_reducible refine (layout_of f HF.out _).mono ?_); rintro e w5 ⟨rfl, hb⟩); replace HO := Lib.hid (HO.out.on hb); clear hb)
      | ((with_reducible refine at_alloc_ (d := 6) ?_); refine wpList_alloc_v (op := ⟨some 6, _, _, _, _, _⟩) rfl 88 rfl lay0 info_l ?_; intro g6 v6a hf hr; replace HO := Lib.hid (HO.out.new hf hr); clear hf hr)
      | ((with_reducible refine at_store_ (i := 6) ?_); refine wpList_store_v rfl 88 (.tmp 6) (.tmp 16) rfl g6 lay0 (layV f) rfl rfl (HO.out.row (i := 1) rfl) (by rw [layV_len HF.out]; rfl) (layR_one _ _ _) HSL.out ?_; intro v6s hw hr; replace HO := Lib.hid (HO.out.set (i := 1) rfl hw hr); clear hw hr)
      | ((with_reducible refine at_load_ (d := 22) ?_); refine wpList_load_c (op := ⟨some 22, _, _, _, _, _⟩) rfl 3 _ rfl g6 1 rfl _ (((HO.out.row (i := 1) rfl).cell 1).trans HC.out.1) Tryz.isAgg3 ?_)
      | ((with_reducible refine at_load_ (d := 30) ?_); refine wpList_load_v (op := ⟨some 30, _, _, _, _, _⟩) rfl 88 _ rfl g6 rfl (layV f) _ (HO.out.row (i := 1) rfl) Tryz.underlying88 rfl HSL.out ?_)
      | ((with_reducible refine at_store_ (i := 2) ?_); refine wpList_store_v rfl 88 (.tmp 2) (.tmp 30) rfl g2 lay0 (layV f) rfl rfl (HO.out.row (i := 0) rfl) (by rw [layV_len HF.out]; rfl) (layR_one _ _ _) HSL.out ?_; intro v2s hw hr; replace HO := Lib.hid (HO.out.set (i := 0) rfl hw hr); clear hw hr))
     go_roundw
     case rel =>
      refine ⟨k + 1, by omega, by go_num, Lib.hid (HO.out.pre (L := [(g2, lay0)])), Lib.hid (fun f' h1 h2 => ?_)⟩
      by_cases e : f' ≤ k
      · exact HNO.out f' h1 e
      · have e2 : f' = f := by have := HFK.out; omega
        rw [e2]
        intro hsh
        have h3 := ((shape_of HF.out).2 hsh).1
        rw [HN.out, HCW.out.1] at h3
        exact HNC.out h3
     case measure => simp [intOf]; omega
  · obtain rfl : k = 3 := by omega
    have hsh : shapeL ls = 0 := by
     have h1 := HNO.out 1 (by omega) (by omega)
     have h2 := HNO.out 2 (by omega) (by omega)
     have h3 := HNO.out 3 (by omega) (by omega)
     have := shape_range ls
     omega
    have HSH := Lib.hid hsh
    clear hsh
    go_wp2_with ((with_reducible refine at_store_ (i := 2) ?_); refine wpList_store_v rfl 88 (.tmp 2) (.tmp 32) rfl g2 lay0 lay0 rfl rfl (HO.out.row (i := 0) rfl) rfl lay0_one size_l ?_; intro v2s hw hr; replace HO := Lib.hid (HO.out.set (i := 0) rfl hw hr); clear hw hr)
    obtain ⟨l1, l2⟩ := lf_no HSH.out
    rw [l1, l2]
    exact bodyPost_ret (results_v1 rfl _ _ g2 lay0 _ rfl (HO.out.row (i := 0) rfl) Tryz.underlying88 rfl size_l) rfl ⟨rfl, HO.out.bl⟩
end Go.Proofs.YtibahbkjjfmbgaaGreatDoor
