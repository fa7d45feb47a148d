/-
  What is proved here: whether the check digits of the fields are right, as the program finds it.
-/
import Derived.Test.YtibahbkjjfmbgaaGreatDoorUY6
import Derived.Test.YtibahbkjjfmbgaaGreatDoorUY8
namespace Go.Proofs.YtibahbkjjfmbgaaGreatDoor
open Go.RowKit Go.Maps
set_option linter.unusedVariables false
theorem wpList_box_s {P : Program} {ops : Array Oper} {rest : List Oper} {op : Oper} {a : Act} {w : World} {Q : Exit → Act → World → Prop} (hgd : op.guard = none) (ty : TypeId) (x : Operand) (ho : op.op = .box ty x) (v : Value) (hx : a.eval x = v) (hv : v.cells = #[v])
 (hK : ∀ g w', Fresh w w' g → RowV w' g [v] → wpList P ops Q rest (a.put op.dst (.pointer (some ⟨g, 0, none⟩))) w') : wpList P ops Q (op :: rest) a w := by
 refine wpList_plain hgd fun K hK2 => ?_
 have hr : (Instr.box ty v).run P w = .ok (.pointer (some ⟨w.heap.size, 0, none⟩)) (w.alloc (.cells #[v] ty)) := by
  simp [Instr.box, newVar, newRow, newObj, hv]
  rfl
 unfold Oper.wp execOp
 simp only [ho, hx, Sem.run_bind, hr, Result.andThen_ok]
 exact hK2 _ _ (hK _ _ ⟨rfl, _, rfl⟩ (RowV.new (by simp)))
theorem wpList_look_mg {w : World} {ops : Array Oper} {rest : List Oper} {o : Oper} {a : Act} {Q : Exit → Act → World → Prop} (hw : Region.wanted o (yielded ops a.tmps) = true) (m x : Operand) (hop : o.op = Op.lookup mT m x false) (b n : Nat) (T : Nat → List UInt8) (hm : a.eval m = .map (some b)) (h : MapIs w b n T) (k : Nat) (hk : k < 15) (hx : a.eval x = .int .i64 (k : Int))
 (hK : wpList Tryz.prog ops Q rest (a.put o.dst (.string (S (T k)))) w) : wpList Tryz.prog ops Q (o :: rest) a w := by
 refine wpList_step fun K hK2 => ?_
 rw [if_pos hw]
 have hr := h.look hk
 unfold Oper.wp
 simp [execOp, hop, hm, hx, hr, Result.andThen]
 exact hK2 _ _ hK
theorem MapIs.qlook {w : World} {b n : Nat} {T : Nat → List UInt8} (h : MapIs w b n T) {k : Nat} (hk : k < 15) (d : Nat) (os : Array Obj) : (Instr.lookup mT (.map (some b)) (.int .i64 (k : Int)) false).run Tryz.prog (Go.Sort.grow (redrawn w d) os) = .ok (.string (S (T k))) (Go.Sort.grow (redrawn w d) os) :=
 (h.on (below_regrown w d os)).look hk
theorem p_rg (k d : Nat) (hk : k < 15) (hd : d < 15) (g b n : Nat) (T : Nat → List UInt8) (w : World) (hM : Mm w) (hc : w.cell? ⟨g, 0, none⟩ = some (.map (some b))) (hm : MapIs w b n T) (hz : (S (T k)).size ≤ 140737488355328) (r : Bool) (hr : decide (T d = dgL (T k)) = r) :
 Calls Tryz.prog 95 #[.int .i64 (k : Int), .int .i64 (d : Int), .pointer (some ⟨g, 0, none⟩)] w fun e w' => e = .returned (.bool r) ∧ Below w.heap.size w w' := by
 have HM := Lib.hid hM
 obtain ⟨X, hX⟩ : ∃ X, S (T k) = X := ⟨_, rfl⟩
 obtain ⟨Y, hY⟩ : ∃ Y, S (T d) = Y := ⟨_, rfl⟩
 obtain ⟨D, hD⟩ : ∃ D, S (dgL (T k)) = D := ⟨_, rfl⟩
 have hXx : X = S (T k) := hX.symm
 have HR : Hid ((Y.toList == D.toList) = r) := Lib.hid (by rw [← hY, ← hD, S_toList, S_toList, ← hr, Bool.eq_iff_iff]; simp)
 have l0 := hm.qlook hk
 have l1 := hm.qlook hd
 rw [hX] at l0
 rw [hY] at l1
 have lc : ∀ (d : Nat) (os : Array Obj), (Go.Sort.grow (redrawn w d) os).cell? ⟨g, 0, none⟩ = some (.map (some b)) := fun d os => cell_regrown hc d os
 have q1 := quiet_up (w := w) fun w' hb => p_dig X (T k) hXx w' (by rw [← hX]; exact hz) (HM.out.on hb)
 rw [hD] at q1
 clear hM hc hm hz hr hX hY hD hXx
 go_enter Tryz.func95, Tryz.ntmps95
 go_wp2_with fail
 refine wp_region_quiet_below (by kernel_rfl) (by kernel_rfl) ?_
 repeat (first | go_big_quiet_skip | (go_big_quiet_want; go_big_quiet_op; go_big_quiet_on) | quiet_step (first | with_reducible exact q1 _ _))
 refine wpQuiet_nil ?_
 intro w3 hw3
 have H3 := Lib.hid (below_of_regrown hw3)
 clear hw3 q1 l0 l1 lc
 go_wp2
 go_ret
 exact ⟨by rw [← HR.out]; rfl, H3.out⟩
set_option maxHeartbeats 3200000 in
set_option maxRecDepth 20000 in
theorem p_dm (f : Int) (hf : 1 ≤ f ∧ f ≤ 3) (b n : Nat) (T : Nat → List UInt8) (w : World) (hM : Mm w) (hm : MapIs w b n T) (hz : ∀ k, k < 15 → (S (T k)).size ≤ 140737488355328) :
 Calls Tryz.prog 60 #[.map (some b), .agg (layV f).toArray] w fun e w' => e = .returned (.bool (digsB f T)) ∧ Below w.heap.size w w' := by
 have HM := Lib.hid hM
 have HF := Lib.hid hf
 have HMP := Lib.hid hm
 obtain ⟨V4, hV4⟩ : ∃ V, S (T 4) = V := ⟨_, rfl⟩
 obtain ⟨V11, hV11⟩ : ∃ V, S (T 11) = V := ⟨_, rfl⟩
 obtain ⟨V12, hV12⟩ : ∃ V, S (T 12) = V := ⟨_, rfl⟩
 obtain ⟨U, hU⟩ : ∃ U, S (trimT (T 11)) = U := ⟨_, rfl⟩
 obtain ⟨b4, hb4⟩ : ∃ b, decide (T 4 = [60]) = b := ⟨_, rfl⟩
 obtain ⟨b12, hb12⟩ : ∃ b, decide (T 12 = [60]) = b := ⟨_, rfl⟩
 obtain ⟨bt, hbt⟩ : ∃ b, decide (trimT (T 11) = []) = b := ⟨_, rfl⟩
 obtain ⟨r4, hr4⟩ : ∃ r, decide (T 4 = dgL (T 3)) = r := ⟨_, rfl⟩
 obtain ⟨r7, hr7⟩ : ∃ r, decide (T 7 = dgL (T 6)) = r := ⟨_, rfl⟩
 obtain ⟨r10, hr10⟩ : ∃ r, decide (T 10 = dgL (T 9)) = r := ⟨_, rfl⟩
 obtain ⟨r12, hr12⟩ : ∃ r, decide (T 12 = dgL (T 11)) = r := ⟨_, rfl⟩
 have HD : Hid (digsB f T = ((b4 || r4) && ((r7 && r10) && (decide (f ≠ 3) || (r12 || (bt && b12)))))) := Lib.hid (by
  unfold digsB dg1 dg2 dg3
  rw [← hb4, ← hb12, ← hbt, ← hr4, ← hr7, ← hr10, ← hr12]
  simp only [Bool.decide_or, Bool.decide_and])
 have e4 : (V4.toList == [60]) = b4 := by rw [← hV4, S_toList, ← hb4, Bool.eq_iff_iff]; simp
 have e12 : (V12.toList == [60]) = b12 := by rw [← hV12, S_toList, ← hb12, Bool.eq_iff_iff]; simp
 have et : U.toList.isEmpty = bt := by rw [← hU, S_toList, ← hbt, Bool.eq_iff_iff]; simp
 have HRG : Hid (∀ (g2 : Nat) (w' : World), w'.cell? ⟨g2, 0, none⟩ = some (.map (some b)) → Below w.heap.size w w' →
  (Calls Tryz.prog 95 #[.int .i64 3, .int .i64 4, .pointer (some ⟨g2, 0, none⟩)] w' fun e w'' => e = .returned (.bool r4) ∧ Below w'.heap.size w' w'') ∧
  (Calls Tryz.prog 95 #[.int .i64 6, .int .i64 7, .pointer (some ⟨g2, 0, none⟩)] w' fun e w'' => e = .returned (.bool r7) ∧ Below w'.heap.size w' w'') ∧
  (Calls Tryz.prog 95 #[.int .i64 9, .int .i64 10, .pointer (some ⟨g2, 0, none⟩)] w' fun e w'' => e = .returned (.bool r10) ∧ Below w'.heap.size w' w'') ∧
  Calls Tryz.prog 95 #[.int .i64 11, .int .i64 12, .pointer (some ⟨g2, 0, none⟩)] w' fun e w'' => e = .returned (.bool r12) ∧ Below w'.heap.size w' w'') := Lib.hid (fun g2 w' hc hb =>
  ⟨p_rg 3 4 (by decide) (by decide) g2 b n T w' (hM.on hb) hc (hm.on hb) (hz 3 (by decide)) r4 hr4, p_rg 6 7 (by decide) (by decide) g2 b n T w' (hM.on hb) hc (hm.on hb) (hz 6 (by decide)) r7 hr7, p_rg 9 10 (by decide) (by decide) g2 b n T w' (hM.on hb) hc (hm.on hb) (hz 9 (by decide)) r10 hr10, p_rg 11 12 (by decide) (by decide) g2 b n T w' (hM.on hb) hc (hm.on hb) (hz 11 (by decide)) r12 hr12⟩)
 have HUN : Hid (∀ w, Calls Tryz.prog 98 #[.string V11] w fun e w' => e = .returned (.string U) ∧ w = w') := Lib.hid (fun w => by rw [← hV11, ← hU]; exact (p_unf _ _ rfl w (hz 11 (by decide))).mono fun e w' h => ⟨h.1, h.2.symm⟩)
 have HV := Lib.hid (show _ ∧ _ ∧ _ from ⟨hV4, hV11, hV12⟩)
 have HSL : Hid ((Tryz.prog.info? 88).map (·.size) = some (layV f).length) := Lib.hid (by rw [layV_len hf]; exact size_l)
 have HO := Lib.hid (Own.start w)
 clear hM hm hz hV4 hV11 hV12 hU hb4 hb12 hbt hr4 hr7 hr10 hr12
 cases b4
 ·
  cases r4
  · skip
    go_enter Tryz.func60, Tryz.ntmps60
    go_wp2_with (first
     | ((with_reducible refine at_box_ (d := 2) ?_); refine wpList_box_s (op := ⟨some 2, _, _, _, _, _⟩) rfl _ _ rfl (.map (some b)) rfl rfl ?_; intro g2 v2b hf hr; replace HO := Lib.hid (HO.out.new hf hr); clear hf hr)
     | ((with_reducible refine at_box_ (d := 3) ?_); refine wpList_box_v (op := ⟨some 3, _, _, _, _, _⟩) rfl 88 _ rfl (layV f) rfl ?_; intro g3 v3b hf hr; replace HO := Lib.hid (HO.out.new hf hr); clear hf hr)
     | ((with_reducible refine at_load_ (d := 7) ?_); refine wpList_load_c rfl _ _ rfl g2 0 rfl _ ((HO.out.row (i := 0) rfl).cell 0) (fun w => by kernel_rfl) ?_)
     | ((with_reducible refine at_look_ (d := 8) ?_); refine wpList_look_m rfl _ _ rfl b n T rfl (HMP.out.on HO.out.bl) 4 (by decide) rfl ?_; rw [HV.out.1])
     | (go_at_call 95; ((with_reducible refine ((HRG.out _ _ ((HO.out.row (i := 0) rfl).cell 0) HO.out.bl).1).mono ?_); rintro e w9 ⟨rfl, hb⟩); replace HO := Lib.hid (HO.out.on hb); clear hb))
    go_ret
    exact ⟨by rw [HD.out]; simp, HO.out.bl⟩
  ·
   skip
   cases r7
   · skip
     go_enter Tryz.func60, Tryz.ntmps60
     go_wp2_with (first
      | ((with_reducible refine at_box_ (d := 2) ?_); refine wpList_box_s (op := ⟨some 2, _, _, _, _, _⟩) rfl _ _ rfl (.map (some b)) rfl rfl ?_; intro g2 v2b hf hr; replace HO := Lib.hid (HO.out.new hf hr); clear hf hr)
      | ((with_reducible refine at_box_ (d := 3) ?_); refine wpList_box_v (op := ⟨some 3, _, _, _, _, _⟩) rfl 88 _ rfl (layV f) rfl ?_; intro g3 v3b hf hr; replace HO := Lib.hid (HO.out.new hf hr); clear hf hr)
      | ((with_reducible refine at_load_ (d := 7) ?_); refine wpList_load_c rfl _ _ rfl g2 0 rfl _ ((HO.out.row (i := 0) rfl).cell 0) (fun w => by kernel_rfl) ?_)
      | ((with_reducible refine at_look_ (d := 8) ?_); refine wpList_look_m rfl _ _ rfl b n T rfl (HMP.out.on HO.out.bl) 4 (by decide) rfl ?_; rw [HV.out.1])
      | (go_at_call 95; ((with_reducible refine ((HRG.out _ _ ((HO.out.row (i := 0) rfl).cell 0) HO.out.bl).1).mono ?_); rintro e w9 ⟨rfl, hb⟩); replace HO := Lib.hid (HO.out.on hb); clear hb)
      | (go_at_call 95; ((with_reducible refine ((HRG.out _ _ ((HO.out.row (i := 0) rfl).cell 0) HO.out.bl).2.1).mono ?_); rintro e w9 ⟨rfl, hb⟩); replace HO := Lib.hid (HO.out.on hb); clear hb)
      | (go_at_call 95; ((with_reducible refine ((HRG.out _ _ ((HO.out.row (i := 0) rfl).cell 0) HO.out.bl).2.2.1).mono ?_); rintro e w9 ⟨rfl, hb⟩); replace HO := Lib.hid (HO.out.on hb); clear hb))
     go_ret
     exact ⟨by rw [HD.out]; simp, HO.out.bl⟩
   cases r10
   · skip
     go_enter Tryz.func60, Tryz.ntmps60
     go_wp2_with (first
      | ((with_reducible refine at_box_ (d := 2) ?_); refine wpList_box_s (op := ⟨some 2, _, _, _, _, _⟩) rfl _ _ rfl (.map (some b)) rfl rfl ?_; intro g2 v2b hf hr; replace HO := Lib.hid (HO.out.new hf hr); clear hf hr)
      | ((with_reducible refine at_box_ (d := 3) ?_); refine wpList_box_v (op := ⟨some 3, _, _, _, _, _⟩) rfl 88 _ rfl (layV f) rfl ?_; intro g3 v3b hf hr; replace HO := Lib.hid (HO.out.new hf hr); clear hf hr)
      | ((with_reducible refine at_load_ (d := 7) ?_); refine wpList_load_c rfl _ _ rfl g2 0 rfl _ ((HO.out.row (i := 0) rfl).cell 0) (fun w => by kernel_rfl) ?_)
      | ((with_reducible refine at_look_ (d := 8) ?_); refine wpList_look_m rfl _ _ rfl b n T rfl (HMP.out.on HO.out.bl) 4 (by decide) rfl ?_; rw [HV.out.1])
      | (go_at_call 95; ((with_reducible refine ((HRG.out _ _ ((HO.out.row (i := 0) rfl).cell 0) HO.out.bl).1).mono ?_); rintro e w9 ⟨rfl, hb⟩); replace HO := Lib.hid (HO.out.on hb); clear hb)
      | (go_at_call 95; ((with_reducible refine ((HRG.out _ _ ((HO.out.row (i := 0) rfl).cell 0) HO.out.bl).2.1).mono ?_); rintro e w9 ⟨rfl, hb⟩); replace HO := Lib.hid (HO.out.on hb); clear hb)
      | (go_at_call 95; ((with_reducible refine ((HRG.out _ _ ((HO.out.row (i := 0) rfl).cell 0) HO.out.bl).2.2.1).mono ?_); rintro e w9 ⟨rfl, hb⟩); replace HO := Lib.hid (HO.out.on hb); clear hb))
     go_ret
     exact ⟨by rw [HD.out]; simp, HO.out.bl⟩
   by_cases h3 : f = 3
   ·
    have HSI : Hid (∀ w, Calls Tryz.prog 97 #[.agg (layV f).toArray, .int .i64 12] w fun e w' => e = .returned (.int .i64 1) ∧ Below w.heap.size w w') := Lib.hid (fun w => by rw [h3]; exact p_size 3 (by decide) 12 (by decide) w)
    have H3 : Hid (decide (f ≠ 3) = false) := Lib.hid (by simp [h3])
    clear h3
    cases r12
    ·
     cases bt
     ·
      skip
      go_enter Tryz.func60, Tryz.ntmps60
      go_wp2_with (first
       | ((with_reducible refine at_box_ (d := 2) ?_); refine wpList_box_s (op := ⟨some 2, _, _, _, _, _⟩) rfl _ _ rfl (.map (some b)) rfl rfl ?_; intro g2 v2b hf hr; replace HO := Lib.hid (HO.out.new hf hr); clear hf hr)
       | ((with_reducible refine at_box_ (d := 3) ?_); refine wpList_box_v (op := ⟨some 3, _, _, _, _, _⟩) rfl 88 _ rfl (layV f) rfl ?_; intro g3 v3b hf hr; replace HO := Lib.hid (HO.out.new hf hr); clear hf hr)
       | ((with_reducible refine at_load_ (d := 7) ?_); refine wpList_load_c rfl _ _ rfl g2 0 rfl _ ((HO.out.row (i := 0) rfl).cell 0) (fun w => by kernel_rfl) ?_)
       | ((with_reducible refine at_look_ (d := 8) ?_); refine wpList_look_m rfl _ _ rfl b n T rfl (HMP.out.on HO.out.bl) 4 (by decide) rfl ?_; rw [HV.out.1])
       | (go_at_call 95; ((with_reducible refine ((HRG.out _ _ ((HO.out.row (i := 0) rfl).cell 0) HO.out.bl).1).mono ?_); rintro e w9 ⟨rfl, hb⟩); replace HO := Lib.hid (HO.out.on hb); clear hb)
       | (go_at_call 95; ((with_reducible refine ((HRG.out _ _ ((HO.out.row (i := 0) rfl).cell 0) HO.out.bl).2.1).mono ?_); rintro e w9 ⟨rfl, hb⟩); replace HO := Lib.hid (HO.out.on hb); clear hb)
       | (go_at_call 95; ((with_reducible refine ((HRG.out _ _ ((HO.out.row (i := 0) rfl).cell 0) HO.out.bl).2.2.1).mono ?_); rintro e w9 ⟨rfl, hb⟩); replace HO := Lib.hid (HO.out.on hb); clear hb)
       | ((with_reducible refine at_load_ (d := 23) ?_); refine wpList_load_v rfl 88 _ rfl g3 rfl (layV f) _ (HO.out.row (i := 1) rfl) Tryz.underlying88 rfl HSL.out ?_)
       | (go_at_call 97; ((with_reducible refine (HSI.out _).mono ?_); rintro e w9 ⟨rfl, hb⟩); replace HO := Lib.hid (HO.out.on hb); clear hb)
       | (go_at_call 95; ((with_reducible refine ((HRG.out _ _ ((HO.out.row (i := 0) rfl).cell 0) HO.out.bl).2.2.2).mono ?_); rintro e w9 ⟨rfl, hb⟩); replace HO := Lib.hid (HO.out.on hb); clear hb)
       | ((with_reducible refine at_load_ (d := 30) ?_); refine wpList_load_c rfl _ _ rfl g2 0 rfl _ ((HO.out.row (i := 0) rfl).cell 0) (fun w => by kernel_rfl) ?_)
       | ((with_reducible refine at_look_ (d := 31) ?_); refine wpList_look_m rfl _ _ rfl b n T rfl (HMP.out.on HO.out.bl) 11 (by decide) rfl ?_; rw [HV.out.2.1])
       | (go_at_call 98; ((with_reducible refine (HUN.out _).mono ?_); rintro e w9 ⟨rfl, rfl⟩))
       | ((with_reducible refine at_load_ (d := 35) ?_); refine wpList_load_cg (by rfl) _ _ rfl g2 0 rfl _ ((HO.out.row (i := 0) rfl).cell 0) (fun w => by kernel_rfl) ?_)
       | ((with_reducible refine at_look_ (d := 36) ?_); refine wpList_look_mg (by rfl) _ _ rfl b n T rfl (HMP.out.on HO.out.bl) 12 (by decide) rfl ?_; rw [HV.out.2.2]))
      go_ret
      exact ⟨by rw [HD.out]; rw [H3.out]; simp, HO.out.bl⟩
     ·
      cases b12
      ·
       skip
       go_enter Tryz.func60, Tryz.ntmps60
       go_wp2_with (first
        | ((with_reducible refine at_box_ (d := 2) ?_); refine wpList_box_s (op := ⟨some 2, _, _, _, _, _⟩) rfl _ _ rfl (.map (some b)) rfl rfl ?_; intro g2 v2b hf hr; replace HO := Lib.hid (HO.out.new hf hr); clear hf hr)
        | ((with_reducible refine at_box_ (d := 3) ?_); refine wpList_box_v (op := ⟨some 3, _, _, _, _, _⟩) rfl 88 _ rfl (layV f) rfl ?_; intro g3 v3b hf hr; replace HO := Lib.hid (HO.out.new hf hr); clear hf hr)
        | ((with_reducible refine at_load_ (d := 7) ?_); refine wpList_load_c rfl _ _ rfl g2 0 rfl _ ((HO.out.row (i := 0) rfl).cell 0) (fun w => by kernel_rfl) ?_)
        | ((with_reducible refine at_look_ (d := 8) ?_); refine wpList_look_m rfl _ _ rfl b n T rfl (HMP.out.on HO.out.bl) 4 (by decide) rfl ?_; rw [HV.out.1])
        | (go_at_call 95; ((with_reducible refine ((HRG.out _ _ ((HO.out.row (i := 0) rfl).cell 0) HO.out.bl).1).mono ?_); rintro e w9 ⟨rfl, hb⟩); replace HO := Lib.hid (HO.out.on hb); clear hb)
        | (go_at_call 95; ((with_reducible refine ((HRG.out _ _ ((HO.out.row (i := 0) rfl).cell 0) HO.out.bl).2.1).mono ?_); rintro e w9 ⟨rfl, hb⟩); replace HO := Lib.hid (HO.out.on hb); clear hb)
        | (go_at_call 95; ((with_reducible refine ((HRG.out _ _ ((HO.out.row (i := 0) rfl).cell 0) HO.out.bl).2.2.1).mono ?_); rintro e w9 ⟨rfl, hb⟩); replace HO := Lib.hid (HO.out.on hb); clear hb)
        | ((with_reducible refine at_load_ (d := 23) ?_); refine wpList_load_v rfl 88 _ rfl g3 rfl (layV f) _ (HO.out.row (i := 1) rfl) Tryz.underlying88 rfl HSL.out ?_)
        | (go_at_call 97; ((with_reducible refine (HSI.out _).mono ?_); rintro e w9 ⟨rfl, hb⟩); replace HO := Lib.hid (HO.out.on hb); clear hb)
        | (go_at_call 95; ((with_reducible refine ((HRG.out _ _ ((HO.out.row (i := 0) rfl).cell 0) HO.out.bl).2.2.2).mono ?_); rintro e w9 ⟨rfl, hb⟩); replace HO := Lib.hid (HO.out.on hb); clear hb)
        | ((with_reducible refine at_load_ (d := 30) ?_); refine wpList_load_c rfl _ _ rfl g2 0 rfl _ ((HO.out.row (i := 0) rfl).cell 0) (fun w => by kernel_rfl) ?_)
        | ((with_reducible refine at_look_ (d := 31) ?_); refine wpList_look_m rfl _ _ rfl b n T rfl (HMP.out.on HO.out.bl) 11 (by decide) rfl ?_; rw [HV.out.2.1])
        | (go_at_call 98; ((with_reducible refine (HUN.out _).mono ?_); rintro e w9 ⟨rfl, rfl⟩))
        | ((with_reducible refine at_load_ (d := 35) ?_); refine wpList_load_cg (by rfl) _ _ rfl g2 0 rfl _ ((HO.out.row (i := 0) rfl).cell 0) (fun w => by kernel_rfl) ?_)
        | ((with_reducible refine at_look_ (d := 36) ?_); refine wpList_look_mg (by rfl) _ _ rfl b n T rfl (HMP.out.on HO.out.bl) 12 (by decide) rfl ?_; rw [HV.out.2.2]))
       go_ret
       exact ⟨by rw [HD.out]; rw [H3.out]; simp, HO.out.bl⟩
      ·
       skip
       go_enter Tryz.func60, Tryz.ntmps60
       go_wp2_with (first
        | ((with_reducible refine at_box_ (d := 2) ?_); refine wpList_box_s (op := ⟨some 2, _, _, _, _, _⟩) rfl _ _ rfl (.map (some b)) rfl rfl ?_; intro g2 v2b hf hr; replace HO := Lib.hid (HO.out.new hf hr); clear hf hr)
        | ((with_reducible refine at_box_ (d := 3) ?_); refine wpList_box_v (op := ⟨some 3, _, _, _, _, _⟩) rfl 88 _ rfl (layV f) rfl ?_; intro g3 v3b hf hr; replace HO := Lib.hid (HO.out.new hf hr); clear hf hr)
        | ((with_reducible refine at_load_ (d := 7) ?_); refine wpList_load_c rfl _ _ rfl g2 0 rfl _ ((HO.out.row (i := 0) rfl).cell 0) (fun w => by kernel_rfl) ?_)
        | ((with_reducible refine at_look_ (d := 8) ?_); refine wpList_look_m rfl _ _ rfl b n T rfl (HMP.out.on HO.out.bl) 4 (by decide) rfl ?_; rw [HV.out.1])
        | (go_at_call 95; ((with_reducible refine ((HRG.out _ _ ((HO.out.row (i := 0) rfl).cell 0) HO.out.bl).1).mono ?_); rintro e w9 ⟨rfl, hb⟩); replace HO := Lib.hid (HO.out.on hb); clear hb)
        | (go_at_call 95; ((with_reducible refine ((HRG.out _ _ ((HO.out.row (i := 0) rfl).cell 0) HO.out.bl).2.1).mono ?_); rintro e w9 ⟨rfl, hb⟩); replace HO := Lib.hid (HO.out.on hb); clear hb)
        | (go_at_call 95; ((with_reducible refine ((HRG.out _ _ ((HO.out.row (i := 0) rfl).cell 0) HO.out.bl).2.2.1).mono ?_); rintro e w9 ⟨rfl, hb⟩); replace HO := Lib.hid (HO.out.on hb); clear hb)
        | ((with_reducible refine at_load_ (d := 23) ?_); refine wpList_load_v rfl 88 _ rfl g3 rfl (layV f) _ (HO.out.row (i := 1) rfl) Tryz.underlying88 rfl HSL.out ?_)
        | (go_at_call 97; ((with_reducible refine (HSI.out _).mono ?_); rintro e w9 ⟨rfl, hb⟩); replace HO := Lib.hid (HO.out.on hb); clear hb)
        | (go_at_call 95; ((with_reducible refine ((HRG.out _ _ ((HO.out.row (i := 0) rfl).cell 0) HO.out.bl).2.2.2).mono ?_); rintro e w9 ⟨rfl, hb⟩); replace HO := Lib.hid (HO.out.on hb); clear hb)
        | ((with_reducible refine at_load_ (d := 30) ?_); refine wpList_load_c rfl _ _ rfl g2 0 rfl _ ((HO.out.row (i := 0) rfl).cell 0) (fun w => by kernel_rfl) ?_)
        | ((with_reducible refine at_look_ (d := 31) ?_); refine wpList_look_m rfl _ _ rfl b n T rfl (HMP.out.on HO.out.bl) 11 (by decide) rfl ?_; rw [HV.out.2.1])
        | (go_at_call 98; ((with_reducible refine (HUN.out _).mono ?_); rintro e w9 ⟨rfl, rfl⟩))
        | ((with_reducible refine at_load_ (d := 35) ?_); refine wpList_load_cg (by rfl) _ _ rfl g2 0 rfl _ ((HO.out.row (i := 0) rfl).cell 0) (fun w => by kernel_rfl) ?_)
        | ((with_reducible refine at_look_ (d := 36) ?_); refine wpList_look_mg (by rfl) _ _ rfl b n T rfl (HMP.out.on HO.out.bl) 12 (by decide) rfl ?_; rw [HV.out.2.2]))
       go_ret
       exact ⟨by rw [HD.out]; rw [H3.out]; simp, HO.out.bl⟩
    ·
     skip
     go_enter Tryz.func60, Tryz.ntmps60
     go_wp2_with (first
      | ((with_reducible refine at_box_ (d := 2) ?_); refine wpList_box_s (op := ⟨some 2, _, _, _, _, _⟩) rfl _ _ rfl (.map (some b)) rfl rfl ?_; intro g2 v2b hf hr; replace HO := Lib.hid (HO.out.new hf hr); clear hf hr)
      | ((with_reducible refine at_box_ (d := 3) ?_); refine wpList_box_v (op := ⟨some 3, _, _, _, _, _⟩) rfl 88 _ rfl (layV f) rfl ?_; intro g3 v3b hf hr; replace HO := Lib.hid (HO.out.new hf hr); clear hf hr)
      | ((with_reducible refine at_load_ (d := 7) ?_); refine wpList_load_c rfl _ _ rfl g2 0 rfl _ ((HO.out.row (i := 0) rfl).cell 0) (fun w => by kernel_rfl) ?_)
      | ((with_reducible refine at_look_ (d := 8) ?_); refine wpList_look_m rfl _ _ rfl b n T rfl (HMP.out.on HO.out.bl) 4 (by decide) rfl ?_; rw [HV.out.1])
      | (go_at_call 95; ((with_reducible refine ((HRG.out _ _ ((HO.out.row (i := 0) rfl).cell 0) HO.out.bl).1).mono ?_); rintro e w9 ⟨rfl, hb⟩); replace HO := Lib.hid (HO.out.on hb); clear hb)
      | (go_at_call 95; ((with_reducible refine ((HRG.out _ _ ((HO.out.row (i := 0) rfl).cell 0) HO.out.bl).2.1).mono ?_); rintro e w9 ⟨rfl, hb⟩); replace HO := Lib.hid (HO.out.on hb); clear hb)
      | (go_at_call 95; ((with_reducible refine ((HRG.out _ _ ((HO.out.row (i := 0) rfl).cell 0) HO.out.bl).2.2.1).mono ?_); rintro e w9 ⟨rfl, hb⟩); replace HO := Lib.hid (HO.out.on hb); clear hb)
      | ((with_reducible refine at_load_ (d := 23) ?_); refine wpList_load_v rfl 88 _ rfl g3 rfl (layV f) _ (HO.out.row (i := 1) rfl) Tryz.underlying88 rfl HSL.out ?_)
      | (go_at_call 97; ((with_reducible refine (HSI.out _).mono ?_); rintro e w9 ⟨rfl, hb⟩); replace HO := Lib.hid (HO.out.on hb); clear hb)
      | (go_at_call 95; ((with_reducible refine ((HRG.out _ _ ((HO.out.row (i := 0) rfl).cell 0) HO.out.bl).2.2.2).mono ?_); rintro e w9 ⟨rfl, hb⟩); replace HO := Lib.hid (HO.out.on hb); clear hb)
      | ((with_reducible refine at_load_ (d := 30) ?_); refine wpList_load_c rfl _ _ rfl g2 0 rfl _ ((HO.out.row (i := 0) rfl).cell 0) (fun w => by kernel_rfl) ?_)
      | ((with_reducible refine at_look_ (d := 31) ?_); refine wpList_look_m rfl _ _ rfl b n T rfl (HMP.out.on HO.out.bl) 11 (by decide) rfl ?_; rw [HV.out.2.1])
      | (go_at_call 98; ((with_reducible refine (HUN.out _).mono ?_); rintro e w9 ⟨rfl, rfl⟩))
      | ((with_reducible refine at_load_ (d := 35) ?_); refine wpList_load_cg (by rfl) _ _ rfl g2 0 rfl _ ((HO.out.row (i := 0) rfl).cell 0) (fun w => by kernel_rfl) ?_)
      | ((with_reducible refine at_look_ (d := 36) ?_); refine wpList_look_mg (by rfl) _ _ rfl b n T rfl (HMP.out.on HO.out.bl) 12 (by decide) rfl ?_; rw [HV.out.2.2]))
     go_ret
     exact ⟨by rw [HD.out]; rw [H3.out]; simp, HO.out.bl⟩
   ·
    have HSI : Hid (∀ w, Calls Tryz.prog 97 #[.agg (layV f).toArray, .int .i64 12] w fun e w' => e = .returned (.int .i64 0) ∧ Below w.heap.size w w') := Lib.hid (fun w => by
     have h12 : f = 1 ∨ f = 2 := by have := HF.out; omega
     rcases h12 with e | e <;> rw [e]
     · exact p_size 1 (by decide) 12 (by decide) w
     · exact p_size 2 (by decide) 12 (by decide) w)
    have H3 : Hid (decide (f ≠ 3) = true) := Lib.hid (by simp [h3])
    clear h3
    go_enter Tryz.func60, Tryz.ntmps60
    go_wp2_with (first
     | ((with_reducible refine at_box_ (d := 2) ?_); refine wpList_box_s (op := ⟨some 2, _, _, _, _, _⟩) rfl _ _ rfl (.map (some b)) rfl rfl ?_; intro g2 v2b hf hr; replace HO := Lib.hid (HO.out.new hf hr); clear hf hr)
     | ((with_reducible refine at_box_ (d := 3) ?_); refine wpList_box_v (op := ⟨some 3, _, _, _, _, _⟩) rfl 88 _ rfl (layV f) rfl ?_; intro g3 v3b hf hr; replace HO := Lib.hid (HO.out.new hf hr); clear hf hr)
     | ((with_reducible refine at_load_ (d := 7) ?_); refine wpList_load_c rfl _ _ rfl g2 0 rfl _ ((HO.out.row (i := 0) rfl).cell 0) (fun w => by kernel_rfl) ?_)
     | ((with_reducible refine at_look_ (d := 8) ?_); refine wpList_look_m rfl _ _ rfl b n T rfl (HMP.out.on HO.out.bl) 4 (by decide) rfl ?_; rw [HV.out.1])
     | (go_at_call 95; ((with_reducible refine ((HRG.out _ _ ((HO.out.row (i := 0) rfl).cell 0) HO.out.bl).1).mono ?_); rintro e w9 ⟨rfl, hb⟩); replace HO := Lib.hid (HO.out.on hb); clear hb)
     | (go_at_call 95; ((with_reducible refine ((HRG.out _ _ ((HO.out.row (i := 0) rfl).cell 0) HO.out.bl).2.1).mono ?_); rintro e w9 ⟨rfl, hb⟩); replace HO := Lib.hid (HO.out.on hb); clear hb)
     | (go_at_call 95; ((with_reducible refine ((HRG.out _ _ ((HO.out.row (i := 0) rfl).cell 0) HO.out.bl).2.2.1).mono ?_); rintro e w9 ⟨rfl, hb⟩); replace HO := Lib.hid (HO.out.on hb); clear hb)
     | ((with_reducible refine at_load_ (d := 23) ?_); refine wpList_load_v rfl 88 _ rfl g3 rfl (layV f) _ (HO.out.row (i := 1) rfl) Tryz.underlying88 rfl HSL.out ?_)
     | (go_at_call 97; ((with_reducible refine (HSI.out _).mono ?_); rintro e w9 ⟨rfl, hb⟩); replace HO := Lib.hid (HO.out.on hb); clear hb)
     | (go_at_call 95; ((with_reducible refine ((HRG.out _ _ ((HO.out.row (i := 0) rfl).cell 0) HO.out.bl).2.2.2).mono ?_); rintro e w9 ⟨rfl, hb⟩); replace HO := Lib.hid (HO.out.on hb); clear hb)
     | ((with_reducible refine at_load_ (d := 30) ?_); refine wpList_load_c rfl _ _ rfl g2 0 rfl _ ((HO.out.row (i := 0) rfl).cell 0) (fun w => by kernel_rfl) ?_)
     | ((with_reducible refine at_look_ (d := 31) ?_); refine wpList_look_m rfl _ _ rfl b n T rfl (HMP.out.on HO.out.bl) 11 (by decide) rfl ?_; rw [HV.out.2.1])
     | (go_at_call 98; ((with_reducible refine (HUN.out _).mono ?_); rintro e w9 ⟨rfl, rfl⟩))
     | ((with_reducible refine at_load_ (d := 35) ?_); refine wpList_load_cg (by rfl) _ _ rfl g2 0 rfl _ ((HO.out.row (i := 0) rfl).cell 0) (fun w => by kernel_rfl) ?_)
     | ((with_reducible refine at_look_ (d := 36) ?_); refine wpList_look_mg (by rfl) _ _ rfl b n T rfl (HMP.out.on HO.out.bl) 12 (by decide) rfl ?_; rw [HV.out.2.2]))
    go_ret
    exact ⟨by rw [HD.out]; rw [H3.out]; simp, HO.out.bl⟩
 ·
  skip
  cases r7
  · skip
    go_enter Tryz.func60, Tryz.ntmps60
    go_wp2_with (first
     | ((with_reducible refine at_box_ (d := 2) ?_); refine wpList_box_s (op := ⟨some 2, _, _, _, _, _⟩) rfl _ _ rfl (.map (some b)) rfl rfl ?_; intro g2 v2b hf hr; replace HO := Lib.hid (HO.out.new hf hr); clear hf hr)
     | ((with_reducible refine at_box_ (d := 3) ?_); refine wpList_box_v (op := ⟨some 3, _, _, _, _, _⟩) rfl 88 _ rfl (layV f) rfl ?_; intro g3 v3b hf hr; replace HO := Lib.hid (HO.out.new hf hr); clear hf hr)
     | ((with_reducible refine at_load_ (d := 7) ?_); refine wpList_load_c rfl _ _ rfl g2 0 rfl _ ((HO.out.row (i := 0) rfl).cell 0) (fun w => by kernel_rfl) ?_)
     | ((with_reducible refine at_look_ (d := 8) ?_); refine wpList_look_m rfl _ _ rfl b n T rfl (HMP.out.on HO.out.bl) 4 (by decide) rfl ?_; rw [HV.out.1])
     | (go_at_call 95; ((with_reducible refine ((HRG.out _ _ ((HO.out.row (i := 0) rfl).cell 0) HO.out.bl).1).mono ?_); rintro e w9 ⟨rfl, hb⟩); replace HO := Lib.hid (HO.out.on hb); clear hb)
     | (go_at_call 95; ((with_reducible refine ((HRG.out _ _ ((HO.out.row (i := 0) rfl).cell 0) HO.out.bl).2.1).mono ?_); rintro e w9 ⟨rfl, hb⟩); replace HO := Lib.hid (HO.out.on hb); clear hb)
     | (go_at_call 95; ((with_reducible refine ((HRG.out _ _ ((HO.out.row (i := 0) rfl).cell 0) HO.out.bl).2.2.1).mono ?_); rintro e w9 ⟨rfl, hb⟩); replace HO := Lib.hid (HO.out.on hb); clear hb))
    go_ret
    exact ⟨by rw [HD.out]; simp, HO.out.bl⟩
  cases r10
  · skip
    go_enter Tryz.func60, Tryz.ntmps60
    go_wp2_with (first
     | ((with_reducible refine at_box_ (d := 2) ?_); refine wpList_box_s (op := ⟨some 2, _, _, _, _, _⟩) rfl _ _ rfl (.map (some b)) rfl rfl ?_; intro g2 v2b hf hr; replace HO := Lib.hid (HO.out.new hf hr); clear hf hr)
     | ((with_reducible refine at_box_ (d := 3) ?_); refine wpList_box_v (op := ⟨some 3, _, _, _, _, _⟩) rfl 88 _ rfl (layV f) rfl ?_; intro g3 v3b hf hr; replace HO := Lib.hid (HO.out.new hf hr); clear hf hr)
     | ((with_reducible refine at_load_ (d := 7) ?_); refine wpList_load_c rfl _ _ rfl g2 0 rfl _ ((HO.out.row (i := 0) rfl).cell 0) (fun w => by kernel_rfl) ?_)
     | ((with_reducible refine at_look_ (d := 8) ?_); refine wpList_look_m rfl _ _ rfl b n T rfl (HMP.out.on HO.out.bl) 4 (by decide) rfl ?_; rw [HV.out.1])
     | (go_at_call 95; ((with_reducible refine ((HRG.out _ _ ((HO.out.row (i := 0) rfl).cell 0) HO.out.bl).1).mono ?_); rintro e w9 ⟨rfl, hb⟩); replace HO := Lib.hid (HO.out.on hb); clear hb)
     | (go_at_call 95; ((with_reducible refine ((HRG.out _ _ ((HO.out.row (i := 0) rfl).cell 0) HO.out.bl).2.1).mono ?_); rintro e w9 ⟨rfl, hb⟩); replace HO := Lib.hid (HO.out.on hb); clear hb)
     | (go_at_call 95; ((with_reducible refine ((HRG.out _ _ ((HO.out.row (i := 0) rfl).cell 0) HO.out.bl).2.2.1).mono ?_); rintro e w9 ⟨rfl, hb⟩); replace HO := Lib.hid (HO.out.on hb); clear hb))
    go_ret
    exact ⟨by rw [HD.out]; simp, HO.out.bl⟩
  by_cases h3 : f = 3
  ·
   have HSI : Hid (∀ w, Calls Tryz.prog 97 #[.agg (layV f).toArray, .int .i64 12] w fun e w' => e = .returned (.int .i64 1) ∧ Below w.heap.size w w') := Lib.hid (fun w => by rw [h3]; exact p_size 3 (by decide) 12 (by decide) w)
   have H3 : Hid (decide (f ≠ 3) = false) := Lib.hid (by simp [h3])
   clear h3
   cases r12
   ·
    cases bt
    ·
     skip
     go_enter Tryz.func60, Tryz.ntmps60
     go_wp2_with (first
      | ((with_reducible refine at_box_ (d := 2) ?_); refine wpList_box_s (op := ⟨some 2, _, _, _, _, _⟩) rfl _ _ rfl (.map (some b)) rfl rfl ?_; intro g2 v2b hf hr; replace HO := Lib.hid (HO.out.new hf hr); clear hf hr)
      | ((with_reducible refine at_box_ (d := 3) ?_); refine wpList_box_v (op := ⟨some 3, _, _, _, _, _⟩) rfl 88 _ rfl (layV f) rfl ?_; intro g3 v3b hf hr; replace HO := Lib.hid (HO.out.new hf hr); clear hf hr)
      | ((with_reducible refine at_load_ (d := 7) ?_); refine wpList_load_c rfl _ _ rfl g2 0 rfl _ ((HO.out.row (i := 0) rfl).cell 0) (fun w => by kernel_rfl) ?_)
      | ((with_reducible refine at_look_ (d := 8) ?_); refine wpList_look_m rfl _ _ rfl b n T rfl (HMP.out.on HO.out.bl) 4 (by decide) rfl ?_; rw [HV.out.1])
      | (go_at_call 95; ((with_reducible refine ((HRG.out _ _ ((HO.out.row (i := 0) rfl).cell 0) HO.out.bl).1).mono ?_); rintro e w9 ⟨rfl, hb⟩); replace HO := Lib.hid (HO.out.on hb); clear hb)
      | (go_at_call 95; ((with_reducible refine ((HRG.out _ _ ((HO.out.row (i := 0) rfl).cell 0) HO.out.bl).2.1).mono ?_); rintro e w9 ⟨rfl, hb⟩); replace HO := Lib.hid (HO.out.on hb); clear hb)
      | (go_at_call 95; ((with_reducible refine ((HRG.out _ _ ((HO.out.row (i := 0) rfl).cell 0) HO.out.bl).2.2.1).mono ?_); rintro e w9 ⟨rfl, hb⟩); replace HO := Lib.hid (HO.out.on hb); clear hb)
      | ((with_reducible refine at_load_ (d := 23) ?_); refine wpList_load_v rfl 88 _ rfl g3 rfl (layV f) _ (HO.out.row (i := 1) rfl) Tryz.underlying88 rfl HSL.out ?_)
      | (go_at_call 97; ((with_reducible refine (HSI.out _).mono ?_); rintro e w9 ⟨rfl, hb⟩); replace HO := Lib.hid (HO.out.on hb); clear hb)
      | (go_at_call 95; ((with_reducible refine ((HRG.out _ _ ((HO.out.row (i := 0) rfl).cell 0) HO.out.bl).2.2.2).mono ?_); rintro e w9 ⟨rfl, hb⟩); replace HO := Lib.hid (HO.out.on hb); clear hb)
      | ((with_reducible refine at_load_ (d := 30) ?_); refine wpList_load_c rfl _ _ rfl g2 0 rfl _ ((HO.out.row (i := 0) rfl).cell 0) (fun w => by kernel_rfl) ?_)
      | ((with_reducible refine at_look_ (d := 31) ?_); refine wpList_look_m rfl _ _ rfl b n T rfl (HMP.out.on HO.out.bl) 11 (by decide) rfl ?_; rw [HV.out.2.1])
      | (go_at_call 98; ((with_reducible refine (HUN.out _).mono ?_); rintro e w9 ⟨rfl, rfl⟩))
      | ((with_reducible refine at_load_ (d := 35) ?_); refine wpList_load_cg (by rfl) _ _ rfl g2 0 rfl _ ((HO.out.row (i := 0) rfl).cell 0) (fun w => by kernel_rfl) ?_)
      | ((with_reducible refine at_look_ (d := 36) ?_); refine wpList_look_mg (by rfl) _ _ rfl b n T rfl (HMP.out.on HO.out.bl) 12 (by decide) rfl ?_; rw [HV.out.2.2]))
     go_ret
     exact ⟨by rw [HD.out]; rw [H3.out]; simp, HO.out.bl⟩
    ·
     cases b12
     ·
      skip
      go_enter Tryz.func60, Tryz.ntmps60
      go_wp2_with (first
       | ((with_reducible refine at_box_ (d := 2) ?_); refine wpList_box_s (op := ⟨some 2, _, _, _, _, _⟩) rfl _ _ rfl (.map (some b)) rfl rfl ?_; intro g2 v2b hf hr; replace HO := Lib.hid (HO.out.new hf hr); clear hf hr)
       | ((with_reducible refine at_box_ (d := 3) ?_); refine wpList_box_v (op := ⟨some 3, _, _, _, _, _⟩) rfl 88 _ rfl (layV f) rfl ?_; intro g3 v3b hf hr; replace HO := Lib.hid (HO.out.new hf hr); clear hf hr)
       | ((with_reducible refine at_load_ (d := 7) ?_); refine wpList_load_c rfl _ _ rfl g2 0 rfl _ ((HO.out.row (i := 0) rfl).cell 0) (fun w => by kernel_rfl) ?_)
       | ((with_reducible refine at_look_ (d := 8) ?_); refine wpList_look_m rfl _ _ rfl b n T rfl (HMP.out.on HO.out.bl) 4 (by decide) rfl ?_; rw [HV.out.1])
       | (go_at_call 95; ((with_reducible refine ((HRG.out _ _ ((HO.out.row (i := 0) rfl).cell 0) HO.out.bl).1).mono ?_); rintro e w9 ⟨rfl, hb⟩); replace HO := Lib.hid (HO.out.on hb); clear hb)
       | (go_at_call 95; ((with_reducible refine ((HRG.out _ _ ((HO.out.row (i := 0) rfl).cell 0) HO.out.bl).2.1).mono ?_); rintro e w9 ⟨rfl, hb⟩); replace HO := Lib.hid (HO.out.on hb); clear hb)
       | (go_at_call 95; ((with_reducible refine ((HRG.out _ _ ((HO.out.row (i := 0) rfl).cell 0) HO.out.bl).2.2.1).mono ?_); rintro e w9 ⟨rfl, hb⟩); replace HO := Lib.hid (HO.out.on hb); clear hb)
       | ((with_reducible refine at_load_ (d := 23) ?_); refine wpList_load_v rfl 88 _ rfl g3 rfl (layV f) _ (HO.out.row (i := 1) rfl) Tryz.underlying88 rfl HSL.out ?_)
       | (go_at_call 97; ((with_reducible refine (HSI.out _).mono ?_); rintro e w9 ⟨rfl, hb⟩); replace HO := Lib.hid (HO.out.on hb); clear hb)
       | (go_at_call 95; ((with_reducible refine ((HRG.out _ _ ((HO.out.row (i := 0) rfl).cell 0) HO.out.bl).2.2.2).mono ?_); rintro e w9 ⟨rfl, hb⟩); replace HO := Lib.hid (HO.out.on hb); clear hb)
       | ((with_reducible refine at_load_ (d := 30) ?_); refine wpList_load_c rfl _ _ rfl g2 0 rfl _ ((HO.out.row (i := 0) rfl).cell 0) (fun w => by kernel_rfl) ?_)
       | ((with_reducible refine at_look_ (d := 31) ?_); refine wpList_look_m rfl _ _ rfl b n T rfl (HMP.out.on HO.out.bl) 11 (by decide) rfl ?_; rw [HV.out.2.1])
       | (go_at_call 98; ((with_reducible refine (HUN.out _).mono ?_); rintro e w9 ⟨rfl, rfl⟩))
       | ((with_reducible refine at_load_ (d := 35) ?_); refine wpList_load_cg (by rfl) _ _ rfl g2 0 rfl _ ((HO.out.row (i := 0) rfl).cell 0) (fun w => by kernel_rfl) ?_)
       | ((with_reducible refine at_look_ (d := 36) ?_); refine wpList_look_mg (by rfl) _ _ rfl b n T rfl (HMP.out.on HO.out.bl) 12 (by decide) rfl ?_; rw [HV.out.2.2]))
      go_ret
      exact ⟨by rw [HD.out]; rw [H3.out]; simp, HO.out.bl⟩
     ·
      skip
      go_enter Tryz.func60, Tryz.ntmps60
      go_wp2_with (first
       | ((with_reducible refine at_box_ (d := 2) ?_); refine wpList_box_s (op := ⟨some 2, _, _, _, _, _⟩) rfl _ _ rfl (.map (some b)) rfl rfl ?_; intro g2 v2b hf hr; replace HO := Lib.hid (HO.out.new hf hr); clear hf hr)
       | ((with_reducible refine at_box_ (d := 3) ?_); refine wpList_box_v (op := ⟨some 3, _, _, _, _, _⟩) rfl 88 _ rfl (layV f) rfl ?_; intro g3 v3b hf hr; replace HO := Lib.hid (HO.out.new hf hr); clear hf hr)
       | ((with_reducible refine at_load_ (d := 7) ?_); refine wpList_load_c rfl _ _ rfl g2 0 rfl _ ((HO.out.row (i := 0) rfl).cell 0) (fun w => by kernel_rfl) ?_)
       | ((with_reducible refine at_look_ (d := 8) ?_); refine wpList_look_m rfl _ _ rfl b n T rfl (HMP.out.on HO.out.bl) 4 (by decide) rfl ?_; rw [HV.out.1])
       | (go_at_call 95; ((with_reducible refine ((HRG.out _ _ ((HO.out.row (i := 0) rfl).cell 0) HO.out.bl).1).mono ?_); rintro e w9 ⟨rfl, hb⟩); replace HO := Lib.hid (HO.out.on hb); clear hb)
       | (go_at_call 95; ((with_reducible refine ((HRG.out _ _ ((HO.out.row (i := 0) rfl).cell 0) HO.out.bl).2.1).mono ?_); rintro e w9 ⟨rfl, hb⟩); replace HO := Lib.hid (HO.out.on hb); clear hb)
       | (go_at_call 95; ((with_reducible refine ((HRG.out _ _ ((HO.out.row (i := 0) rfl).cell 0) HO.out.bl).2.2.1).mono ?_); rintro e w9 ⟨rfl, hb⟩); replace HO := Lib.hid (HO.out.on hb); clear hb)
       | ((with_reducible refine at_load_ (d := 23) ?_); refine wpList_load_v rfl 88 _ rfl g3 rfl (layV f) _ (HO.out.row (i := 1) rfl) Tryz.underlying88 rfl HSL.out ?_)
       | (go_at_call 97; ((with_reducible refine (HSI.out _).mono ?_); rintro e w9 ⟨rfl, hb⟩); replace HO := Lib.hid (HO.out.on hb); clear hb)
       | (go_at_call 95; ((with_reducible refine ((HRG.out _ _ ((HO.out.row (i := 0) rfl).cell 0) HO.out.bl).2.2.2).mono ?_); rintro e w9 ⟨rfl, hb⟩); replace HO := Lib.hid (HO.out.on hb); clear hb)
       | ((with_reducible refine at_load_ (d := 30) ?_); refine wpList_load_c rfl _ _ rfl g2 0 rfl _ ((HO.out.row (i := 0) rfl).cell 0) (fun w => by kernel_rfl) ?_)
       | ((with_reducible refine at_look_ (d := 31) ?_); refine wpList_look_m rfl _ _ rfl b n T rfl (HMP.out.on HO.out.bl) 11 (by decide) rfl ?_; rw [HV.out.2.1])
       | (go_at_call 98; ((with_reducible refine (HUN.out _).mono ?_); rintro e w9 ⟨rfl, rfl⟩))
       | ((with_reducible refine at_load_ (d := 35) ?_); refine wpList_load_cg (by rfl) _ _ rfl g2 0 rfl _ ((HO.out.row (i := 0) rfl).cell 0) (fun w => by kernel_rfl) ?_)
       | ((with_reducible refine at_look_ (d := 36) ?_); refine wpList_look_mg (by rfl) _ _ rfl b n T rfl (HMP.out.on HO.out.bl) 12 (by decide) rfl ?_; rw [HV.out.2.2]))
      go_ret
      exact ⟨by rw [HD.out]; rw [H3.out]; simp, HO.out.bl⟩
   ·
    skip
    go_enter Tryz.func60, Tryz.ntmps60
    go_wp2_with (first
     | ((with_reducible refine at_box_ (d := 2) ?_); refine wpList_box_s (op := ⟨some 2, _, _, _, _, _⟩) rfl _ _ rfl (.map (some b)) rfl rfl ?_; intro g2 v2b hf hr; replace HO := Lib.hid (HO.out.new hf hr); clear hf hr)
     | ((with_reducible refine at_box_ (d := 3) ?_); refine wpList_box_v (op := ⟨some 3, _, _, _, _, _⟩) rfl 88 _ rfl (layV f) rfl ?_; intro g3 v3b hf hr; replace HO := Lib.hid (HO.out.new hf hr); clear hf hr)
     | ((with_reducible refine at_load_ (d := 7) ?_); refine wpList_load_c rfl _ _ rfl g2 0 rfl _ ((HO.out.row (i := 0) rfl).cell 0) (fun w => by kernel_rfl) ?_)
     | ((with_reducible refine at_look_ (d := 8) ?_); refine wpList_look_m rfl _ _ rfl b n T rfl (HMP.out.on HO.out.bl) 4 (by decide) rfl ?_; rw [HV.out.1])
     | (go_at_call 95; ((with_reducible refine ((HRG.out _ _ ((HO.out.row (i := 0) rfl).cell 0) HO.out.bl).1).mono ?_); rintro e w9 ⟨rfl, hb⟩); replace HO := Lib.hid (HO.out.on hb); clear hb)
     | (go_at_call 95; ((with_reducible refine ((HRG.out _ _ ((HO.out.row (i := 0) rfl).cell 0) HO.out.bl).2.1).mono ?_); rintro e w9 ⟨rfl, hb⟩); replace HO := Lib.hid (HO.out.on hb); clear hb)
     | (go_at_call 95; ((with_reducible refine ((HRG.out _ _ ((HO.out.row (i := 0) rfl).cell 0) HO.out.bl).2.2.1).mono ?_); rintro e w9 ⟨rfl, hb⟩); replace HO := Lib.hid (HO.out.on hb); clear hb)
     | ((with_reducible refine at_load_ (d := 23) ?_); refine wpList_load_v rfl 88 _ rfl g3 rfl (layV f) _ (HO.out.row (i := 1) rfl) Tryz.underlying88 rfl HSL.out ?_)
     | (go_at_call 97; ((with_reducible refine (HSI.out _).mono ?_); rintro e w9 ⟨rfl, hb⟩); replace HO := Lib.hid (HO.out.on hb); clear hb)
     | (go_at_call 95; ((with_reducible refine ((HRG.out _ _ ((HO.out.row (i := 0) rfl).cell 0) HO.out.bl).2.2.2).mono ?_); rintro e w9 ⟨rfl, hb⟩); replace HO := Lib.hid (HO.out.on hb); clear hb)
     | ((with_reducible refine at_load_ (d := 30) ?_); refine wpList_load_c rfl _ _ rfl g2 0 rfl _ ((HO.out.row (i := 0) rfl).cell 0) (fun w => by kernel_rfl) ?_)
     | ((with_reducible refine at_look_ (d := 31) ?_); refine wpList_look_m rfl _ _ rfl b n T rfl (HMP.out.on HO.out.bl) 11 (by decide) rfl ?_; rw [HV.out.2.1])
     | (go_at_call 98; ((with_reducible refine (HUN.out _).mono ?_); rintro e w9 ⟨rfl, rfl⟩))
     | ((with_reducible refine at_load_ (d := 35) ?_); refine wpList_load_cg (by rfl) _ _ rfl g2 0 rfl _ ((HO.out.row (i := 0) rfl).cell 0) (fun w => by kernel_rfl) ?_)
     | ((with_reducible refine at_look_ (d := 36) ?_); refine wpList_look_mg (by rfl) _ _ rfl b n T rfl (HMP.out.on HO.out.bl) 12 (by decide) rfl ?_; rw [HV.out.2.2]))
    go_ret
    exact ⟨by rw [HD.out]; rw [H3.out]; simp, HO.out.bl⟩
  ·
   have HSI : Hid (∀ w, Calls Tryz.prog 97 #[.agg (layV f).toArray, .int .i64 12] w fun e w' => e = .returned (.int .i64 0) ∧ Below w.heap.size w w') := Lib.hid (fun w => by
    have h12 : f = 1 ∨ f = 2 := by have := HF.out; omega
    rcases h12 with e | e <;> rw [e]
    · exact p_size 1 (by decide) 12 (by decide) w
    · exact p_size 2 (by decide) 12 (by decide) w)
   have H3 : Hid (decide (f ≠ 3) = true) := Lib.hid (by simp [h3])
   clear h3
   go_enter Tryz.func60, Tryz.ntmps60
   go_wp2_with (first
    | ((with_reducible refine at_box_ (d := 2) ?_); refine wpList_box_s (op := ⟨some 2, _, _, _, _, _⟩) rfl _ _ rfl (.map (some b)) rfl rfl ?_; intro g2 v2b hf hr; replace HO := Lib.hid (HO.out.new hf hr); clear hf hr)
    | ((with_reducible refine at_box_ (d := 3) ?_); refine wpList_box_v (op := ⟨some 3, _, _, _, _, _⟩) rfl 88 _ rfl (layV f) rfl ?_; intro g3 v3b hf hr; replace HO := Lib.hid (HO.out.new hf hr); clear hf hr)
    | ((with_reducible refine at_load_ (d := 7) ?_); refine wpList_load_c rfl _ _ rfl g2 0 rfl _ ((HO.out.row (i := 0) rfl).cell 0) (fun w => by kernel_rfl) ?_)
    | ((with_reducible refine at_look_ (d := 8) ?_); refine wpList_look_m rfl _ _ rfl b n T rfl (HMP.out.on HO.out.bl) 4 (by decide) rfl ?_; rw [HV.out.1])
    | (go_at_call 95; ((with_reducible refine ((HRG.out _ _ ((HO.out.row (i := 0) rfl).cell 0) HO.out.bl).1).mono ?_); rintro e w9 ⟨rfl, hb⟩); replace HO := Lib.hid (HO.out.on hb); clear hb)
    | (go_at_call 95; ((with_reducible refine ((HRG.out _ _ ((HO.out.row (i := 0) rfl).cell 0) HO.out.bl).2.1).mono ?_); rintro e w9 ⟨rfl, hb⟩); replace HO := Lib.hid (HO.out.on hb); clear hb)
    | (go_at_call 95; ((with_reducible refine ((HRG.out _ _ ((HO.out.row (i := 0) rfl).cell 0) HO.out.bl).2.2.1).mono ?_); rintro e w9 ⟨rfl, hb⟩); replace HO := Lib.hid (HO.out.on hb); clear hb)
    | ((with_reducible refine at_load_ (d := 23) ?_); refine wpList_load_v rfl 88 _ rfl g3 rfl (layV f) _ (HO.out.row (i := 1) rfl) Tryz.underlying88 rfl HSL.out ?_)
    | (go_at_call 97; ((with_reducible refine (HSI.out _).mono ?_); rintro e w9 ⟨rfl, hb⟩); replace HO := Lib.hid (HO.out.on hb); clear hb)
    | (go_at_call 95; ((with_reducible refine ((HRG.out _ _ ((HO.out.row (i := 0) rfl).cell 0) HO.out.bl).2.2.2).mono ?_); rintro e w9 ⟨rfl, hb⟩); replace HO := Lib.hid (HO.out.on hb); clear hb)
    | ((with_reducible refine at_load_ (d := 30) ?_); refine wpList_load_c rfl _ _ rfl g2 0 rfl _ ((HO.out.row (i := 0) rfl).cell 0) (fun w => by kernel_rfl) ?_)
    | ((with_reducible refine at_look_ (d := 31) ?_); refine wpList_look_m rfl _ _ rfl b n T rfl (HMP.out.on HO.out.bl) 11 (by decide) rfl ?_; rw [HV.out.2.1])
    | (go_at_call 98; ((with_reducible refine (HUN.out _).mono ?_); rintro e w9 ⟨rfl, rfl⟩))
    | ((with_reducible refine at_load_ (d := 35) ?_); refine wpList_load_cg (by rfl) _ _ rfl g2 0 rfl _ ((HO.out.row (i := 0) rfl).cell 0) (fun w => by kernel_rfl) ?_)
    | ((with_reducible refine at_look_ (d := 36) ?_); refine wpList_look_mg (by rfl) _ _ rfl b n T rfl (HMP.out.on HO.out.bl) 12 (by decide) rfl ?_; rw [HV.out.2.2]))
   go_ret
   exact ⟨by rw [HD.out]; rw [H3.out]; simp, HO.out.bl⟩
end Go.Proofs.YtibahbkjjfmbgaaGreatDoor
