/-
  What is proved here: the layouts of the three formats as the program makes them, and the size of a field.
-/
import Derived.Test.YtibahbkjjfmbgaaGreatDoorUA1
import Derived.Test.YtibahbkjjfmbgaaGreatDoorUA5
namespace Go.Proofs.YtibahbkjjfmbgaaGreatDoor
open Go.RowKit
set_option linter.unusedVariables false
def layI (a mx f : Int) : List Int := [a, (cntN f : Nat), (widN f : Nat), mx] ++ (plcs f).flatMap (fun p => [((p.1 : Nat) : Int), ((p.2.1 : Nat) : Int), ((p.2.2 : Nat) : Int)]) ++ (cmps f).flatMap (fun p => [((p.1 : Nat) : Int), ((p.2.1 : Nat) : Int), ((p.2.2 : Nat) : Int)])
def layR (a mx f : Int) : List Value := (layI a mx f).map (Value.int .i64)
def layV (f : Int) : List Value := layR f (maxN f : Nat) f
def lay0 : List Value := List.replicate 61 (.int .i64 0)
theorem info_l : (Tryz.prog.info? 88).map (·.zero) = some (some (.agg lay0.toArray)) := by kernel_rfl
theorem size_l : (Tryz.prog.info? 88).map (·.size) = some 61 := by kernel_rfl
theorem layR_one (a mx f : Int) : ∀ u ∈ layR a mx f, u.oneCell' = true := by
 intro u hu
 obtain ⟨z, _, rfl⟩ := List.mem_map.1 hu
 rfl
theorem lay0_one : ∀ u ∈ lay0, u.oneCell' = true := by
 intro u hu
 have := (List.mem_replicate.1 hu).2
 rw [this]; rfl
theorem size_i : (Tryz.prog.info? 3).map (·.size) = some 1 := by kernel_rfl
def plc0 : List Value := [.int .i64 0, .int .i64 0, .int .i64 0]
theorem info_p : (Tryz.prog.info? 84).map (·.zero) = some (some (.agg plc0.toArray)) := by kernel_rfl
theorem size_p : (Tryz.prog.info? 84).map (·.size) = some 3 := by kernel_rfl
set_option maxHeartbeats 800000 in
set_option maxRecDepth 20000 in
theorem two_lines3 (w : World) : Calls Tryz.prog 127 #[.int .i64 44, .int .i64 42] w fun e w' => e = .returned (.agg (layR 0 0 3).toArray) ∧ Below w.heap.size w w' := by
 have HO := Lib.hid (Own.start w)
 go_enter Tryz.func127, Tryz.ntmps127
 go_wp2_with (first
  | ((with_reducible refine at_alloc_ (d := 4) ?_); refine wpList_alloc_v (op := ⟨some 4, _, _, _, _, _⟩) rfl 88 rfl lay0 info_l ?_; intro g v4a hf hr; replace HO := Lib.hid (HO.out.new hf hr); clear hf hr)
  | ((with_reducible refine at_store_ (i := 4) ?_); refine wpList_store_v rfl 88 (.tmp 4) (.tmp 35) rfl g (lay0) (layR 0 0 3) rfl rfl (HO.out.row (i := 0) rfl) rfl (layR_one _ _ _) size_l ?_; intro v4s35 hw hr; replace HO := Lib.hid (HO.out.set (i := 0) rfl hw hr); clear hw hr))
 exact bodyPost_ret (results_v rfl _ _ g (layR 0 0 3) _ rfl (HO.out.row (i := 0) rfl) Tryz.underlying88 rfl size_l) rfl ⟨rfl, HO.out.bl⟩
set_option maxHeartbeats 800000 in
set_option maxRecDepth 20000 in
theorem two_lines2 (w : World) : Calls Tryz.prog 127 #[.int .i64 36, .int .i64 35] w fun e w' => e = .returned (.agg (layR 0 0 2).toArray) ∧ Below w.heap.size w w' := by
 have HO := Lib.hid (Own.start w)
 go_enter Tryz.func127, Tryz.ntmps127
 go_wp2_with (first
  | ((with_reducible refine at_alloc_ (d := 4) ?_); refine wpList_alloc_v (op := ⟨some 4, _, _, _, _, _⟩) rfl 88 rfl lay0 info_l ?_; intro g v4a hf hr; replace HO := Lib.hid (HO.out.new hf hr); clear hf hr)
  | ((with_reducible refine at_store_ (i := 4) ?_); refine wpList_store_v rfl 88 (.tmp 4) (.tmp 35) rfl g (lay0) (layR 0 0 2) rfl rfl (HO.out.row (i := 0) rfl) rfl (layR_one _ _ _) size_l ?_; intro v4s35 hw hr; replace HO := Lib.hid (HO.out.set (i := 0) rfl hw hr); clear hw hr))
 exact bodyPost_ret (results_v rfl _ _ g (layR 0 0 2) _ rfl (HO.out.row (i := 0) rfl) Tryz.underlying88 rfl size_l) rfl ⟨rfl, HO.out.bl⟩
set_option maxHeartbeats 800000 in
set_option maxRecDepth 20000 in
theorem three_lines (w : World) : Calls Tryz.prog 128 #[] w fun e w' => e = .returned (.agg (layR 0 0 1).toArray) ∧ Below w.heap.size w w' := by
 have HO := Lib.hid (Own.start w)
 go_enter Tryz.func128, Tryz.ntmps128
 go_wp2_with (first
  | ((with_reducible refine at_alloc_ (d := 0) ?_); refine wpList_alloc_v (op := ⟨some 0, _, _, _, _, _⟩) rfl 88 rfl lay0 info_l ?_; intro g v0a hf hr; replace HO := Lib.hid (HO.out.new hf hr); clear hf hr)
  | ((with_reducible refine at_store_ (i := 0) ?_); refine wpList_store_v rfl 88 (.tmp 0) (.tmp 21) rfl g (lay0) (layR 0 0 1) rfl rfl (HO.out.row (i := 0) rfl) rfl (layR_one _ _ _) size_l ?_; intro v0s21 hw hr; replace HO := Lib.hid (HO.out.set (i := 0) rfl hw hr); clear hw hr))
 exact bodyPost_ret (results_v rfl _ _ g (layR 0 0 1) _ rfl (HO.out.row (i := 0) rfl) Tryz.underlying88 rfl size_l) rfl ⟨rfl, HO.out.bl⟩
set_option maxHeartbeats 800000 in
set_option maxRecDepth 20000 in
theorem layout_of3 (w : World) : Calls Tryz.prog 92 #[.int .i64 3] w fun e w' => e = .returned (.tuple #[.agg (layV 3).toArray, .bool true]) ∧ Below w.heap.size w w' := by
 have HO := Lib.hid (Own.start w)
 go_enter Tryz.func92, Tryz.ntmps92
 go_wp2_with (first
  | ((with_reducible refine at_alloc_ (d := 2) ?_); refine wpList_alloc_v (op := ⟨some 2, _, _, _, _, _⟩) rfl 88 rfl lay0 info_l ?_; intro g2 v2a hf hr; replace HO := Lib.hid (HO.out.new hf hr); clear hf hr)
  | ((with_reducible refine at_alloc_ (d := 4) ?_); refine wpList_alloc_v (op := ⟨some 4, _, _, _, _, _⟩) rfl 88 rfl lay0 info_l ?_; intro g4 v4a hf hr; replace HO := Lib.hid (HO.out.new hf hr); clear hf hr)
  | ((with_reducible refine at_store_ (i := 4) ?_); refine wpList_store_v rfl 88 (.tmp 4) (.tmp 5) rfl g4 (lay0) (lay0) rfl rfl (HO.out.row (i := 1) rfl) rfl (lay0_one) size_l ?_; intro v4s5 hw hr; replace HO := Lib.hid (HO.out.set (i := 1) rfl hw hr); clear hw hr)
  | (go_at_call 127; ((with_reducible refine (two_lines3 _).mono ?_); rintro e c1 ⟨rfl, hb⟩); replace HO := Lib.hid (HO.out.on hb); clear hb)
  | ((with_reducible refine at_store_ (i := 4) ?_); refine wpList_store_v rfl 88 (.tmp 4) (.tmp 10) rfl g4 (lay0) (layR 0 0 3) rfl rfl (HO.out.row (i := 1) rfl) rfl (layR_one _ _ _) size_l ?_; intro v4s10 hw hr; replace HO := Lib.hid (HO.out.set (i := 1) rfl hw hr); clear hw hr)
  | ((with_reducible refine at_store_ (i := 11) ?_); refine wpList_store_at rfl _ (.tmp 11) _ rfl g4 3 (layR 0 0 3) (.int .i64 9) rfl rfl (HO.out.row (i := 1) rfl) (by decide) rfl rfl size_i ?_; intro v11c hw hr; replace HO := Lib.hid (HO.out.set (i := 1) rfl hw hr); clear hw hr)
  | ((with_reducible refine at_store_ (i := 21) ?_); refine wpList_store_at rfl _ (.tmp 21) _ rfl g4 0 ((layR 0 0 3).set 3 (.int .i64 9)) (.int .i64 3) rfl rfl (HO.out.row (i := 1) rfl) (by decide) rfl rfl size_i ?_; intro v21c hw hr; replace HO := Lib.hid (HO.out.set (i := 1) rfl hw hr); clear hw hr)
  | ((with_reducible refine at_load_ (d := 22) ?_); refine wpList_load_v (op := ⟨some 22, _, _, _, _, _⟩) rfl 88 _ rfl g4 rfl (((layR 0 0 3).set 3 (.int .i64 9)).set 0 (.int .i64 3)) _ (HO.out.row (i := 1) rfl) Tryz.underlying88 rfl size_l ?_)
  | ((with_reducible refine at_store_ (i := 2) ?_); refine wpList_store_v rfl 88 (.tmp 2) (.tmp 22) rfl g2 (lay0) (layV 3) rfl rfl (HO.out.row (i := 0) rfl) rfl (layR_one _ _ _) size_l ?_; intro v2s22 hw hr; replace HO := Lib.hid (HO.out.set (i := 0) rfl hw hr); clear hw hr))
 exact bodyPost_ret (results_v1 rfl _ _ g2 (layV 3) _ rfl (HO.out.row (i := 0) rfl) Tryz.underlying88 rfl size_l) rfl ⟨rfl, HO.out.bl⟩
set_option maxHeartbeats 800000 in
set_option maxRecDepth 20000 in
theorem layout_of2 (w : World) : Calls Tryz.prog 92 #[.int .i64 2] w fun e w' => e = .returned (.tuple #[.agg (layV 2).toArray, .bool true]) ∧ Below w.heap.size w w' := by
 have HO := Lib.hid (Own.start w)
 go_enter Tryz.func92, Tryz.ntmps92
 go_wp2_with (first
  | ((with_reducible refine at_alloc_ (d := 2) ?_); refine wpList_alloc_v (op := ⟨some 2, _, _, _, _, _⟩) rfl 88 rfl lay0 info_l ?_; intro g2 v2a hf hr; replace HO := Lib.hid (HO.out.new hf hr); clear hf hr)
  | ((with_reducible refine at_alloc_ (d := 4) ?_); refine wpList_alloc_v (op := ⟨some 4, _, _, _, _, _⟩) rfl 88 rfl lay0 info_l ?_; intro g4 v4a hf hr; replace HO := Lib.hid (HO.out.new hf hr); clear hf hr)
  | ((with_reducible refine at_store_ (i := 4) ?_); refine wpList_store_v rfl 88 (.tmp 4) (.tmp 5) rfl g4 (lay0) (lay0) rfl rfl (HO.out.row (i := 1) rfl) rfl (lay0_one) size_l ?_; intro v4s5 hw hr; replace HO := Lib.hid (HO.out.set (i := 1) rfl hw hr); clear hw hr)
  | (go_at_call 127; ((with_reducible refine (two_lines2 _).mono ?_); rintro e c2 ⟨rfl, hb⟩); replace HO := Lib.hid (HO.out.on hb); clear hb)
  | ((with_reducible refine at_store_ (i := 4) ?_); refine wpList_store_v rfl 88 (.tmp 4) (.tmp 14) rfl g4 (lay0) (layR 0 0 2) rfl rfl (HO.out.row (i := 1) rfl) rfl (layR_one _ _ _) size_l ?_; intro v4s14 hw hr; replace HO := Lib.hid (HO.out.set (i := 1) rfl hw hr); clear hw hr)
  | ((with_reducible refine at_store_ (i := 15) ?_); refine wpList_store_at rfl _ (.tmp 15) _ rfl g4 3 (layR 0 0 2) (.int .i64 14) rfl rfl (HO.out.row (i := 1) rfl) (by decide) rfl rfl size_i ?_; intro v15c hw hr; replace HO := Lib.hid (HO.out.set (i := 1) rfl hw hr); clear hw hr)
  | ((with_reducible refine at_store_ (i := 21) ?_); refine wpList_store_at rfl _ (.tmp 21) _ rfl g4 0 ((layR 0 0 2).set 3 (.int .i64 14)) (.int .i64 2) rfl rfl (HO.out.row (i := 1) rfl) (by decide) rfl rfl size_i ?_; intro v21c hw hr; replace HO := Lib.hid (HO.out.set (i := 1) rfl hw hr); clear hw hr)
  | ((with_reducible refine at_load_ (d := 22) ?_); refine wpList_load_v (op := ⟨some 22, _, _, _, _, _⟩) rfl 88 _ rfl g4 rfl (((layR 0 0 2).set 3 (.int .i64 14)).set 0 (.int .i64 2)) _ (HO.out.row (i := 1) rfl) Tryz.underlying88 rfl size_l ?_)
  | ((with_reducible refine at_store_ (i := 2) ?_); refine wpList_store_v rfl 88 (.tmp 2) (.tmp 22) rfl g2 (lay0) (layV 2) rfl rfl (HO.out.row (i := 0) rfl) rfl (layR_one _ _ _) size_l ?_; intro v2s22 hw hr; replace HO := Lib.hid (HO.out.set (i := 0) rfl hw hr); clear hw hr))
 exact bodyPost_ret (results_v1 rfl _ _ g2 (layV 2) _ rfl (HO.out.row (i := 0) rfl) Tryz.underlying88 rfl size_l) rfl ⟨rfl, HO.out.bl⟩
set_option maxHeartbeats 800000 in
set_option maxRecDepth 20000 in
theorem layout_of1 (w : World) : Calls Tryz.prog 92 #[.int .i64 1] w fun e w' => e = .returned (.tuple #[.agg (layV 1).toArray, .bool true]) ∧ Below w.heap.size w w' := by
 have HO := Lib.hid (Own.start w)
 go_enter Tryz.func92, Tryz.ntmps92
 go_wp2_with (first
  | ((with_reducible refine at_alloc_ (d := 2) ?_); refine wpList_alloc_v (op := ⟨some 2, _, _, _, _, _⟩) rfl 88 rfl lay0 info_l ?_; intro g2 v2a hf hr; replace HO := Lib.hid (HO.out.new hf hr); clear hf hr)
  | ((with_reducible refine at_alloc_ (d := 4) ?_); refine wpList_alloc_v (op := ⟨some 4, _, _, _, _, _⟩) rfl 88 rfl lay0 info_l ?_; intro g4 v4a hf hr; replace HO := Lib.hid (HO.out.new hf hr); clear hf hr)
  | ((with_reducible refine at_store_ (i := 4) ?_); refine wpList_store_v rfl 88 (.tmp 4) (.tmp 5) rfl g4 (lay0) (lay0) rfl rfl (HO.out.row (i := 1) rfl) rfl (lay0_one) size_l ?_; intro v4s5 hw hr; replace HO := Lib.hid (HO.out.set (i := 1) rfl hw hr); clear hw hr)
  | (go_at_call 128; ((with_reducible refine (three_lines _).mono ?_); rintro e c3 ⟨rfl, hb⟩); replace HO := Lib.hid (HO.out.on hb); clear hb)
  | ((with_reducible refine at_store_ (i := 4) ?_); refine wpList_store_v rfl 88 (.tmp 4) (.tmp 18) rfl g4 (lay0) (layR 0 0 1) rfl rfl (HO.out.row (i := 1) rfl) rfl (layR_one _ _ _) size_l ?_; intro v4s18 hw hr; replace HO := Lib.hid (HO.out.set (i := 1) rfl hw hr); clear hw hr)
  | ((with_reducible refine at_store_ (i := 19) ?_); refine wpList_store_at rfl _ (.tmp 19) _ rfl g4 3 (layR 0 0 1) (.int .i64 20) rfl rfl (HO.out.row (i := 1) rfl) (by decide) rfl rfl size_i ?_; intro v19c hw hr; replace HO := Lib.hid (HO.out.set (i := 1) rfl hw hr); clear hw hr)
  | ((with_reducible refine at_store_ (i := 21) ?_); refine wpList_store_at rfl _ (.tmp 21) _ rfl g4 0 ((layR 0 0 1).set 3 (.int .i64 20)) (.int .i64 1) rfl rfl (HO.out.row (i := 1) rfl) (by decide) rfl rfl size_i ?_; intro v21c hw hr; replace HO := Lib.hid (HO.out.set (i := 1) rfl hw hr); clear hw hr)
  | ((with_reducible refine at_load_ (d := 22) ?_); refine wpList_load_v (op := ⟨some 22, _, _, _, _, _⟩) rfl 88 _ rfl g4 rfl (((layR 0 0 1).set 3 (.int .i64 20)).set 0 (.int .i64 1)) _ (HO.out.row (i := 1) rfl) Tryz.underlying88 rfl size_l ?_)
  | ((with_reducible refine at_store_ (i := 2) ?_); refine wpList_store_v rfl 88 (.tmp 2) (.tmp 22) rfl g2 (lay0) (layV 1) rfl rfl (HO.out.row (i := 0) rfl) rfl (layR_one _ _ _) size_l ?_; intro v2s22 hw hr; replace HO := Lib.hid (HO.out.set (i := 0) rfl hw hr); clear hw hr))
 exact bodyPost_ret (results_v1 rfl _ _ g2 (layV 1) _ rfl (HO.out.row (i := 0) rfl) Tryz.underlying88 rfl size_l) rfl ⟨rfl, HO.out.bl⟩
theorem layout_of (f : Int) (h : 1 ≤ f ∧ f ≤ 3) (w : World) : Calls Tryz.prog 92 #[.int .i64 f] w fun e w' => e = .returned (.tuple #[.agg (layV f).toArray, .bool true]) ∧ Below w.heap.size w w' := by
 have h : f = 1 ∨ f = 2 ∨ f = 3 := by omega
 rcases h with rfl | rfl | rfl
 · exact layout_of1 w
 · exact layout_of2 w
 · exact layout_of3 w
set_option maxHeartbeats 800000 in
set_option maxRecDepth 20000 in
theorem layout_none (f : Int) (h : ¬ (1 ≤ f ∧ f ≤ 3)) (w : World) : Calls Tryz.prog 92 #[.int .i64 f] w fun e w' => e = .returned (.tuple #[.agg lay0.toArray, .bool false]) ∧ Below w.heap.size w w' := by
 have n1 : f ≠ 1 := by omega
 have n2 : f ≠ 2 := by omega
 have n3 : f ≠ 3 := by omega
 have d1 : (f == 1) = false := by simpa using n1
 have d2 : (f == 2) = false := by simpa using n2
 have d3 : (f == 3) = false := by simpa using n3
 have HO := Lib.hid (Own.start w)
 go_enter Tryz.func92, Tryz.ntmps92
 go_wp2_with (first
  | ((with_reducible refine at_alloc_ (d := 2) ?_); refine wpList_alloc_v (op := ⟨some 2, _, _, _, _, _⟩) rfl 88 rfl lay0 info_l ?_; intro g2 v2a hf hr; replace HO := Lib.hid (HO.out.new hf hr); clear hf hr)
  | ((with_reducible refine at_alloc_ (d := 4) ?_); refine wpList_alloc_v (op := ⟨some 4, _, _, _, _, _⟩) rfl 88 rfl lay0 info_l ?_; intro g4 v4a hf hr; replace HO := Lib.hid (HO.out.new hf hr); clear hf hr)
  | ((with_reducible refine at_store_ (i := 4) ?_); refine wpList_store_v rfl 88 (.tmp 4) (.tmp 5) rfl g4 (lay0) (lay0) rfl rfl (HO.out.row (i := 1) rfl) rfl (lay0_one) size_l ?_; intro v4s5 hw hr; replace HO := Lib.hid (HO.out.set (i := 1) rfl hw hr); clear hw hr)
  | ((with_reducible refine at_store_ (i := 2) ?_); refine wpList_store_v rfl 88 (.tmp 2) (.tmp 7) rfl g2 (lay0) (lay0) rfl rfl (HO.out.row (i := 0) rfl) rfl (lay0_one) size_l ?_; intro v2s7 hw hr; replace HO := Lib.hid (HO.out.set (i := 0) rfl hw hr); clear hw hr))
 exact bodyPost_ret (results_v1 rfl _ _ g2 lay0 _ rfl (HO.out.row (i := 0) rfl) Tryz.underlying88 rfl size_l) rfl ⟨rfl, HO.out.bl⟩
def plcV (p : Nat × Nat × Nat) : List Value := [.int .i64 ((p.1 : Nat) : Int), .int .i64 ((p.2.1 : Nat) : Int), .int .i64 ((p.2.2 : Nat) : Int)]
theorem plcV_one (p : Nat × Nat × Nat) : ∀ u ∈ plcV p, u.oneCell' = true := by intro u hu; simp [plcV] at hu; rcases hu with rfl | rfl | rfl <;> rfl
theorem layV_len {f : Int} (h : 1 ≤ f ∧ f ≤ 3) : (layV f).length = 61 := by
 have h : f = 1 ∨ f = 2 ∨ f = 3 := by omega
 rcases h with rfl | rfl | rfl <;> rfl
theorem lay_part {f : Int} (h : 1 ≤ f ∧ f ≤ 3) {k : Nat} (hk : k < 15) : ((layV f).drop (4 + k * 3)).take 3 = plcV (plc f k) := by
 have h : f = 1 ∨ f = 2 ∨ f = 3 := by omega
 have hk : k = 0 ∨ k = 1 ∨ k = 2 ∨ k = 3 ∨ k = 4 ∨ k = 5 ∨ k = 6 ∨ k = 7 ∨ k = 8 ∨ k = 9 ∨ k = 10 ∨ k = 11 ∨ k = 12 ∨ k = 13 ∨ k = 14 := by omega
 rcases h with rfl | rfl | rfl <;> rcases hk with rfl | rfl | rfl | rfl | rfl | rfl | rfl | rfl | rfl | rfl | rfl | rfl | rfl | rfl | rfl <;> rfl
theorem plc_ok {f : Int} (h : 1 ≤ f ∧ f ≤ 3) {k : Nat} (hk : k < 15) : (plc f k).1 < cntN f ∧ (plc f k).2.1 ≤ (plc f k).2.2 ∧ (plc f k).2.2 ≤ widN f := by
 have h : f = 1 ∨ f = 2 ∨ f = 3 := by omega
 have hk : k = 0 ∨ k = 1 ∨ k = 2 ∨ k = 3 ∨ k = 4 ∨ k = 5 ∨ k = 6 ∨ k = 7 ∨ k = 8 ∨ k = 9 ∨ k = 10 ∨ k = 11 ∨ k = 12 ∨ k = 13 ∨ k = 14 := by omega
 rcases h with rfl | rfl | rfl <;> rcases hk with rfl | rfl | rfl | rfl | rfl | rfl | rfl | rfl | rfl | rfl | rfl | rfl | rfl | rfl | rfl <;> decide
theorem cmp_ok {f : Int} (h : 1 ≤ f ∧ f ≤ 3) {k : Nat} (hk : k < 4) : ((cmps f).getD k (0, 0, 0)).1 < cntN f ∧ ((cmps f).getD k (0, 0, 0)).2.1 ≤ ((cmps f).getD k (0, 0, 0)).2.2 ∧ ((cmps f).getD k (0, 0, 0)).2.2 ≤ widN f := by
 have h : f = 1 ∨ f = 2 ∨ f = 3 := by omega
 have hk : k = 0 ∨ k = 1 ∨ k = 2 ∨ k = 3 := by omega
 rcases h with rfl | rfl | rfl <;> rcases hk with rfl | rfl | rfl | rfl <;> decide
def sizN (f : Int) (k : Nat) : Nat := (plc f k).2.2 - (plc f k).2.1
set_option maxHeartbeats 800000 in
set_option maxRecDepth 20000 in
theorem p_size (f : Int) (h : 1 ≤ f ∧ f ≤ 3) (k : Nat) (hk : k < 15) (w : World) : Calls Tryz.prog 97 #[.agg (layV f).toArray, .int .i64 (k : Int)] w fun e w' => e = .returned (.int .i64 ((sizN f k : Nat) : Int)) ∧ Below w.heap.size w w' := by
 have HK := Lib.hid (show 4 + k * 3 + 3 ≤ (layV f).length ∧ _ from ⟨by rw [layV_len h]; omega, lay_part h hk⟩)
 obtain ⟨c1, c2, c3⟩ := plc_ok h hk
 have hw : widN f ≤ 44 := by unfold widN; repeat (first | omega | split)
 have HV := Lib.hid (show (((plc f k).2.2 : Nat) : Int) - (((plc f k).2.1 : Nat) : Int) = ((sizN f k : Nat) : Int) by unfold sizN; omega)
 have p1 : (plc f k).2.2 ≤ 44 := by omega
 have p2 : (plc f k).2.1 ≤ 44 := by omega
 clear h c1 c2 c3 hw
 have HO := Lib.hid (Own.start w)
 go_enter Tryz.func97, Tryz.ntmps97
 go_wp2_with (first
  | ((with_reducible refine at_box_ (d := 2) ?_); refine wpList_box_v (op := ⟨some 2, _, _, _, _, _⟩) rfl 88 _ rfl (layV f) rfl ?_; intro g2 v2b hf hr; replace HO := Lib.hid (HO.out.new hf hr); clear hf hr)
  | ((with_reducible refine at_load_ (d := 9) ?_); refine wpList_load_part (op := ⟨some 9, _, _, _, _, _⟩) rfl 84 _ rfl g2 (4 + k * 3) rfl (layV f) 3 (plcV (plc f k)) _ (HO.out.row (i := 0) rfl) HK.out.1 HK.out.2 Tryz.underlying84 rfl size_p ?_)
  | ((with_reducible refine at_alloc_ (d := 5) ?_); refine wpList_alloc_v (op := ⟨some 5, _, _, _, _, _⟩) rfl 84 rfl plc0 info_p ?_; intro g5 v5a hf hr; replace HO := Lib.hid (HO.out.new hf hr); clear hf hr)
  | ((with_reducible refine at_store_ (i := 5) ?_); refine wpList_store_v rfl 84 (.tmp 5) (.tmp 9) rfl g5 (plc0) (plcV (plc f k)) rfl rfl (HO.out.row (i := 1) rfl) rfl (plcV_one _) size_p ?_; intro v5s9 hw hr; replace HO := Lib.hid (HO.out.set (i := 1) rfl hw hr); clear hw hr)
  | ((with_reducible refine at_load_ (d := 11) ?_); refine wpList_load_c (op := ⟨some 11, _, _, _, _, _⟩) rfl 3 _ rfl _ _ rfl _ ((HO.out.row (i := 1) rfl).cell _) Tryz.isAgg3 ?_)
  | ((with_reducible refine at_load_ (d := 13) ?_); refine wpList_load_c (op := ⟨some 13, _, _, _, _, _⟩) rfl 3 _ rfl _ _ rfl _ ((HO.out.row (i := 1) rfl).cell _) Tryz.isAgg3 ?_))
 go_ret
 exact ⟨by rw [← HV.out]; rfl, HO.out.bl⟩
end Go.Proofs.YtibahbkjjfmbgaaGreatDoor
