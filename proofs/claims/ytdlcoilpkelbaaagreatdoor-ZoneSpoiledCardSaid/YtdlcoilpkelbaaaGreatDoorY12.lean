/-
  What is proved here: what the reference's Build answers, for all zones; equal lines are the same.
  And: the sample of the layer is built and read as the document prints it.
  And: the law ZoneBuilds answers true for any zone whose strings a machine bears.
-/
import Derived.Test.YtdlcoilpkelbaaaGreatDoorY11
import Derived.Test.YtdlcoilpkelbaaaGreatDoorY9
import Derived.Test.YtdlcoilpkelbaaaGreatDoorY7
namespace Go.Proofs.YtdlcoilpkelbaaaGreatDoor
open Go.RowKit Go.Maps
set_option linter.unusedVariables false

theorem wide_size (x : List UInt8) (n : Nat) (h : x.length ≤ n) : (S (wideL x n)).size ≤ n := by
  rw [S_size]; unfold wideL; rw [List.length_append, List.length_replicate]; omega
theorem r_build_ok (z : Zn) (us : List Value) (hz : Bears z) (hus : zV z = us) (hv : vE z = 0) (w : World) : Calls Tryz.prog 11 #[.agg us.toArray] w fun e w' => ∃ A, e = .returned (.tuple #[.slice A (buildL z).length (buildL z).length, .int .i64 (vE z)]) ∧ Strs w' A (buildL z) ∧ Below w.heap.size w w' := by
  have hft := hz.fits hv
  obtain ⟨h1, h2, h3, h4, h5, h6, h7, h8, h9, h10, h11, h12, h13, h14, h15⟩ := vE_ok hv
  have hn : 1 ≤ namN z.fm ∧ namN z.fm ≤ 39 := by unfold namN; repeat (first | omega | split)
  have hE := namesE_3 (x := z.su) (y := z.gi) (w := ((namN z.fm : Nat) : Int)) (by rw [h4.2, h5]; simp [h4.1]) (by omega)
  refine r_build_common z us (S (wideL z.kd 2)) (S (wideL z.st 3)) (S (headL z)) ⟨#[]⟩ (S (numA z.nu)) (S (numR z.nu)) (S z.bi) (S z.ex) (S (z.bi ++ dgL z.bi)) (S (z.ex ++ dgL z.ex)) ⟨#[]⟩ (S (wideL z.na 3)) ⟨#[]⟩ ⟨#[]⟩ (S (fieldL z.su z.gi (namN z.fm))) 0 ((namN z.fm : Nat) : Int) hz hft hus
    ⟨fun w => r_wideB z.kd 2 (by decide) _ rfl w, fun w => r_wideB z.st 3 (by decide) _ rfl w, fun w => r_number z.nu hft.nu w, fun w => r_chkB z.bi (by have := hft.bi; omega) _ rfl w, fun w => r_chkB z.ex (by have := hft.ex; omega) _ rfl w, fun w => r_wideB z.na 3 (by decide) _ rfl w, fun w => ?_⟩
    ⟨by unfold headL; rw [S_append]⟩ ⟨rfl, rfl, rfl, rfl, rfl, rfl, rfl⟩ rfl ?_ ?_ ?_ ?_ ?_ (wide_size _ _ (code_le h8)) ?_ (wide_size _ _ (code_le h2)) (wide_size _ _ (code_le h3)) rfl rfl hv w
  · have h := r_names (S z.su) (S z.gi) z.su z.gi rfl rfl ((namN z.fm : Nat) : Int) w hz.su hz.gi
    rw [hE.1, hE.2] at h
    exact h
  · have a := wide_size _ _ (code_le h2)
    have b := wide_size _ _ (code_le h3)
    unfold headL; rw [← S_append, ByteArray.size_append]; omega
  · rw [S_size]; exact numA_len _
  · rw [S_size]; have := numR_len z.nu; have := hft.nu; omega
  · rw [S_size, List.length_append]; have := dgL_le z.bi; have := hft.bi; omega
  · rw [S_size, List.length_append]; have := dgL_le z.ex; have := hft.ex; omega
  · rw [S_size, names_len hv]; omega
set_option maxHeartbeats 800000 in
set_option maxRecDepth 20000 in
theorem r_zbuild (z : Zn) (us : List Value) (hz : Bears z) (hus : zV z = us) (w : World) : Calls Tryz.prog 11 #[.agg us.toArray] w fun e w' => ∃ A, e = .returned (.tuple #[.slice A (buildL z).length (buildL z).length, .int .i64 (vE z)]) ∧ Strs w' A (buildL z) ∧ Below w.heap.size w w' := by
  by_cases hv : vE z = 0
  · exact r_build_ok z us hz hus hv w
  · have hbl : buildL z = [] := by unfold buildL; rw [if_neg hv]
    rw [hbl]
    obtain ⟨v, hvv⟩ : ∃ v, vE z = v := ⟨_, rfl⟩
    have HVD : Hid (∀ w, Calls Tryz.prog 16 #[.agg us.toArray] w fun e w' => e = .returned (.int .i64 v) ∧ Below w.heap.size w w') := Lib.hid (fun w => by rw [← hvv]; exact r_zvalid z hz us hus w)
    have HSZ : Hid ((Tryz.prog.info? 23).map (·.size) = some us.length) := Lib.hid (by rw [← hus]; exact size_z)
    have HO := Lib.hid (Own.start w)
    rw [hvv] at hv ⊢
    have d1 : (v == 0) = false := by simpa using hv
    clear hvv hbl hz hus
    go_enter Tryz.func11, Tryz.ntmps11
    go_wp2_with (first
      | ((with_reducible refine at_box_ (d := 1) ?_); refine wpList_box_v (op := ⟨some 1, _, _, _, _, _⟩) rfl 23 _ rfl us rfl ?_; intro g1 v1b hf hr; replace HO := Lib.hid (HO.out.new hf hr); clear hf hr)
      | ((with_reducible refine at_load_ (d := 24) ?_); refine wpList_load_v rfl 23 _ rfl g1 rfl us _ (HO.out.row (i := 0) rfl) Tryz.underlying23 rfl HSZ.out ?_)
      | (go_at_call 16; ((with_reducible refine (HVD.out _).mono ?_); rintro e w5 ⟨rfl, hb⟩); replace HO := Lib.hid (HO.out.on hb); clear hb))
    go_ret2
    exact ⟨none, rfl, .inl rfl, HO.out.bl⟩
set_option maxHeartbeats 800000 in
set_option maxRecDepth 20000 in
theorem r_same_eq (ls : List (List UInt8)) (A B : Option Addr) (n c d : Nat) (hn : ls.length = n) (hl : n ≤ 1000000) (w : World) (ha : Strs w A ls) (hb : Strs w B ls) :
    Calls Tryz.prog 17 #[.slice A n c, .slice B n d] w fun e w' => e = .returned (.bool true) ∧ Below w.heap.size w w' := by
  have HA := Lib.hid ha
  have HB := Lib.hid hb
  have HN := Lib.hid hn
  clear ha hb hn
  go_enter Tryz.func17, Tryz.ntmps17
  go_wp2
  go_loopw [5] (fun i wr => ∃ (j : Nat), j ≤ n ∧ i = .int .i64 (j : Int) ∧ Hid (Below w.heap.size w wr)) (fun i _ => n - (intOf i).toNat)
  case atStart => exact ⟨0, by omega, rfl, Lib.hid (Below.refl _ _)⟩
  case round =>
    obtain ⟨j, hj, rfl, HR⟩ := hrel
    by_cases hlt : j < n
    · obtain ⟨a1, a2, rfl, a3, a4⟩ := HA.out.cell (by rw [HN.out]; omega)
      obtain ⟨b1, b2, rfl, b3, b4⟩ := HB.out.cell (by rw [HN.out]; omega)
      obtain ⟨X, hX⟩ : ∃ X, S (ls.getD j []) = X := ⟨_, rfl⟩
      have ca := a4 j (by rw [HN.out]; exact hlt)
      have cb := b4 j (by rw [HN.out]; exact hlt)
      rw [hX] at ca cb
      have la := fun (d : Nat) (os : Array Obj) => cell_regrown ((HR.out.cell (p := ⟨a1, a2 + j, none⟩) a3).trans ca) d os
      have lb := fun (d : Nat) (os : Array Obj) => cell_regrown ((HR.out.cell (p := ⟨b1, b2 + j, none⟩) b3).trans cb) d os
      clear a3 a4 b3 b4 ca cb hX
      go_wp2_with fail
      refine wp_region_quiet_below (by kernel_rfl) (by kernel_rfl) ?_
      repeat (first | go_big_quiet_skip | (go_big_quiet_want; go_big_quiet_op; go_big_quiet_on))
      refine wpQuiet_nil ?_
      intro w3 hw3
      have H3 := Lib.hid (below_on HR.out (below_of_regrown hw3))
      clear hw3 la lb
      go_wp2
      go_roundw
      case rel => exact ⟨j + 1, by omega, by go_num, H3⟩
      case measure => simp [intOf]; omega
    · obtain rfl : j = n := by omega
      go_wp2
      go_ret
      exact ⟨rfl, HR.out⟩
end Go.Proofs.YtdlcoilpkelbaaaGreatDoor
namespace Go.Proofs.YtdlcoilpkelbaaaGreatDoor
open Go.RowKit Go.Maps
set_option linter.unusedVariables false

def smpL : List (List UInt8) := [[80, 60, 85, 84, 79, 69, 82, 73, 75, 83, 83, 79, 78, 60, 60, 65, 78, 78, 65, 60, 77, 65, 82, 73, 65, 60, 60, 60, 60, 60, 60, 60, 60, 60, 60, 60, 60, 60, 60, 60, 60, 60, 60, 60], [76, 56, 57, 56, 57, 48, 50, 67, 60, 51, 85, 84, 79, 54, 57, 48, 56, 48, 54, 49, 70, 57, 52, 48, 54, 50, 51, 54, 90, 69, 49, 56, 52, 50, 50, 54, 66, 60, 60, 60, 60, 60, 49, 52]]
theorem smp_build : buildL smp = smpL := by kernel_rfl
theorem smp_valid : vE smp = 0 := by kernel_rfl
theorem smp_parE : parE smpL = 0 := by kernel_rfl
theorem smp_parZ : parZ smpL = smp := by kernel_rfl
theorem smp_bears : Bears smp := by
  refine ⟨?_, ?_, ?_, ?_, ?_, ?_, ?_, ?_, ?_, ?_, ?_⟩ <;> rw [S_size] <;> decide
set_option maxHeartbeats 1600000 in
set_option maxRecDepth 20000 in
theorem p_sample (us : List Value) (hus : zV smp = us) (w : World) : Calls Tryz.prog 39 #[] w fun e w' => e = .returned (.agg us.toArray) ∧ Below w.heap.size w w' := by
  have HUL : Hid (us.length = zon0.length ∧ (∀ u ∈ us, u.oneCell' = true) ∧ (Tryz.prog.info? 23).map (·.size) = some us.length) := Lib.hid (by rw [← hus]; exact ⟨rfl, zV_one _, size_z⟩)
  have HU := Lib.hid hus
  have HO := Lib.hid (Own.start w)
  clear hus
  go_enter Tryz.func39, Tryz.ntmps39
  go_wp2_with (first
    | ((with_reducible refine at_alloc_ (d := 0) ?_); refine wpList_alloc_v (op := ⟨some 0, _, _, _, _, _⟩) rfl 23 rfl zon0 info_z ?_; intro g0 v0a hf hr; replace HO := Lib.hid (HO.out.new hf hr); clear hf hr)
    | ((with_reducible refine at_store_ (i := 0) ?_); refine wpList_store_v rfl 23 (.tmp 0) (.tmp 1) rfl g0 zon0 us rfl (by rw [← HU.out]; rfl) (HO.out.row (i := 0) rfl) HUL.out.1 HUL.out.2.1 HUL.out.2.2 ?_; intro v0s hw hr; replace HO := Lib.hid (HO.out.set (i := 0) rfl hw hr); clear hw hr))
  exact bodyPost_ret (results_v rfl _ _ g0 us _ rfl (HO.out.row (i := 0) rfl) Tryz.underlying23 rfl HUL.out.2.2) rfl ⟨rfl, HO.out.bl⟩
theorem smp_build2 (us : List Value) (hus : zV smp = us) (w : World) (hM : Mm w) : Calls Tryz.prog 10 #[.agg us.toArray] w fun e w' => ∃ A, e = .returned (.tuple #[.slice A 2 2, .int .i64 0]) ∧ Strs w' A smpL ∧ Below w.heap.size w w' := by
  have h := p_build smp smp_bears w hM
  rw [smp_build, smp_valid, zn_val, hus] at h
  exact h
theorem smp_parse2 (us : List Value) (hus : zV smp = us) (A : Option Addr) (w : World) (hM : Mm w) (hs : Strs w A smpL) : Calls Tryz.prog 18 #[.slice A 2 2] w fun e w' => e = .returned (.tuple #[.agg us.toArray, .int .i64 0]) ∧ Below w.heap.size w w' := by
  have h := p_zparse smpL A 2 (by decide) w hM hs
  rw [smp_parE, smp_parZ, zn_val, hus] at h
  exact h
theorem smp_row (w : World) : Strs (w.alloc (.cells #[Value.string ⟨#[80, 60, 85, 84, 79, 69, 82, 73, 75, 83, 83, 79, 78, 60, 60, 65, 78, 78, 65, 60, 77, 65, 82, 73, 65, 60, 60, 60, 60, 60, 60, 60, 60, 60, 60, 60, 60, 60, 60, 60, 60, 60, 60, 60]⟩, Value.string ⟨#[76, 56, 57, 56, 57, 48, 50, 67, 60, 51, 85, 84, 79, 54, 57, 48, 56, 48, 54, 49, 70, 57, 52, 48, 54, 50, 51, 54, 90, 69, 49, 56, 52, 50, 50, 54, 66, 60, 60, 60, 60, 60, 49, 52]⟩] 9)) (some ⟨w.heap.size, 0, none⟩) smpL := RowV.sees0 (RowV.new (vs := strV smpL) rfl)
theorem smp_eq (w : World) : (do eqGuard .eql 23 (.tmp 33) (.tmp 34) (.agg (zV smp).toArray) (.agg (zV smp).toArray); binOp .eql 23 (.agg (zV smp).toArray) (.agg (zV smp).toArray)).run Tryz.prog w = .ok (.bool true) w := by kernel_rfl
theorem smp_eq2 (w : World) : (binOp .eql 23 (.agg (zV smp).toArray) (.agg (zV smp).toArray)).run Tryz.prog w = .ok (.bool true) w := by kernel_rfl
set_option maxHeartbeats 1600000 in
set_option maxRecDepth 20000 in
theorem zone_awake (w : World) (hM : Mm w) : Calls Tryz.prog 14 #[] w fun e w' => e = .returned (.bool true) ∧ Below w.heap.size w w' := by
  have HM := Lib.hid hM
  obtain ⟨us, hus⟩ : ∃ us, zV smp = us := ⟨_, rfl⟩
  have HUL : Hid (us.length = zon0.length ∧ (∀ u ∈ us, u.oneCell' = true) ∧ (Tryz.prog.info? 23).map (·.size) = some us.length) := Lib.hid (by rw [← hus]; exact ⟨rfl, zV_one _, size_z⟩)
  have heq : ∀ w, (binOp .eql 23 (.agg us.toArray) (.agg us.toArray)).run Tryz.prog w = .ok (.bool true) w := fun w => by rw [← hus]; exact smp_eq2 w
  have HU := Lib.hid hus
  have HO := Lib.hid (Own.start w)
  clear hM hus
  go_enter Tryz.func14, Tryz.ntmps14
  go_wp2_with (first
    | (go_at_call 39; ((with_reducible refine (p_sample us HU.out _).mono ?_); rintro e w5 ⟨rfl, hb⟩); replace HO := Lib.hid (HO.out.on hb); clear hb)
    | (go_at_call 10; ((with_reducible refine (smp_build2 us HU.out _ (HM.out.on HO.out.bl)).mono ?_); rintro e w6 ⟨A, rfl, hs, hb⟩); have HS := Lib.hid hs; replace HO := Lib.hid (HO.out.on hb); have HO6 := Lib.hid (Own.start w6); clear hb hs)
    | (go_at_call 18; ((with_reducible refine (smp_parse2 us HU.out _ _ ((HM.out.on HO.out.bl).on ((Below.refl _ _).alloc (Nat.le_refl _) _)) (smp_row _)).mono ?_); rintro e w7 ⟨rfl, hb⟩); replace HO6 := Lib.hid ((HO6.out.on ((Below.refl _ _).alloc (Nat.le_refl _) _)).on hb); clear hb)
    | ((with_reducible refine at_alloc_ (d := 3) ?_); refine wpList_alloc_v (op := ⟨some 3, _, _, _, _, _⟩) rfl 23 rfl zon0 info_z ?_; intro g3 v3a hf hr; replace HO6 := Lib.hid (HO6.out.new hf hr); clear hf hr)
    | ((with_reducible refine at_store_ (i := 3) ?_); refine wpList_store_v rfl 23 (.tmp 3) (.tmp 13) rfl g3 zon0 us rfl rfl (HO6.out.row (i := 0) rfl) HUL.out.1 HUL.out.2.1 HUL.out.2.2 ?_; intro v3s hw hr; replace HO6 := Lib.hid (HO6.out.set (i := 0) rfl hw hr); clear hw hr))
  obtain ⟨ab, ao, rfl, hab, hcell⟩ := HS.out.cell (by decide)
  obtain ⟨L2, hL2⟩ : ∃ L, S (smpL.getD 1 []) = L := ⟨_, rfl⟩
  have hc1 := hcell 1 (by decide)
  rw [hL2] at hc1
  have e2 : (L2.toList == [76, 56, 57, 56, 57, 48, 50, 67, 60, 51, 85, 84, 79, 54, 57, 48, 56, 48, 54, 49, 70, 57, 52, 48, 54, 50, 51, 54, 90, 69, 49, 56, 52, 50, 50, 54, 66, 60, 60, 60, 60, 60, 49, 52]) = true := by rw [← hL2, S_toList]; rfl
  have lc := fun (d : Nat) (os : Array Obj) => cell_regrown ((HO6.out.bl.cell (p := ⟨ab, ao + 1, none⟩) hab).trans hc1) d os
  have lU := Lib.hid ((HO6.out.row (i := 0) rfl).up)
  have qs := HO6.out.qup fun w' _ => p_sample us HU.out w'
  clear hc1 hcell hab hL2
  refine wp_region_quiet_below (by kernel_rfl) (by kernel_rfl) ?_
  repeat (first | ((with_reducible refine at_qload_ (d := 33) ?_); refine quiet_load_v rfl _ _ rfl g3 rfl us _ lU.out Tryz.underlying23 rfl HUL.out.2.2 ?_) | go_big_quiet_skip | (go_big_quiet_want; go_big_quiet_op; go_big_quiet_on) | quiet_step (first | with_reducible exact qs _ _))
  refine wpQuiet_nil ?_
  intro w8 hw8
  replace HO6 := Lib.hid (HO6.out.on (below_of_regrown hw8))
  clear hw8 lc lU qs
  go_wp2
  go_ret
  exact ⟨rfl, (HO.out.on HO6.out.bl).bl⟩
end Go.Proofs.YtdlcoilpkelbaaaGreatDoor
namespace Go.Proofs.YtdlcoilpkelbaaaGreatDoor
open Go.RowKit Go.Maps
set_option linter.unusedVariables false

theorem p_buildB (z : Zn) (us : List Value) (hus : zV z = us) (v : Int) (hv : vE z = v) (n : Nat) (hn : (buildL z).length = n) (hz : Bears z) (w : World) (hM : Mm w) :
    Calls Tryz.prog 10 #[.agg us.toArray] w fun e w' => ∃ A, e = .returned (.tuple #[.slice A n n, .int .i64 v]) ∧ Strs w' A (buildL z) ∧ Below w.heap.size w w' := by
  rw [← hus, ← hv, ← hn]; exact p_build z hz w hM
theorem r_buildB (z : Zn) (us : List Value) (hus : zV z = us) (v : Int) (hv : vE z = v) (n : Nat) (hn : (buildL z).length = n) (hz : Bears z) (w : World) :
    Calls Tryz.prog 11 #[.agg us.toArray] w fun e w' => ∃ A, e = .returned (.tuple #[.slice A n n, .int .i64 v]) ∧ Strs w' A (buildL z) ∧ Below w.heap.size w w' := by
  rw [← hv, ← hn]; exact r_zbuild z us hz hus w
theorem p_keyB (z : Zn) (us : List Value) (hus : zV z = us) (v : Int) (hv : vE z = v) (K : ByteArray) (hK : S (keyL z) = K) (hz : Bears z) (w : World) (hM : Mm w) :
    Calls Tryz.prog 12 #[.agg us.toArray] w fun e w' => e = .returned (.tuple #[.string K, .int .i64 v]) ∧ Below w.heap.size w w' := by
  rw [← hus, ← hv, ← hK]; exact p_key z hz w hM
theorem r_keyB (z : Zn) (us : List Value) (hus : zV z = us) (v : Int) (hv : vE z = v) (K : ByteArray) (hK : S (keyL z) = K) (hz : Bears z) (w : World) :
    Calls Tryz.prog 13 #[.agg us.toArray] w fun e w' => e = .returned (.tuple #[.string K, .int .i64 v]) ∧ Below w.heap.size w w' := by
  rw [← hv, ← hK]; exact r_key z hz us hus w
theorem r_validB2 (z : Zn) (us : List Value) (hus : zV z = us) (v : Int) (hv : vE z = v) (hz : Bears z) (w : World) :
    Calls Tryz.prog 16 #[.agg us.toArray] w fun e w' => e = .returned (.int .i64 v) ∧ Below w.heap.size w w' := by
  rw [← hv]; exact r_zvalid z hz us hus w
theorem build_n (z : Zn) : (buildL z).length ≤ 3 := by
  unfold buildL
  split
  · unfold buildT; rw [linesT_len]; exact cnt3 _
  · simp
set_option maxHeartbeats 1600000 in
set_option maxRecDepth 20000 in
theorem zb_walk (z : Zn) (us : List Value) (hus : zV z = us) (hz : Bears z) (w : World) (hM : Mm w) :
    Calls Tryz.prog 3 #[.agg us.toArray] w fun e w' => e = .returned (.bool true) ∧ Below w.heap.size w w' := by
  have HM := Lib.hid hM
  have HZ := Lib.hid hz
  have HU := Lib.hid hus
  have HSZ : Hid ((Tryz.prog.info? 23).map (·.size) = some us.length) := Lib.hid (by rw [← hus]; exact size_z)
  obtain ⟨v, hv⟩ : ∃ v, vE z = v := ⟨_, rfl⟩
  obtain ⟨n, hn⟩ : ∃ n, (buildL z).length = n := ⟨_, rfl⟩
  obtain ⟨K, hK⟩ : ∃ K, S (keyL z) = K := ⟨_, rfl⟩
  have hn3 : n ≤ 3 := by rw [← hn]; exact build_n z
  have HV := Lib.hid hv
  have HN := Lib.hid hn
  have HK := Lib.hid hK
  have ev : (v == v) = true := beq_self_eq_true v
  have ek : (K.toList == K.toList) = true := beq_self_eq_true _
  have HO := Lib.hid (Own.start w)
  clear hM hz hus hv hn hK
  go_enter Tryz.func3, Tryz.ntmps3
  go_wp2_with (first
    | ((with_reducible refine at_box_ (d := 1) ?_); refine wpList_box_v (op := ⟨some 1, _, _, _, _, _⟩) rfl 23 _ rfl us rfl ?_; intro g1 v1b hf hr; replace HO := Lib.hid (HO.out.new hf hr); clear hf hr)
    | ((with_reducible refine at_load_ (d := 12) ?_); refine wpList_load_v rfl 23 _ rfl g1 rfl us _ (HO.out.row (i := 0) rfl) Tryz.underlying23 rfl HSZ.out ?_)
    | ((with_reducible refine at_load_ (d := 17) ?_); refine wpList_load_v rfl 23 _ rfl g1 rfl us _ (HO.out.row (i := 0) rfl) Tryz.underlying23 rfl HSZ.out ?_)
    | ((with_reducible refine at_load_ (d := 22) ?_); refine wpList_load_v rfl 23 _ rfl g1 rfl us _ (HO.out.row (i := 0) rfl) Tryz.underlying23 rfl HSZ.out ?_)
    | ((with_reducible refine at_load_ (d := 27) ?_); refine wpList_load_v rfl 23 _ rfl g1 rfl us _ (HO.out.row (i := 0) rfl) Tryz.underlying23 rfl HSZ.out ?_)
    | (go_at_call 10; ((with_reducible refine (p_buildB z us HU.out v HV.out n HN.out HZ.out _ (HM.out.on HO.out.bl)).mono ?_); rintro e w5 ⟨A, rfl, hs, hb⟩); have HS1 := Lib.hid hs; replace HO := Lib.hid (HO.out.on hb); have O5 := Lib.hid (Below.refl w5.heap.size w5); clear hb hs)
    | (go_at_call 11; ((with_reducible refine (r_buildB z us HU.out v HV.out n HN.out HZ.out _).mono ?_); rintro e w6 ⟨B, rfl, hs, hb⟩); have HS2 := Lib.hid hs; replace HS1 := Lib.hid (HS1.out.on hb); replace HO := Lib.hid (HO.out.on hb); clear hb hs)
    | (go_at_call 12; ((with_reducible refine (p_keyB z us HU.out v HV.out K HK.out HZ.out _ (HM.out.on HO.out.bl)).mono ?_); rintro e w7 ⟨rfl, hb⟩); replace HS1 := Lib.hid (HS1.out.on hb); replace HS2 := Lib.hid (HS2.out.on hb); replace HO := Lib.hid (HO.out.on hb); clear hb)
    | (go_at_call 13; ((with_reducible refine (r_keyB z us HU.out v HV.out K HK.out HZ.out _).mono ?_); rintro e w8 ⟨rfl, hb⟩); replace HS1 := Lib.hid (HS1.out.on hb); replace HS2 := Lib.hid (HS2.out.on hb); replace HO := Lib.hid (HO.out.on hb); clear hb))
  have qa := HO.out.qup fun w' hb => zone_awake w' ((HM.out.on HO.out.bl).on hb)
  have qv := HO.out.qup fun w' hb => p_zvalidB z v HV.out us HU.out HZ.out w' ((HM.out.on HO.out.bl).on hb)
  have qr := HO.out.qup fun w' _ => r_validB2 z us HU.out v HV.out HZ.out w'
  have qs := HO.out.qup fun w' hb => r_same_eq (buildL z) A B n n n HN.out (by omega) w' (HS1.out.on hb) (HS2.out.on hb)
  have lU := Lib.hid ((HO.out.row (i := 0) rfl).up)
  refine wp_region_quiet_below (by kernel_rfl) (by kernel_rfl) ?_
  repeat (first | ((with_reducible refine at_qload_ (d := 33) ?_); refine quiet_load_v rfl _ _ rfl g1 rfl us _ lU.out Tryz.underlying23 rfl HSZ.out ?_) | ((with_reducible refine at_qload_ (d := 35) ?_); refine quiet_load_v rfl _ _ rfl g1 rfl us _ lU.out Tryz.underlying23 rfl HSZ.out ?_) | go_big_quiet_skip | (go_big_quiet_want; go_big_quiet_op; go_big_quiet_on) | quiet_step (first | with_reducible exact qa _ _ | with_reducible exact qv _ _ | with_reducible exact qr _ _ | with_reducible exact qs _ _))
  refine wpQuiet_nil ?_
  intro w9 hw9
  replace HO := Lib.hid (HO.out.on (below_of_regrown hw9))
  clear hw9 qa qv qr qs lU
  go_wp2
  go_ret
  exact ⟨rfl, HO.out.bl⟩
end Go.Proofs.YtdlcoilpkelbaaaGreatDoor
