/-
  What is proved here: what the reference's Build answers, for all zones; equal lines are the same.
-/
import Derived.Test.YtibahbkjjfmbgaaGreatDoorY11
namespace Go.Proofs.YtibahbkjjfmbgaaGreatDoor
open Go.RowKit Go.Maps
set_option linter.unusedVariables false

theorem wide_size (x : List UInt8) (n : Nat) (h : x.length ≤ n) : (S (wideL x n)).size ≤ n := by
  rw [S_size]; unfold wideL; rw [List.length_append, List.length_replicate]; omega
theorem r_build_ok (z : Zn) (us : List Value) (hz : Bears z) (hus : zV z = us) (hv : vE z = 0) (w : World) : Calls Tryz.prog 45 #[.agg us.toArray] w fun e w' => ∃ A, e = .returned (.tuple #[.slice A (buildL z).length (buildL z).length, .int .i64 (vE z)]) ∧ Strs w' A (buildL z) ∧ Below w.heap.size w w' := by
  have hft := hz.fits hv
  obtain ⟨h1, h2, h3, h4, h5, h6, h7, h8, h9, h10, h11, h12, h13, h14, h15⟩ := vE_ok hv
  have hn : 1 ≤ namN z.fm ∧ namN z.fm ≤ 39 := by unfold namN; repeat (first | omega | split)
  have hE := namesE_3 (x := z.su) (y := z.gi) (w := ((namN z.fm : Nat) : Int)) (by rw [h4.2, h5]; simp [h4.1]) (by omega)
  refine r_build_common z us (S (wideL z.kd 2)) (S (wideL z.st 3)) (S (headL z)) ⟨#[]⟩ (S (numA z.nu)) (S (numR z.nu)) (S z.bi) (S z.ex) (S (z.bi ++ dgL z.bi)) (S (z.ex ++ dgL z.ex)) ⟨#[]⟩ (S (wideL z.na 3)) ⟨#[]⟩ ⟨#[]⟩ (S (fieldL z.su z.gi (namN z.fm))) 0 ((namN z.fm : Nat) : Int) hz hft hus
    ⟨fun w => r_wideB z.kd 2 (by decide) _ rfl w, fun w => r_wideB z.st 3 (by decide) _ rfl w, fun w => r_number z.nu hft.nu w, fun w => r_chkB z.bi (by have := hft.bi; omega) _ rfl w, fun w => r_chkB z.ex (by have := hft.ex; omega) _ rfl w, fun w => r_wideB z.na 3 (by decide) _ rfl w, fun w => ?_⟩
    ⟨by unfold headL; rw [S_append]⟩ ⟨rfl, rfl, rfl, rfl, rfl, rfl, rfl⟩ rfl ?_ ?_ ?_ ?_ ?_ (wide_size _ _ (code_le h8)) ?_ (wide_size _ _ (code_le h2)) (wide_size _ _ (code_le h3)) rfl rfl hv w
  · have h := r_names (S z.su) (S z.gi) z.su z.gi rfl rfl ((namN z.fm : Nat) : Int) w hz.su hz.gi
    rw [hE.1, hE.2] at h
    exact h
  · have a := wide_size _ _ (code_le h2)
    have b := wide_size _ _ (code_le h3)
    unfold headL; rw [← S_append, ByteArray.size_append]; omega
  · rw [S_size]; exact numA_len _
  · rw [S_size]; have := numR_len z.nu; have := hft.nu; omega
  · rw [S_size, List.length_append]; have := dgL_le z.bi; have := hft.bi; omega
  · rw [S_size, List.length_append]; have := dgL_le z.ex; have := hft.ex; omega
  · rw [S_size, names_len hv]; omega
set_option maxHeartbeats 800000 in
set_option maxRecDepth 20000 in
theorem r_zbuild (z : Zn) (us : List Value) (hz : Bears z) (hus : zV z = us) (w : World) : Calls Tryz.prog 45 #[.agg us.toArray] w fun e w' => ∃ A, e = .returned (.tuple #[.slice A (buildL z).length (buildL z).length, .int .i64 (vE z)]) ∧ Strs w' A (buildL z) ∧ Below w.heap.size w w' := by
  by_cases hv : vE z = 0
  · exact r_build_ok z us hz hus hv w
  · have hbl : buildL z = [] := by unfold buildL; rw [if_neg hv]
    rw [hbl]
    obtain ⟨v, hvv⟩ : ∃ v, vE z = v := ⟨_, rfl⟩
    have HVD : Hid (∀ w, Calls Tryz.prog 55 #[.agg us.toArray] w fun e w' => e = .returned (.int .i64 v) ∧ Below w.heap.size w w') := Lib.hid (fun w => by rw [← hvv]; exact r_zvalid z hz us hus w)
    have HSZ : Hid ((Tryz.prog.info? 44).map (·.size) = some us.length) := Lib.hid (by rw [← hus]; exact size_z)
    have HO := Lib.hid (Own.start w)
    rw [hvv] at hv ⊢
    have d1 : (v == 0) = false := by simpa using hv
    clear hvv hbl hz hus
    go_enter Tryz.func45, Tryz.ntmps45
    go_wp2_with (first
      | ((with_reducible refine at_box_ (d := 1) ?_); refine wpList_box_v (op := ⟨some 1, _, _, _, _, _⟩) rfl 44 _ rfl us rfl ?_; intro g1 v1b hf hr; replace HO := Lib.hid (HO.out.new hf hr); clear hf hr)
      | ((with_reducible refine at_load_ (d := 24) ?_); refine wpList_load_v rfl 44 _ rfl g1 rfl us _ (HO.out.row (i := 0) rfl) Tryz.underlying44 rfl HSZ.out ?_)
      | (go_at_call 55; ((with_reducible refine (HVD.out _).mono ?_); rintro e w5 ⟨rfl, hb⟩); replace HO := Lib.hid (HO.out.on hb); clear hb))
    go_ret2
    exact ⟨none, rfl, .inl rfl, HO.out.bl⟩
set_option maxHeartbeats 800000 in
set_option maxRecDepth 20000 in
theorem r_same_eq (ls : List (List UInt8)) (A B : Option Addr) (n c d : Nat) (hn : ls.length = n) (hl : n ≤ 1000000) (w : World) (ha : Strs w A ls) (hb : Strs w B ls) :
    Calls Tryz.prog 24 #[.slice A n c, .slice B n d] w fun e w' => e = .returned (.bool true) ∧ Below w.heap.size w w' := by
  have HA := Lib.hid ha
  have HB := Lib.hid hb
  have HN := Lib.hid hn
  clear ha hb hn
  go_enter Tryz.func24, Tryz.ntmps24
  go_wp2
  go_loopw [5] (fun i wr => ∃ (j : Nat), j ≤ n ∧ i = .int .i64 (j : Int) ∧ Hid (Below w.heap.size w wr)) (fun i _ => n - (intOf i).toNat)
  case atStart => exact ⟨0, by omega, rfl, Lib.hid (Below.refl _ _)⟩
  case round =>
    obtain ⟨j, hj, rfl, HR⟩ := hrel
    by_cases hlt : j < n
    · obtain ⟨a1, a2, rfl, a3, a4⟩ := HA.out.cell (by rw [HN.out]; omega)
      obtain ⟨b1, b2, rfl, b3, b4⟩ := HB.out.cell (by rw [HN.out]; omega)
      obtain ⟨X, hX⟩ : ∃ X, S (ls.getD j []) = X := ⟨_, rfl⟩
      have ca := a4 j (by rw [HN.out]; exact hlt)
      have cb := b4 j (by rw [HN.out]; exact hlt)
      rw [hX] at ca cb
      have la := fun (d : Nat) (os : Array Obj) => cell_regrown ((HR.out.cell (p := ⟨a1, a2 + j, none⟩) a3).trans ca) d os
      have lb := fun (d : Nat) (os : Array Obj) => cell_regrown ((HR.out.cell (p := ⟨b1, b2 + j, none⟩) b3).trans cb) d os
      clear a3 a4 b3 b4 ca cb hX
      go_wp2_with fail
      refine wp_region_quiet_below (by kernel_rfl) (by kernel_rfl) ?_
      repeat (first | go_big_quiet_skip | (go_big_quiet_want; go_big_quiet_op; go_big_quiet_on))
      refine wpQuiet_nil ?_
      intro w3 hw3
      have H3 := Lib.hid (below_on HR.out (below_of_regrown hw3))
      clear hw3 la lb
      go_wp2
      go_roundw
      case rel => exact ⟨j + 1, by omega, by go_num, H3⟩
      case measure => simp [intOf]; omega
    · obtain rfl : j = n := by omega
      go_wp2
      go_ret
      exact ⟨rfl, HR.out⟩
end Go.Proofs.YtibahbkjjfmbgaaGreatDoor
