/-
  What is proved here: which infos are valid, by the program.
-/
import Derived.Test.YtcapbojjceeapaaDoorWG8
namespace Go.Proofs.YtcapbojjceeapaaDoor
open Go.RowKit
set_option maxRecDepth 8000
set_option linter.unusedVariables false
set_option linter.unusedSimpArgs false
theorem ix_x (g o n c k : Nat) (hk : k < n) (w : World) : (Instr.indexAt 22 (.slice (some ⟨g, o, none⟩) n c) (.int .i64 (k : Int))).run Tryd.prog w = .ok (.pointer (some ⟨g, o + k * 5, none⟩)) w := by
  have h0 : (k : Int) < (n : Int) := by omega
  have h1 : (0 : Int) ≤ (k : Int) := by omega
  simp [go_sem, Addr.add, h0, h1]
set_option maxHeartbeats 3200000 in
theorem p_valid (l : List Im) (n : Nat) (hn : l.length = n) (hm : n ≤ 140737488351232) (A : Option Addr) (c : Nat) (w : World) (hs : SeesP w (· < w.heap.size) A (Ics l)) :
    Calls Tryd.prog 13 #[.slice A n c] w fun e w' => e = .returned (.int .i64 (vaE l)) ∧ Below w.heap.size w w' := by
  by_cases h16 : 16 < n
  · have d16 : decide ((16 : Int) < (n : Int)) = true := by simp; omega
    have hv : vaE l = 2 := by unfold vaE; rw [if_pos (by omega)]
    rw [hv]
    clear hs hn hv h16
    go_enter Tryd.func13, Tryd.ntmps13
    go_wp2
    go_ret
    exact ⟨rfl, Below.refl _ _⟩
  have d16 : decide ((16 : Int) < (n : Int)) = false := by simp; omega
  have hv : vaE l = chkI none l := by unfold vaE; rw [if_neg (by omega)]
  rw [hv]
  have HS := Lib.hid hs
  have HN := Lib.hid hn
  have hn16 : n ≤ 16 := by omega
  clear hs hn hv h16
  go_enter Tryd.func13, Tryd.ntmps13
  go_wp2
  go_loopw [11] (fun i wr => ∃ (j : Nat), j ≤ n ∧ i = .int .i64 (j : Int) ∧ Hid (Below w.heap.size w wr ∧ chkI (preI l j) (l.drop j) = chkI none l)) (fun i _ => n - (intOf i).toNat)
  case atStart => exact ⟨0, by omega, rfl, Lib.hid ⟨Below.refl _ _, rfl⟩⟩
  case round =>
    obtain ⟨j, hj, rfl, HR⟩ := hrel
    by_cases hlt : j < n
    · have dj : decide ((j : Int) < (n : Int)) = true := by simp; omega
      obtain ⟨x, hx⟩ : ∃ x, l[j]? = some x := ⟨_, List.getElem?_eq_getElem (by rw [HN.out]; exact hlt)⟩
      obtain ⟨b, off, rfl, hb, hr⟩ := im_at HS.out hx
      have hr2 := fun cur (h : Below w.heap.size w cur) => rangeAt_on hr hb h
      obtain ⟨v, hvv⟩ : ∃ v, oneI x = v := ⟨_, rfl⟩
      have hstep := chkI_drop hx
      have hone := fun w => p_one x w
      have hbeh := fun y w => p_beh x y w
      rw [hvv] at hstep hone
      obtain ⟨us, hus⟩ : ∃ us, x.cs = us := ⟨_, rfl⟩
      have hu5 : us.length = 5 := by rw [← hus]; rfl
      have hu1 : ∀ u ∈ us, u.oneCell' = true := by rw [← hus]; exact x.cs_one
      rw [hus] at hr2 hone hbeh
      have HU := Lib.hid (show _ ∧ _ ∧ _ ∧ _ from ⟨hr2, hone, hu5, hu1⟩)
      have HBH := Lib.hid hbeh
      have HB := Lib.hid HR.out.1
      clear hr hr2 hone hbeh hu5 hu1 hvv hus
      by_cases h : v = 0
      · subst h
        by_cases hj0 : j = 0
        · have hpre : preI l j = none := by unfold preI; rw [if_pos hj0]
          have dj0 : decide (0 < j) = false := by simp; omega
          have HC := Lib.hid (show chkI (preI l (j + 1)) (l.drop (j + 1)) = chkI none l from by rw [← HR.out.2, hstep, if_neg (fun h => h rfl), hpre]; rfl)
          clear hstep hx hpre hj0
          go_wp2_with (first
            | ((with_reducible refine at_load_ (d := 15) ?_); refine wpList_load_mid rfl 44 (.tmp 14) rfl b (off + j * 5) rfl us _ (HU.out.1 _ HB.out) Tryd.underlying44 rfl (by rw [HU.out.2.2.1]; exact size_x) ?_)
            | ((with_reducible refine at_alloc_ (d := 4) ?_); refine wpList_alloc_v (op := ⟨some 4, _, _, _, _, _⟩) rfl 44 rfl zerX info_x ?_; intro g4 w4 hf hr; have HG := Lib.hid (show _ ∧ _ ∧ _ from ⟨hf.bl HB.out, hr, hf.ge HB.out⟩); clear hf hr)
            | ((with_reducible refine at_store_ (i := 4) ?_); refine wpList_store_v rfl 44 (.tmp 4) (.tmp 15) rfl g4 zerX us rfl rfl HG.out.2.1 HU.out.2.2.1 HU.out.2.2.2 (by rw [HU.out.2.2.1]; exact size_x) ?_; intro w5 hw hr; have HG5 := Lib.hid (show _ ∧ _ from ⟨Wr.bl HG.out.1 hw HG.out.2.2, hr⟩); clear hw hr)
            | ((with_reducible refine at_load_ (d := 16) ?_); refine wpList_load_v rfl 44 (.tmp 4) rfl g4 rfl us _ HG5.out.2 Tryd.underlying44 rfl (by rw [HU.out.2.2.1]; exact size_x) ?_)
            | (go_at_call 37; ((with_reducible refine (HU.out.2.1 _).mono ?_); rintro e w6 ⟨rfl, hb⟩); have HG6 := Lib.hid (show _ ∧ _ from ⟨below_on HG5.out.1 hb, HG5.out.2.on hb⟩); clear hb))
          refine wp_region_quiet_below (by kernel_rfl) (by kernel_rfl) ?_
          repeat (first | go_big_quiet_skip | (go_big_quiet_want; go_big_quiet_op; go_big_quiet_on))
          refine wpQuiet_nil ?_
          intro w7 hw7
          have H7 := Lib.hid (below_on HG6.out.1 (below_of_regrown hw7))
          clear hw7
          go_wp2
          go_roundw
          case rel => exact ⟨j + 1, by omega, by first | rfl | go_num, Lib.hid ⟨H7.out, HC.out⟩⟩
          case measure => simp [intOf]; omega
        · obtain ⟨y, hy⟩ : ∃ y, l[j - 1]? = some y := ⟨_, List.getElem?_eq_getElem (by rw [HN.out]; omega)⟩
          have hpre : preI l j = some y := by unfold preI; rw [if_neg hj0]; exact hy
          obtain ⟨b', off', e2, hb', hrr⟩ := im_at HS.out hy
          cases e2
          have hr3 := fun cur (h : Below w.heap.size w cur) => rangeAt_on hrr hb' h
          have hbeh := fun w => HBH.out y w
          obtain ⟨bb, hbb⟩ : ∃ q, behB x y = q := ⟨_, rfl⟩
          have hR2 : chkI (some y) (l.drop j) = chkI none l := by rw [← hpre]; exact HR.out.2
          rw [hpre] at hstep
          have hord : ordB x (some y) = bb := hbb
          rw [hord] at hstep
          rw [hbb] at hbeh
          obtain ⟨ys, hys⟩ : ∃ us, y.cs = us := ⟨_, rfl⟩
          have hy5 : ys.length = 5 := by rw [← hys]; rfl
          rw [hys] at hr3 hbeh
          have HY := Lib.hid (show _ ∧ _ ∧ _ from ⟨hr3, hy5, hbeh⟩)
          have dj0 : decide (0 < j) = true := by simp; omega
          have ej : wrap64 ((j : Int) - 1) = ((j - 1 : Nat) : Int) := by unfold wrap64; omega
          obtain ⟨k, hk⟩ : ∃ k, j - 1 = k := ⟨_, rfl⟩
          rw [hk] at ej HY
          have hkn : k < n := by omega
          clear hr3 hrr hbeh hys hy5 hpre hord hbb hx hy
          rcases bb with _ | _
          · have HC := Lib.hid (show chkI none l = 17 from by rw [← hR2, hstep, if_neg (fun h => h rfl)]; rfl)
            clear hstep hR2
            go_wp2_with (first
              | ((with_reducible refine at_load_ (d := 15) ?_); refine wpList_load_mid rfl 44 (.tmp 14) rfl b (off + j * 5) rfl us _ (HU.out.1 _ HB.out) Tryd.underlying44 rfl (by rw [HU.out.2.2.1]; exact size_x) ?_)
              | ((with_reducible refine at_alloc_ (d := 4) ?_); refine wpList_alloc_v (op := ⟨some 4, _, _, _, _, _⟩) rfl 44 rfl zerX info_x ?_; intro g4 w4 hf hr; have HG := Lib.hid (show _ ∧ _ ∧ _ from ⟨hf.bl HB.out, hr, hf.ge HB.out⟩); clear hf hr)
              | ((with_reducible refine at_store_ (i := 4) ?_); refine wpList_store_v rfl 44 (.tmp 4) (.tmp 15) rfl g4 zerX us rfl rfl HG.out.2.1 HU.out.2.2.1 HU.out.2.2.2 (by rw [HU.out.2.2.1]; exact size_x) ?_; intro w5 hw hr; have HG5 := Lib.hid (show _ ∧ _ from ⟨Wr.bl HG.out.1 hw HG.out.2.2, hr⟩); clear hw hr)
              | ((with_reducible refine at_load_ (d := 16) ?_); refine wpList_load_v rfl 44 (.tmp 4) rfl g4 rfl us _ HG5.out.2 Tryd.underlying44 rfl (by rw [HU.out.2.2.1]; exact size_x) ?_)
              | (go_at_call 37; ((with_reducible refine (HU.out.2.1 _).mono ?_); rintro e w6 ⟨rfl, hb⟩); have HG6 := Lib.hid (show _ ∧ _ from ⟨below_on HG5.out.1 hb, HG5.out.2.on hb⟩); clear hb))
            have q1 := quiet_up (w := w6) fun w' _ => HY.out.2.2 w'
            have ixk := fun w => ix_x b off n c k hkn w
            refine wp_region_quiet_below (by kernel_rfl) (by kernel_rfl) ?_
            repeat (first
              | ((with_reducible refine at_qload_ (d := 24) ?_); refine quiet_load_mid rfl _ _ rfl g4 0 rfl us _ (range_up fun w' hb => (HG6.out.2.on hb).whole) Tryd.underlying44 rfl (by rw [HU.out.2.2.1]; exact size_x) ?_)
              | ((with_reducible refine at_qload_ (d := 29) ?_); refine quiet_load_mid rfl _ _ rfl b (off + k * 5) rfl ys _ (range_up fun w' hb => HY.out.1 _ (below_on HG6.out.1 hb)) Tryd.underlying44 rfl (by rw [HY.out.2.1]; exact size_x) ?_)
              | go_big_quiet_skip | (go_big_quiet_want; go_big_quiet_op; go_big_quiet_on) | quiet_step (with_reducible exact q1 _ _))
            refine wpQuiet_nil ?_
            intro w7 hw7
            have H7 := Lib.hid (below_on HG6.out.1 (below_of_regrown hw7))
            clear hw7 q1 ixk
            go_wp2
            go_ret
            exact ⟨by rw [HC.out]; rfl, H7.out⟩
          · have HC := Lib.hid (show chkI (preI l (j + 1)) (l.drop (j + 1)) = chkI none l from by rw [← hR2, hstep, if_neg (fun h => h rfl)]; rfl)
            clear hstep hR2
            go_wp2_with (first
              | ((with_reducible refine at_load_ (d := 15) ?_); refine wpList_load_mid rfl 44 (.tmp 14) rfl b (off + j * 5) rfl us _ (HU.out.1 _ HB.out) Tryd.underlying44 rfl (by rw [HU.out.2.2.1]; exact size_x) ?_)
              | ((with_reducible refine at_alloc_ (d := 4) ?_); refine wpList_alloc_v (op := ⟨some 4, _, _, _, _, _⟩) rfl 44 rfl zerX info_x ?_; intro g4 w4 hf hr; have HG := Lib.hid (show _ ∧ _ ∧ _ from ⟨hf.bl HB.out, hr, hf.ge HB.out⟩); clear hf hr)
              | ((with_reducible refine at_store_ (i := 4) ?_); refine wpList_store_v rfl 44 (.tmp 4) (.tmp 15) rfl g4 zerX us rfl rfl HG.out.2.1 HU.out.2.2.1 HU.out.2.2.2 (by rw [HU.out.2.2.1]; exact size_x) ?_; intro w5 hw hr; have HG5 := Lib.hid (show _ ∧ _ from ⟨Wr.bl HG.out.1 hw HG.out.2.2, hr⟩); clear hw hr)
              | ((with_reducible refine at_load_ (d := 16) ?_); refine wpList_load_v rfl 44 (.tmp 4) rfl g4 rfl us _ HG5.out.2 Tryd.underlying44 rfl (by rw [HU.out.2.2.1]; exact size_x) ?_)
              | (go_at_call 37; ((with_reducible refine (HU.out.2.1 _).mono ?_); rintro e w6 ⟨rfl, hb⟩); have HG6 := Lib.hid (show _ ∧ _ from ⟨below_on HG5.out.1 hb, HG5.out.2.on hb⟩); clear hb))
            have q1 := quiet_up (w := w6) fun w' _ => HY.out.2.2 w'
            have ixk := fun w => ix_x b off n c k hkn w
            refine wp_region_quiet_below (by kernel_rfl) (by kernel_rfl) ?_
            repeat (first
              | ((with_reducible refine at_qload_ (d := 24) ?_); refine quiet_load_mid rfl _ _ rfl g4 0 rfl us _ (range_up fun w' hb => (HG6.out.2.on hb).whole) Tryd.underlying44 rfl (by rw [HU.out.2.2.1]; exact size_x) ?_)
              | ((with_reducible refine at_qload_ (d := 29) ?_); refine quiet_load_mid rfl _ _ rfl b (off + k * 5) rfl ys _ (range_up fun w' hb => HY.out.1 _ (below_on HG6.out.1 hb)) Tryd.underlying44 rfl (by rw [HY.out.2.1]; exact size_x) ?_)
              | go_big_quiet_skip | (go_big_quiet_want; go_big_quiet_op; go_big_quiet_on) | quiet_step (with_reducible exact q1 _ _))
            refine wpQuiet_nil ?_
            intro w7 hw7
            have H7 := Lib.hid (below_on HG6.out.1 (below_of_regrown hw7))
            clear hw7 q1 ixk
            go_wp2
            go_roundw
            case rel => exact ⟨j + 1, by omega, by first | rfl | go_num, Lib.hid ⟨H7.out, HC.out⟩⟩
            case measure => simp [intOf]; omega
      · have dv : (v != 0) = true := by simpa using h
        have HC := Lib.hid (show chkI none l = v from by rw [← HR.out.2, hstep, if_pos h])
        clear hstep hx
        go_wp2_with (first
          | ((with_reducible refine at_load_ (d := 15) ?_); refine wpList_load_mid rfl 44 (.tmp 14) rfl b (off + j * 5) rfl us _ (HU.out.1 _ HB.out) Tryd.underlying44 rfl (by rw [HU.out.2.2.1]; exact size_x) ?_)
          | ((with_reducible refine at_alloc_ (d := 4) ?_); refine wpList_alloc_v (op := ⟨some 4, _, _, _, _, _⟩) rfl 44 rfl zerX info_x ?_; intro g4 w4 hf hr; have HG := Lib.hid (show _ ∧ _ ∧ _ from ⟨hf.bl HB.out, hr, hf.ge HB.out⟩); clear hf hr)
          | ((with_reducible refine at_store_ (i := 4) ?_); refine wpList_store_v rfl 44 (.tmp 4) (.tmp 15) rfl g4 zerX us rfl rfl HG.out.2.1 HU.out.2.2.1 HU.out.2.2.2 (by rw [HU.out.2.2.1]; exact size_x) ?_; intro w5 hw hr; have HG5 := Lib.hid (show _ ∧ _ from ⟨Wr.bl HG.out.1 hw HG.out.2.2, hr⟩); clear hw hr)
          | ((with_reducible refine at_load_ (d := 16) ?_); refine wpList_load_v rfl 44 (.tmp 4) rfl g4 rfl us _ HG5.out.2 Tryd.underlying44 rfl (by rw [HU.out.2.2.1]; exact size_x) ?_)
          | (go_at_call 37; ((with_reducible refine (HU.out.2.1 _).mono ?_); rintro e w6 ⟨rfl, hb⟩); have HG6 := Lib.hid (show _ ∧ _ from ⟨below_on HG5.out.1 hb, HG5.out.2.on hb⟩); clear hb))
        go_ret
        exact ⟨by rw [HC.out]; rfl, HG6.out.1⟩
    · obtain rfl : j = n := by omega
      have dj : decide ((j : Int) < (j : Int)) = false := by simp
      have HC := Lib.hid (show chkI none l = 0 from by rw [← HR.out.2, List.drop_of_length_le (by rw [HN.out]; exact Nat.le_refl _)]; unfold chkI; rfl)
      have HB := Lib.hid HR.out.1
      clear HR
      go_wp2
      go_ret
      exact ⟨by rw [HC.out]; rfl, HB.out⟩
end Go.Proofs.YtcapbojjceeapaaDoor
