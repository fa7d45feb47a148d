/-
  What is proved here: which infos are valid, by the reference.
-/
import Derived.Test.YtcapbojjceeapaaDoorWIr
namespace Go.Proofs.YtcapbojjceeapaaDoor
open Go.RowKit
set_option maxRecDepth 8000
set_option linter.unusedVariables false
set_option linter.unusedSimpArgs false
theorem rone_ways (x : Im) (pm im : Int) (h2 : 2 ≤ x.p) (h6 : x.p ≤ 6) (hpm : pm = if pwB x.p = true then 31 else 0) (him : im = if x.p = 4 then 255 else 0) :
    (decide (x.v < 1) = true ∧ oneI x = 3) ∨ (decide (x.v < 1) = false ∧ decide (255 < x.v) = true ∧ oneI x = 3) ∨ (decide (x.v < 1) = false ∧ decide (255 < x.v) = false ∧ decide (x.a < 0) = true ∧ oneI x = 3) ∨
    (decide (x.v < 1) = false ∧ decide (255 < x.v) = false ∧ decide (x.a < 0) = false ∧ decide (pm < x.a) = true ∧ oneI x = 3) ∨ (decide (x.v < 1) = false ∧ decide (255 < x.v) = false ∧ decide (x.a < 0) = false ∧ decide (pm < x.a) = false ∧ decide (x.i < 0) = true ∧ oneI x = 3) ∨
    (decide (x.v < 1) = false ∧ decide (255 < x.v) = false ∧ decide (x.a < 0) = false ∧ decide (pm < x.a) = false ∧ decide (x.i < 0) = false ∧ decide (im < x.i) = true ∧ oneI x = 3) ∨
    (decide (x.v < 1) = false ∧ decide (255 < x.v) = false ∧ decide (x.a < 0) = false ∧ decide (pm < x.a) = false ∧ decide (x.i < 0) = false ∧ decide (im < x.i) = false ∧ ((keyB x = false ∧ oneI x = 10) ∨ (keyB x = true ∧ oneI x = 0))) := by
  have h12 : ¬ (x.p < 2 ∨ 6 < x.p) := by omega
  have hpar : parB x = (decide (0 ≤ x.a) && decide (x.a ≤ pm)) := by
    unfold parB
    rw [hpm]
    split
    · rfl
    · by_cases h : x.a = 0
      · simp [h]
      · by_cases h0 : 0 ≤ x.a
        · have : ¬ x.a ≤ 0 := by omega
          simp [h, h0, this]
        · simp [h, h0]
  have hkid : kidB x = (decide (0 ≤ x.i) && decide (x.i ≤ im)) := by
    unfold kidB
    rw [him]
    split
    · rfl
    · by_cases h : x.i = 0
      · simp [h]
      · by_cases h0 : 0 ≤ x.i
        · have : ¬ x.i ≤ 0 := by omega
          simp [h, h0, this]
        · simp [h, h0]
  unfold oneI rngI
  rw [if_neg h12, hpar, hkid]
  by_cases a1 : x.v < 1
  · have : ¬ 1 ≤ x.v := by omega
    left; simp [a1, this]
  have a1' : 1 ≤ x.v := by omega
  by_cases a2 : 255 < x.v
  · have : ¬ x.v ≤ 255 := by omega
    right; left; simp [a1, a2, this]
  have a2' : x.v ≤ 255 := by omega
  by_cases a3 : x.a < 0
  · have : ¬ 0 ≤ x.a := by omega
    right; right; left; simp [a1, a2, a3, this]
  have a3' : 0 ≤ x.a := by omega
  by_cases a4 : pm < x.a
  · have : ¬ x.a ≤ pm := by omega
    right; right; right; left; simp [a1, a2, a3, a4, this]
  have a4' : x.a ≤ pm := by omega
  by_cases a5 : x.i < 0
  · have : ¬ 0 ≤ x.i := by omega
    right; right; right; right; left; simp [a1, a2, a3, a4, a5, this]
  have a5' : 0 ≤ x.i := by omega
  by_cases a6 : im < x.i
  · have : ¬ x.i ≤ im := by omega
    right; right; right; right; right; left; simp [a1, a2, a3, a4, a5, a6, this]
  have a6' : x.i ≤ im := by omega
  right; right; right; right; right; right
  rcases keyB x with _ | _ <;> simp [a1, a2, a3, a4, a5, a6, a1', a2', a3', a4', a5', a6']
theorem rord_ways (x y : Im) : (decide (x.p < y.p) = true ∧ behB x y = false) ∨ (decide (x.p < y.p) = false ∧ (x.p == y.p) = false ∧ behB x y = true) ∨ (decide (x.p < y.p) = false ∧ (x.p == y.p) = true ∧ decide (x.i ≤ y.i) = true ∧ behB x y = false) ∨ (decide (x.p < y.p) = false ∧ (x.p == y.p) = true ∧ decide (x.i ≤ y.i) = false ∧ behB x y = true) := by
  unfold behB
  by_cases h : x.p < y.p
  · have a : ¬ y.p < x.p := by omega
    have b : ¬ x.p = y.p := by omega
    left; simp [h, a, b]
  · by_cases h2 : x.p = y.p
    · by_cases h3 : x.i ≤ y.i
      · have : ¬ y.i < x.i := by omega
        right; right; left; simp [h2, h3, this]
      · have : y.i < x.i := by omega
        right; right; right; simp [h2, h3, this]
    · have : y.p < x.p := by omega
      right; left; simp [h, h2, this]
def WayI (us : List Value) (b off j : Nat) (w : World) (x : Im) : Prop :=
  (∀ cur, Below w.heap.size w cur → cur.rangeAt b (off + j * 5) us) ∧ (∀ w, Calls Tryd.prog 39 #[.int .i64 x.k] w fun e w' => e = .returned (.bool (elB x.k)) ∧ w = w') ∧ us.length = 5 ∧ (∀ u ∈ us, u.oneCell' = true) ∧
  us[0]? = some (.int .i64 x.p) ∧ us[1]? = some (.int .i64 x.v) ∧ us[2]? = some (.int .i64 x.a) ∧ us[3]? = some (.int .i64 x.k) ∧ us[4]? = some (.int .i64 x.i)
theorem WayI.mk' {b off j : Nat} {w : World} (x : Im) (h : ∀ cur, Below w.heap.size w cur → cur.rangeAt b (off + j * 5) x.cs) : ∃ us, x.cs = us ∧ Hid (WayI us b off j w x) :=
  ⟨_, rfl, Lib.hid ⟨h, fun w => ref_element x.k w, rfl, x.cs_one, rfl, rfl, rfl, rfl, rfl⟩⟩
theorem kind_ways (x : Im) (h2 : 2 ≤ x.p) (h6 : x.p ≤ 6) : ∃ pm im : Int, pm = (if pwB x.p = true then 31 else 0) ∧ im = (if x.p = 4 then 255 else 0) ∧
    ((x.p = 2 ∧ pm = 31 ∧ im = 0 ∧ keyB x = (x.k == 0)) ∨ (x.p = 3 ∧ pm = 31 ∧ im = 0 ∧ keyB x = (x.k == 0)) ∨ (x.p = 4 ∧ pm = 0 ∧ im = 255 ∧ keyB x = elB x.k) ∨ (x.p = 5 ∧ pm = 0 ∧ im = 0 ∧ keyB x = (x.k == 0)) ∨ (x.p = 6 ∧ pm = 0 ∧ im = 0 ∧ keyB x = (x.k == 0))) := by
  refine ⟨_, _, rfl, rfl, ?_⟩
  have h : x.p = 2 ∨ x.p = 3 ∨ x.p = 4 ∨ x.p = 5 ∨ x.p = 6 := by omega
  unfold keyB
  rcases h with h | h | h | h | h <;> rw [h] <;> simp [pwB] <;> rfl
set_option maxHeartbeats 6400000 in
theorem r_ivalid (l : List Im) (n : Nat) (hn : l.length = n) (hm : n ≤ 140737488351232) (A : Option Addr) (c : Nat) (w : World) (hs : SeesP w (· < w.heap.size) A (Ics l)) :
    Calls Tryd.prog 14 #[.slice A n c] w fun e w' => e = .returned (.int .i64 (vaE l)) ∧ Below w.heap.size w w' := by
  by_cases h16 : 16 < n
  · have d16 : decide ((16 : Int) < (n : Int)) = true := by simp; omega
    have hv : vaE l = 2 := by unfold vaE; rw [if_pos (by omega)]
    rw [hv]
    clear hs hn hv h16
    go_enter Tryd.func14, Tryd.ntmps14
    go_wp2
    go_ret
    exact ⟨rfl, Below.refl _ _⟩
  have d16 : decide ((16 : Int) < (n : Int)) = false := by simp; omega
  have hv : vaE l = chkI none l := by unfold vaE; rw [if_neg (by omega)]
  rw [hv]
  have HS := Lib.hid hs
  have HN := Lib.hid hn
  have hn16 : n ≤ 16 := by omega
  clear hs hn hv h16
  go_enter Tryd.func14, Tryd.ntmps14
  go_wp2
  go_loopw [3] (fun i wr => ∃ (j : Nat), j ≤ n ∧ i = .int .i64 (j : Int) ∧ Hid (Below w.heap.size w wr ∧ chkI (preI l j) (l.drop j) = chkI none l)) (fun i _ => n - (intOf i).toNat)
  case atStart => exact ⟨0, by omega, rfl, Lib.hid ⟨Below.refl _ _, rfl⟩⟩
  case round =>
    obtain ⟨j, hj, rfl, HR⟩ := hrel
    by_cases hlt : j < n
    · have dj : decide ((j : Int) < (n : Int)) = true := by simp; omega
      obtain ⟨x, hx⟩ : ∃ x, l[j]? = some x := ⟨_, List.getElem?_eq_getElem (by rw [HN.out]; exact hlt)⟩
      obtain ⟨b, off, rfl, hb, hr⟩ := im_at HS.out hx
      obtain ⟨us, hus, HU⟩ := WayI.mk' (w := w) x (fun cur (h : Below w.heap.size w cur) => rangeAt_on hr hb h)
      have hstep := chkI_drop hx
      have HB := Lib.hid HR.out.1
      unfold WayI at HU
      clear hr hus
      by_cases q1 : x.p < 2
      · have d1 : decide (x.p < 2) = true := by simpa using q1
        have hone : oneI x = 14 := by unfold oneI; rw [if_pos (.inl q1)]
        have HC := Lib.hid (show chkI none l = 14 from by rw [← HR.out.2, hstep, hone, if_pos (by decide)])
        obtain ⟨xp, xv, xa, xk, xi⟩ := x
        simp only at HU d1
        clear hstep hx q1 hone
        go_wp2_with (first
          | ((with_reducible refine at_load_ (d := 19) ?_); refine wpList_load_mid rfl 44 (.tmp 18) rfl b (off + j * 5) rfl us _ (HU.out.1 _ HB.out) Tryd.underlying44 rfl (by rw [HU.out.2.2.1]; exact size_x) ?_)
          | ((with_reducible refine at_alloc_ (d := 4) ?_); refine wpList_alloc_v (op := ⟨some 4, _, _, _, _, _⟩) rfl 44 rfl zerX info_x ?_; intro g4 w4 hf hr; have HG := Lib.hid (show _ ∧ _ ∧ _ from ⟨hf.bl HB.out, hr, hf.ge HB.out⟩); clear hf hr)
          | ((with_reducible refine at_store_ (i := 4) ?_); refine wpList_store_v rfl 44 (.tmp 4) (.tmp 19) rfl g4 zerX us rfl rfl HG.out.2.1 HU.out.2.2.1 HU.out.2.2.2.1 (by rw [HU.out.2.2.1]; exact size_x) ?_; intro w5 hw hr; have HG5 := Lib.hid (show _ ∧ _ from ⟨Wr.bl HG.out.1 hw HG.out.2.2, hr⟩); have c0 := (hr.cell 0).trans HU.out.2.2.2.2.1; have c1 := (hr.cell 1).trans HU.out.2.2.2.2.2.1; have c2 := (hr.cell 2).trans HU.out.2.2.2.2.2.2.1; have c3 := (hr.cell 3).trans HU.out.2.2.2.2.2.2.2.1; have c4 := (hr.cell 4).trans HU.out.2.2.2.2.2.2.2.2; clear hw hr)
          | (go_at_call 39; ((with_reducible refine (HU.out.2.1 _).mono ?_); rintro e w6 ⟨rfl, rfl⟩)))
        go_ret
        exact ⟨by rw [HC.out]; rfl, HG5.out.1⟩
      by_cases q2 : 6 < x.p
      · have d1 : decide (x.p < 2) = false := by simpa using q1
        have d2 : decide (6 < x.p) = true := by simpa using q2
        have hone : oneI x = 14 := by unfold oneI; rw [if_pos (.inr q2)]
        have HC := Lib.hid (show chkI none l = 14 from by rw [← HR.out.2, hstep, hone, if_pos (by decide)])
        obtain ⟨xp, xv, xa, xk, xi⟩ := x
        simp only at HU d1 d2
        clear hstep hx q1 hone q2
        go_wp2_with (first
          | ((with_reducible refine at_load_ (d := 19) ?_); refine wpList_load_mid rfl 44 (.tmp 18) rfl b (off + j * 5) rfl us _ (HU.out.1 _ HB.out) Tryd.underlying44 rfl (by rw [HU.out.2.2.1]; exact size_x) ?_)
          | ((with_reducible refine at_alloc_ (d := 4) ?_); refine wpList_alloc_v (op := ⟨some 4, _, _, _, _, _⟩) rfl 44 rfl zerX info_x ?_; intro g4 w4 hf hr; have HG := Lib.hid (show _ ∧ _ ∧ _ from ⟨hf.bl HB.out, hr, hf.ge HB.out⟩); clear hf hr)
          | ((with_reducible refine at_store_ (i := 4) ?_); refine wpList_store_v rfl 44 (.tmp 4) (.tmp 19) rfl g4 zerX us rfl rfl HG.out.2.1 HU.out.2.2.1 HU.out.2.2.2.1 (by rw [HU.out.2.2.1]; exact size_x) ?_; intro w5 hw hr; have HG5 := Lib.hid (show _ ∧ _ from ⟨Wr.bl HG.out.1 hw HG.out.2.2, hr⟩); have c0 := (hr.cell 0).trans HU.out.2.2.2.2.1; have c1 := (hr.cell 1).trans HU.out.2.2.2.2.2.1; have c2 := (hr.cell 2).trans HU.out.2.2.2.2.2.2.1; have c3 := (hr.cell 3).trans HU.out.2.2.2.2.2.2.2.1; have c4 := (hr.cell 4).trans HU.out.2.2.2.2.2.2.2.2; clear hw hr)
          | (go_at_call 39; ((with_reducible refine (HU.out.2.1 _).mono ?_); rintro e w6 ⟨rfl, rfl⟩)))
        go_ret
        exact ⟨by rw [HC.out]; rfl, HG5.out.1⟩
      obtain ⟨pm, im, hpm, him, hkind⟩ := kind_ways x (by omega) (by omega)
      have hways := rone_ways x pm im (by omega) (by omega) hpm him
      clear hpm him q1 q2
      by_cases h0 : oneI x = 0
      · rw [if_neg (fun h => h h0)] at hstep
        rw [h0] at hways
        simp only [show ¬ ((0 : Int) = 3) by decide, show ¬ ((0 : Int) = 10) by decide, and_false, false_or, and_true] at hways
        obtain ⟨d1, d2, d3, d4, d5, d6, hkey⟩ := hways
        by_cases hj0 : j = 0
        · have hpre : preI l j = none := by unfold preI; rw [if_pos hj0]
          have dj0 : decide (0 < j) = false := by simp; omega
          have HC := Lib.hid (show chkI (preI l (j + 1)) (l.drop (j + 1)) = chkI none l from by rw [← HR.out.2, hstep, hpre]; rfl)
          obtain ⟨xp, xv, xa, xk, xi⟩ := x
          simp only at HU d1 d2 d3 d4 d5 d6 hkind
          clear hstep hx hpre hj0 h0
          rcases hkind with ⟨rfl, rfl, rfl, hk⟩ | ⟨rfl, rfl, rfl, hk⟩ | ⟨rfl, rfl, rfl, hk⟩ | ⟨rfl, rfl, rfl, hk⟩ | ⟨rfl, rfl, rfl, hk⟩
          all_goals
            rw [hk] at hkey
            first
              | (have dk : (xk != 0) = false := by simpa using hkey)
              | (have dk : elB xk = true := hkey; rw [dk] at HU)
            clear hkey hk
            go_wp2_with (first
              | ((with_reducible refine at_load_ (d := 19) ?_); refine wpList_load_mid rfl 44 (.tmp 18) rfl b (off + j * 5) rfl us _ (HU.out.1 _ HB.out) Tryd.underlying44 rfl (by rw [HU.out.2.2.1]; exact size_x) ?_)
              | ((with_reducible refine at_alloc_ (d := 4) ?_); refine wpList_alloc_v (op := ⟨some 4, _, _, _, _, _⟩) rfl 44 rfl zerX info_x ?_; intro g4 w4 hf hr; have HG := Lib.hid (show _ ∧ _ ∧ _ from ⟨hf.bl HB.out, hr, hf.ge HB.out⟩); clear hf hr)
              | ((with_reducible refine at_store_ (i := 4) ?_); refine wpList_store_v rfl 44 (.tmp 4) (.tmp 19) rfl g4 zerX us rfl rfl HG.out.2.1 HU.out.2.2.1 HU.out.2.2.2.1 (by rw [HU.out.2.2.1]; exact size_x) ?_; intro w5 hw hr; have HG5 := Lib.hid (show _ ∧ _ from ⟨Wr.bl HG.out.1 hw HG.out.2.2, hr⟩); have c0 := (hr.cell 0).trans HU.out.2.2.2.2.1; have c1 := (hr.cell 1).trans HU.out.2.2.2.2.2.1; have c2 := (hr.cell 2).trans HU.out.2.2.2.2.2.2.1; have c3 := (hr.cell 3).trans HU.out.2.2.2.2.2.2.2.1; have c4 := (hr.cell 4).trans HU.out.2.2.2.2.2.2.2.2; clear hw hr)
              | (go_at_call 39; ((with_reducible refine (HU.out.2.1 _).mono ?_); rintro e w6 ⟨rfl, rfl⟩)))
            refine wp_region_quiet_below (by kernel_rfl) (by kernel_rfl) ?_
            repeat (first | go_big_quiet_skip | (go_big_quiet_want; go_big_quiet_op; go_big_quiet_on))
            refine wpQuiet_nil ?_
            intro w7 hw7
            have H7 := Lib.hid (below_on HG5.out.1 (below_of_regrown hw7))
            clear hw7
            go_wp2
            go_roundw
            case rel => exact ⟨j + 1, by omega, by first | rfl | go_num, Lib.hid ⟨H7.out, HC.out⟩⟩
            case measure => simp [intOf]; omega
        · obtain ⟨y, hy⟩ : ∃ y, l[j - 1]? = some y := ⟨_, List.getElem?_eq_getElem (by rw [HN.out]; omega)⟩
          have hpre : preI l j = some y := by unfold preI; rw [if_neg hj0]; exact hy
          obtain ⟨b', off', e2, hb', hrr⟩ := im_at HS.out hy
          cases e2
          have hr3 := fun cur (h : Below w.heap.size w cur) => rangeAt_on hrr hb' h
          have hR2 : chkI (some y) (l.drop j) = chkI none l := by rw [← hpre]; exact HR.out.2
          rw [hpre] at hstep
          have hbw := rord_ways x y
          obtain ⟨bb, hbb⟩ : ∃ q, behB x y = q := ⟨_, rfl⟩
          have hord : ordB x (some y) = bb := hbb
          rw [hord] at hstep
          rw [hbb] at hbw
          obtain ⟨k, hk0⟩ : ∃ k, j - 1 = k := ⟨_, rfl⟩
          have ej : wrap64 ((j : Int) - 1) = (k : Int) := by unfold wrap64; omega
          have hkn : k < n := by omega
          rw [hk0] at hr3
          have dj0 : decide (0 < j) = true := by simp; omega
          have HY := Lib.hid (show (∀ cur, Below w.heap.size w cur → cur.cell? ⟨b, off + k * 5, none⟩ = some (.int .i64 y.p)) ∧ (∀ cur, Below w.heap.size w cur → cur.cell? ⟨b, off + k * 5 + 4, none⟩ = some (.int .i64 y.i)) from ⟨fun cur h => hr3 cur h 0 _ rfl, fun cur h => hr3 cur h 4 _ rfl⟩)
          obtain ⟨xp, xv, xa, xk, xi⟩ := x
          obtain ⟨yp, yv, ya, yk, yi⟩ := y
          simp only at HU HY d1 d2 d3 d4 d5 d6 hkind hbw
          have HST := Lib.hid (show _ ∧ _ from ⟨hstep, hR2⟩)
          clear hr3 hrr hpre hord hbb hx hy hstep hR2 h0 hb'
          rcases hkind with ⟨rfl, rfl, rfl, hk⟩ | ⟨rfl, rfl, rfl, hk⟩ | ⟨rfl, rfl, rfl, hk⟩ | ⟨rfl, rfl, rfl, hk⟩ | ⟨rfl, rfl, rfl, hk⟩
          all_goals
            rw [hk] at hkey
            first
              | (have dk : (xk != 0) = false := by simpa using hkey)
              | (have dk : elB xk = true := hkey; rw [dk] at HU)
            clear hkey hk
            go_wp2_with (first
              | ((with_reducible refine at_load_ (d := 19) ?_); refine wpList_load_mid rfl 44 (.tmp 18) rfl b (off + j * 5) rfl us _ (HU.out.1 _ HB.out) Tryd.underlying44 rfl (by rw [HU.out.2.2.1]; exact size_x) ?_)
              | ((with_reducible refine at_alloc_ (d := 4) ?_); refine wpList_alloc_v (op := ⟨some 4, _, _, _, _, _⟩) rfl 44 rfl zerX info_x ?_; intro g4 w4 hf hr; have HG := Lib.hid (show _ ∧ _ ∧ _ from ⟨hf.bl HB.out, hr, hf.ge HB.out⟩); clear hf hr)
              | ((with_reducible refine at_store_ (i := 4) ?_); refine wpList_store_v rfl 44 (.tmp 4) (.tmp 19) rfl g4 zerX us rfl rfl HG.out.2.1 HU.out.2.2.1 HU.out.2.2.2.1 (by rw [HU.out.2.2.1]; exact size_x) ?_; intro w5 hw hr; have HG5 := Lib.hid (show _ ∧ _ from ⟨Wr.bl HG.out.1 hw HG.out.2.2, hr⟩); have c0 := (hr.cell 0).trans HU.out.2.2.2.2.1; have c1 := (hr.cell 1).trans HU.out.2.2.2.2.2.1; have c2 := (hr.cell 2).trans HU.out.2.2.2.2.2.2.1; have c3 := (hr.cell 3).trans HU.out.2.2.2.2.2.2.2.1; have c4 := (hr.cell 4).trans HU.out.2.2.2.2.2.2.2.2; clear hw hr)
              | (go_at_call 39; ((with_reducible refine (HU.out.2.1 _).mono ?_); rintro e w6 ⟨rfl, rfl⟩)))
            have H5 := Lib.hid (show _ ∧ _ ∧ _ ∧ _ from ⟨fun d os => HG5.out.2.quiet (k := 0) HU.out.2.2.2.2.1 d os, fun d os => HG5.out.2.quiet (k := 4) HU.out.2.2.2.2.2.2.2.2 d os, cell_up (w := w5) fun w' hb => HY.out.1 _ (below_on HG5.out.1 hb), cell_up (w := w5) fun w' hb => HY.out.2 _ (below_on HG5.out.1 hb)⟩)
            have l0 := H5.out.1
            have l4 := H5.out.2.1
            have m0 := H5.out.2.2.1
            have m4 := H5.out.2.2.2
            clear c0 c1 c2 c3 c4
            have ixk := fun w => ix_x b off n c k hkn w
            rcases hbw with ⟨e1, rfl⟩ | ⟨e1, e2, rfl⟩ | ⟨e1, e2, e3, rfl⟩ | ⟨e1, e2, e3, rfl⟩
            all_goals
              refine wp_region_quiet_below (by kernel_rfl) (by kernel_rfl) ?_
              repeat (first | go_big_quiet_skip | (go_big_quiet_want; go_big_quiet_op; go_big_quiet_on))
              refine wpQuiet_nil ?_
              intro w7 hw7
              have H7 := Lib.hid (below_on HG5.out.1 (below_of_regrown hw7))
              clear hw7 l0 l4 m0 m4 ixk
              go_wp2
              first
                | (go_ret; exact ⟨by rw [show chkI none l = 17 from by rw [← HST.out.2, HST.out.1]; rfl]; rfl, H7.out⟩)
                | (go_roundw
                   case rel => exact ⟨j + 1, by omega, by first | rfl | go_num, Lib.hid ⟨H7.out, by rw [← HST.out.2, HST.out.1]; rfl⟩⟩
                   case measure => simp [intOf]; omega)
      · rw [if_pos h0] at hstep
        obtain ⟨v, hv⟩ : ∃ v, oneI x = v := ⟨_, rfl⟩
        have HC := Lib.hid (show chkI none l = v from by rw [← HR.out.2, hstep, hv])
        rw [hv] at hways h0
        obtain ⟨xp, xv, xa, xk, xi⟩ := x
        simp only at HU hways hkind
        clear hstep hx hv
        rcases hkind with ⟨rfl, rfl, rfl, hk⟩ | ⟨rfl, rfl, rfl, hk⟩ | ⟨rfl, rfl, rfl, hk⟩ | ⟨rfl, rfl, rfl, hk⟩ | ⟨rfl, rfl, rfl, hk⟩
        all_goals
          rw [hk] at hways
          rcases hways with ⟨d1, rfl⟩ | ⟨d1, d2, rfl⟩ | ⟨d1, d2, d3, rfl⟩ | ⟨d1, d2, d3, d4, rfl⟩ | ⟨d1, d2, d3, d4, d5, rfl⟩ | ⟨d1, d2, d3, d4, d5, d6, rfl⟩ | ⟨d1, d2, d3, d4, d5, d6, ⟨hkey, rfl⟩ | ⟨_, rfl⟩⟩
          all_goals first
            | exact absurd rfl h0
            | (first
                | (have dk : (xk != 0) = true := by simpa using hkey)
                | (have dk : elB xk = false := hkey; rw [dk] at HU)
                | skip
               clear hk h0
               go_wp2_with (first
                 | ((with_reducible refine at_load_ (d := 19) ?_); refine wpList_load_mid rfl 44 (.tmp 18) rfl b (off + j * 5) rfl us _ (HU.out.1 _ HB.out) Tryd.underlying44 rfl (by rw [HU.out.2.2.1]; exact size_x) ?_)
                 | ((with_reducible refine at_alloc_ (d := 4) ?_); refine wpList_alloc_v (op := ⟨some 4, _, _, _, _, _⟩) rfl 44 rfl zerX info_x ?_; intro g4 w4 hf hr; have HG := Lib.hid (show _ ∧ _ ∧ _ from ⟨hf.bl HB.out, hr, hf.ge HB.out⟩); clear hf hr)
                 | ((with_reducible refine at_store_ (i := 4) ?_); refine wpList_store_v rfl 44 (.tmp 4) (.tmp 19) rfl g4 zerX us rfl rfl HG.out.2.1 HU.out.2.2.1 HU.out.2.2.2.1 (by rw [HU.out.2.2.1]; exact size_x) ?_; intro w5 hw hr; have HG5 := Lib.hid (show _ ∧ _ from ⟨Wr.bl HG.out.1 hw HG.out.2.2, hr⟩); have c0 := (hr.cell 0).trans HU.out.2.2.2.2.1; have c1 := (hr.cell 1).trans HU.out.2.2.2.2.2.1; have c2 := (hr.cell 2).trans HU.out.2.2.2.2.2.2.1; have c3 := (hr.cell 3).trans HU.out.2.2.2.2.2.2.2.1; have c4 := (hr.cell 4).trans HU.out.2.2.2.2.2.2.2.2; clear hw hr)
                 | (go_at_call 39; ((with_reducible refine (HU.out.2.1 _).mono ?_); rintro e w6 ⟨rfl, rfl⟩)))
               go_ret
               exact ⟨by rw [HC.out]; rfl, HG5.out.1⟩)
    · obtain rfl : j = n := by omega
      have dj : decide ((j : Int) < (j : Int)) = false := by simp
      have HC := Lib.hid (show chkI none l = 0 from by rw [← HR.out.2, List.drop_of_length_le (by rw [HN.out]; exact Nat.le_refl _)]; unfold chkI; rfl)
      have HB := Lib.hid HR.out.1
      clear HR
      go_wp2
      go_ret
      exact ⟨by rw [HC.out]; rfl, HB.out⟩
end Go.Proofs.YtcapbojjceeapaaDoor
