/-
  What is proved here: the program's Decode.
-/
import Derived.Test.YtobbnedojmcgoaaBe
namespace Go.Proofs.Ytobbnedojmcgoaa
open Go.RowKit
set_option linter.unusedVariables false
set_option linter.unusedSimpArgs false

theorem lstT_not1 {f : F} (h : f.len ≠ 1) : lstT f = none := by
  match f with
  | .nil => rfl
  | .cons t v k r => exact lst_none (.inr (.inr (by intro h2; apply h; simp [F.len, h2])))
set_option maxHeartbeats 12800000 in
set_option maxRecDepth 20000 in
theorem p_open_list (f : F) (n : Nat) (hn : f.len = n) (hok : f.ok) (A : Option Addr) (c : Nat) (w : World) (hs : SeesN w (· < w.heap.size) A f) :
    Calls Try.prog 35 #[.slice A n c] w (LstIs (lstT f) w) := by
  by_cases hn1 : n = 1
  · subst hn1
    obtain ⟨t, v, k, rfl⟩ : ∃ t v k, f = .cons t v k .nil := by
      match f, hn with
      | .cons a b d .nil, _ => exact ⟨a, b, d, rfl⟩
      | .cons a b d (.cons _ _ _ _), h => simp [F.len] at h
    obtain ⟨lb, lo, Av, cv, Ak, ck, rfl, hlb, hlr, _, _, hkc, _, hk⟩ := node_atN (j := 0) hs rfl
    rw [Nat.zero_mul, Nat.add_zero] at hlr
    obtain ⟨vn, hvn⟩ : ∃ n, v.length = n := ⟨_, rfl⟩
    obtain ⟨lk, hlk⟩ : ∃ n, k.len = n := ⟨_, rfl⟩
    rw [hvn, hlk] at hlr
    rw [hlk] at hkc
    have hF := fun w => p_has_form t 32609 true (by decide) (by decide) (by decide) Av vn cv Ak lk ck w
    obtain ⟨us, hus⟩ : ∃ us, nodV t Av vn cv Ak lk ck = us := ⟨_, rfl⟩
    have hu2 : us[2]? = some (.slice Ak lk ck) := by rw [← hus]; rfl
    obtain ⟨g, hg⟩ : ∃ q, formB t 32609 true vn lk = q := ⟨_, rfl⟩
    have hgt : g = true ↔ (t = 32609 ∧ v.length = 0) := by rw [← hg, hvn]; simp [formB]
    have husz : (Try.prog.info? 53).map (·.size) = some us.length := by rw [← hus]; exact size_n
    rw [hus] at hlr hF
    rw [hg] at hF
    have hr2 := fun cur (h : Below w.heap.size w cur) => rangeAt_on hlr hlb h
    have hr3 := fun cur (h : Below w.heap.size w cur) => (rangeAt_on hlr hlb h) 2 _ hu2
    have HU := Lib.hid (show _ ∧ _ ∧ _ ∧ _ from ⟨hr2, husz, hF, hr3⟩)
    have HB := Lib.hid (Below.refl w.heap.size w)
    clear hlr hF hr2 hus husz hu2 hr3 hg hvn
    rcases g with _ | _
    · have HD := Lib.hid (lst_none (t := t) (v := v) (k := k) (r := .nil) (.inl fun h => Bool.noConfusion (hgt.2 h)))
      clear hgt hs hn hok hkc hlk hk hlb
      go_enter Try.func35, Try.ntmps35
      go_wp2_with (first
        | ((with_reducible refine at_load_ (d := 18) ?_); go_must (refine wpList_load_midg (by rfl) 53 (.tmp 17) rfl lb lo rfl us _ (HU.out.1 _ HB.out) Try.underlying53 rfl HU.out.2.1 ?_))
        | (go_at_call 45; ((with_reducible refine (HU.out.2.2.1 _).mono ?_); rintro e w1 ⟨rfl, hb⟩); have H1 := Lib.hid hb; clear hb))
      go_ret2
      exact LstIs.bad HD.out H1.out
    by_cases h0 : lk = 0
    · have HD := Lib.hid (lst_none (t := t) (v := v) (k := k) (r := .nil) (.inr (.inl (by rw [hlk]; exact h0))))
      subst h0
      clear hgt hs hn hok hkc hlk hk hlb
      go_enter Try.func35, Try.ntmps35
      go_wp2_with (first
        | ((with_reducible refine at_load_ (d := 18) ?_); go_must (refine wpList_load_midg (by rfl) 53 (.tmp 17) rfl lb lo rfl us _ (HU.out.1 _ HB.out) Try.underlying53 rfl HU.out.2.1 ?_))
        | (go_at_call 45; ((with_reducible refine (HU.out.2.2.1 _).mono ?_); rintro e w1 ⟨rfl, hb⟩); have H1 := Lib.hid hb; have c1 := HU.out.2.2.2 w1 hb; clear hb))
      go_ret2
      exact LstIs.bad HD.out H1.out
    obtain ⟨tc, vc, kc, r, rfl⟩ : ∃ tc vc kc r, k = .cons tc vc kc r := by
      match k with
      | .nil => exact absurd hlk.symm h0
      | .cons a b d e => exact ⟨a, b, d, e, rfl⟩
    obtain ⟨q, hq⟩ : ∃ q, r.len = q := ⟨_, rfl⟩
    obtain ⟨cq, hcq⟩ : ∃ m, ck - 1 = m := ⟨_, rfl⟩
    have hlkq : lk = q + 1 := by rw [← hlk, ← hq]; rfl
    obtain ⟨kb, ko, A1, c1, B1, d1, rfl, hkb, hkr, _, _, _, hvs, _⟩ := node_atN (j := 0) hk rfl
    rw [Nat.zero_mul, Nat.add_zero] at hkr
    obtain ⟨A5, hsl, hA5⟩ := sl_tail kb ko lk ck (by omega) hkc
    rw [hcq, show lk - 1 = q by omega] at hsl
    have hrs : SeesN w (· < w.heap.size) A5 r := by
      rcases hA5 with rfl | h
      · exact hk.tail
      · have : r = .nil := F.len_zero (by omega)
        subst this; exact SeesN.nil_
    obtain ⟨nc, hnc⟩ : ∃ n, vc.length = n := ⟨_, rfl⟩
    have hO : ∀ cur, Below w.heap.size w cur → Calls Try.prog 46 #[.agg (nodV tc A1 nc c1 B1 kc.len d1).toArray, .int .i64 2, .int .i64 1] cur fun e w' => e = .returned (.tuple #[.int .i64 ((onV tc vc kc.len 2 1 : Nat) : Int), .bool (onB tc vc kc.len 2 1)]) ∧ Below cur.heap.size cur w' :=
      fun cur h => p_open_num tc 2 (by decide) (by decide) (by decide) vc nc 1 hnc (by decide) A1 c1 B1 kc.len d1 cur (SeesP.on2 hvs h)
    rw [hnc] at hkr
    obtain ⟨n1, hn1⟩ : ∃ z, nodV tc A1 nc c1 B1 kc.len d1 = z := ⟨_, rfl⟩
    have hn3 : (Try.prog.info? 53).map (·.size) = some n1.length := by rw [← hn1]; exact size_n
    have hn4 : n1.length = zerN.length := by rw [← hn1]; rfl
    have hn5 : ∀ u ∈ n1, u.oneCell' = true := by rw [← hn1]; exact nodV_one _ _ _ _ _ _ _
    rw [hn1] at hkr hO
    obtain ⟨ok, hokk⟩ : ∃ z, onB tc vc kc.len 2 1 = z := ⟨_, rfl⟩
    obtain ⟨m, hm⟩ : ∃ z, onV tc vc kc.len 2 1 = z := ⟨_, rfl⟩
    rw [hokk, hm] at hO
    have hlst : lstT (.cons t v (.cons tc vc kc r) .nil) = if ok = true ∧ m = q then tmsT r else none := by
      have h2 := hgt.1 rfl
      show (if t = 32609 ∧ v.length = 0 ∧ tc = 2 ∧ kc.len = 0 ∧ vc.length = 1 ∧ numL vc = r.len then tmsT r else none) = _
      by_cases h3 : ok = true
      · have h4 := onB_iff.1 (hokk.trans h3)
        have h5 : m = numL vc := by rw [← hm]; unfold onV; rw [hokk, h3]; rfl
        by_cases h6 : m = q
        · rw [if_pos ⟨h2.1, h2.2, h4.1, h4.2.1, h4.2.2, by rw [← h5, h6, hq]⟩, if_pos ⟨h3, h6⟩]
        · rw [if_neg (fun h => h6 (by rw [h5, h.2.2.2.2.2, hq])), if_neg (fun h => h6 h.2)]
      · rw [if_neg (fun h => h3 (hokk.symm.trans (onB_iff.2 ⟨h.2.2.1, h.2.2.2.1, h.2.2.2.2.1⟩))), if_neg (fun h => h3 h.1)]
    have hm255 : ok = true → m ≤ 255 := fun h => by
      have h4 := onB_iff.1 (hokk.trans h)
      have h5 : m = numL vc := by rw [← hm]; unfold onV; rw [hokk, h]; rfl
      have h6 := numL_lt vc 1 (by omega)
      rw [List.take_of_length_le (by omega)] at h6
      omega
    obtain ⟨R, hR⟩ : ∃ R, (if ok = true ∧ m = q then tmsT r else none) = R := ⟨_, rfl⟩
    rw [hlst, hR]
    have hr2 := fun cur (h : Below w.heap.size w cur) => rangeAt_on hkr hkb h
    have HK := Lib.hid (show (∀ cur, Below w.heap.size w cur → cur.cell? ⟨lb, lo + 2, none⟩ = some (.slice (some ⟨kb, ko, none⟩) lk ck)) ∧ _ ∧ _ from ⟨HU.out.2.2.2, hr2, hO⟩)
    have HN1 := Lib.hid (show _ ∧ _ ∧ _ from ⟨hn3, hn4, hn5⟩)
    have HSL := Lib.hid hsl
    have HR := Lib.hid hR
    have HRS := Lib.hid (show _ ∧ _ ∧ r.ok from ⟨hrs, hq, hok.2.2.1.2.2.2⟩)
    have HM := Lib.hid hm255
    have hlk0 : 0 < lk := by omega
    have d0 : ((lk : Int) == 0) = false := by simp; omega
    clear hgt hs hn hok hkc hlk hk hlb h0 hcq hlkq hkb hkr hvs hsl hA5 hrs hO hn1 hn3 hn4 hn5 hokk hm hlst hm255 hR hr2 hnc
    go_enter Try.func35, Try.ntmps35
    go_wp2_with (first
      | ((with_reducible refine at_load_ (d := 18) ?_); go_must (refine wpList_load_midg (by rfl) 53 (.tmp 17) rfl lb lo rfl us _ (HU.out.1 _ HB.out) Try.underlying53 rfl HU.out.2.1 ?_))
      | (go_at_call 45; ((with_reducible refine (HU.out.2.2.1 _).mono ?_); rintro e w1 ⟨rfl, hb⟩); have H1 := Lib.hid hb; have c1 := HU.out.2.2.2 w1 hb; clear hb))
    refine region_setX2 (by kernel_rfl) _ (olV [.slice (some ⟨lb, lo, none⟩) 1 c, .pointer (some ⟨lb, lo, none⟩), .pointer (some ⟨lb, lo + 2, none⟩), .slice (some ⟨kb, ko, none⟩) lk ck, .pointer (some ⟨kb, ko, none⟩), .agg n1.toArray, .slice (some ⟨lb, lo, none⟩) 1 c, .pointer (some ⟨lb, lo, none⟩), .pointer (some ⟨lb, lo + 2, none⟩), .slice (some ⟨kb, ko, none⟩) lk ck, .slice A5 q cq, undef, undef, .slice A5 q cq]) (OlW w1 n1) (by kernel_rfl) 0 ⟨below_drewN _ _ 1, fun h => by cases h⟩ ?_ ?_
    · refine ops_all (allI.cons ?_ (allI.cons ?_ (allI.cons ?_ (allI.cons ?_ (allI.cons ?_ (allI.cons ?_ (allI.cons ?_ (allI.cons ?_ (allI.cons ?_ (allI.cons ?_ (allI.cons ?_ (allI.cons ?_ (allI.cons ?_ (allI.cons ?_ allI.nil)))))))))))))) <;> intro b S c2 a hW hSi hdep hS hC
      · exact o_mv _ rfl (hS.old 0 rfl) ⟨b, fun _ _ => rfl, rfl, hW.keep (by decide) (by decide)⟩
      · exact o_ix _ (.tmp 30) (.const (.int .i64 0)) rfl (hS.get 0 (dep_at hdep 0 rfl) rfl rfl) rfl (ix_nod0 lb lo 1 c (by decide) _) ⟨b, fun _ _ => rfl, rfl, hW.keep (by decide) (by decide)⟩
      · exact o_fa _ (.tmp 31) 2 rfl (hS.get 1 (dep_at hdep 1 rfl) rfl rfl) (fa_nO lb lo _) ⟨b, fun _ _ => rfl, rfl, hW.keep (by decide) (by decide)⟩
      · exact o_ld _ (.tmp 32) rfl (hS.get 2 (dep_at hdep 2 rfl) rfl rfl) (HK.out.1 _ (below_on H1.out hW.1)) ag_ns ⟨b, fun _ _ => rfl, rfl, hW.keep (by decide) (by decide)⟩
      · exact o_ix _ (.tmp 33) (.const (.int .i64 0)) rfl (hS.get 3 (dep_at hdep 3 rfl) rfl rfl) rfl (ix_nod0 kb ko lk ck hlk0 _) ⟨b, fun _ _ => rfl, rfl, hW.keep (by decide) (by decide)⟩
      · exact wp_load_mid 53 (.tmp 34) rfl kb ko (hS.get 4 (dep_at hdep 4 rfl) rfl rfl) n1 _ (HK.out.2.1 _ (below_on H1.out hW.1)) Try.underlying53 rfl HN1.out.1 ⟨b, fun _ _ => rfl, rfl, hW.keep (by decide) (by decide)⟩
      · exact o_mv _ rfl (hS.old 0 rfl) ⟨b, fun _ _ => rfl, rfl, hW.keep (by decide) (by decide)⟩
      · exact o_ix _ (.tmp 36) (.const (.int .i64 0)) rfl (hS.get 6 (dep_at hdep 6 rfl) rfl rfl) rfl (ix_nod0 lb lo 1 c (by decide) _) ⟨b, fun _ _ => rfl, rfl, hW.keep (by decide) (by decide)⟩
      · exact o_fa _ (.tmp 37) 2 rfl (hS.get 7 (dep_at hdep 7 rfl) rfl rfl) (fa_nO lb lo _) ⟨b, fun _ _ => rfl, rfl, hW.keep (by decide) (by decide)⟩
      · exact o_ld _ (.tmp 38) rfl (hS.get 8 (dep_at hdep 8 rfl) rfl rfl) (HK.out.1 _ (below_on H1.out hW.1)) ag_ns ⟨b, fun _ _ => rfl, rfl, hW.keep (by decide) (by decide)⟩
      · exact o_sl _ (.tmp 39) (some (.const (.int .i64 1))) none none rfl (hS.get 9 (dep_at hdep 9 rfl) rfl rfl) rfl rfl rfl (HSL.out _) ⟨b, fun _ _ => rfl, rfl, hW.keep (by decide) (by decide)⟩
      · refine wp_alloc_v (op := ⟨some 4, _, _, _, _, _⟩) 53 rfl zerN info_n ?_
        intro g w' hf hr
        refine ⟨g, fun j hj => ?_, rfl, below_on hW.1 hf.bw, fun _ => ⟨hf.ge hW.1, ?_⟩⟩
        · have : j ≠ 11 := by rintro rfl; rw [hSi] at hj; cases hj
          simp [olV, this]
        · have h12 : S 12 = false := by
            rcases hq : S 12 with _ | _
            · rfl
            · have := dep_at (hC 12 _ rfl hq) 11 rfl
              rw [hSi] at this; cases this
          simpa [h12] using hr
      · obtain ⟨h1, h2⟩ := hW.2 (dep_at hdep 11 rfl)
        rw [hSi] at h2
        refine wp_store_v 53 (.tmp 4) (.tmp 35) rfl b zerN n1 (hS.get 11 (dep_at hdep 11 rfl) rfl rfl) (hS.get 5 (dep_at hdep 5 rfl) rfl rfl) h2 HN1.out.2.1 HN1.out.2.2 HN1.out.1 ?_
        intro w' hw hr
        exact ⟨b, fun _ _ => rfl, rfl, Wr.bl hW.1 hw h1, fun _ => ⟨h1, by simpa using hr⟩⟩
      · exact o_as _ rfl (hS.get 10 (dep_at hdep 10 rfl) rfl rfl) ⟨b, fun _ _ => rfl, rfl, hW.keep (by decide) (by decide)⟩
    · intro g4 w2 S hall hW
      have H2 := Lib.hid (show Below w.heap.size w w2 ∧ RowV w2 g4 n1 from ⟨below_on H1.out hW.1, by
        have h := (hW.2 (hall 11 (by decide))).2
        rw [hall 12 (by decide)] at h
        exact h⟩)
      clear hall hW c1
      simp only [putAll, Act.put, olV]
      simp
      rcases ok with _ | _
      · have HD := Lib.hid (show R = none from by rw [← HR.out]; rfl)
        go_wp2_with (first
        | ((with_reducible refine at_load_ (d := 42) ?_); go_must (refine wpList_load_v rfl 53 (.tmp 4) rfl g4 rfl n1 _ H2.out.2 Try.underlying53 rfl HN1.out.1 ?_))
        | (go_at_call 46; ((with_reducible refine (HK.out.2.2 _ H2.out.1).mono ?_); rintro e w3 ⟨rfl, hb⟩); have H3 := Lib.hid (below_on H2.out.1 hb); clear hb))
        go_ret2
        exact LstIs.bad HD.out H3.out
      by_cases hmq : m = q
      · subst hmq
        have HE := Lib.hid (show R = tmsT r from by rw [← HR.out]; simp)
        have hm5 := HM.out rfl
        have dm : ((m : Int) != (m : Int)) = false := by simp
        obtain ⟨i0, hi, hz0, hz1, hz2⟩ := info_parts info_tb
        go_wp2_with (first
        | ((with_reducible refine at_load_ (d := 42) ?_); go_must (refine wpList_load_v rfl 53 (.tmp 4) rfl g4 rfl n1 _ H2.out.2 Try.underlying53 rfl HN1.out.1 ?_))
        | (go_at_call 46; ((with_reducible refine (HK.out.2.2 _ H2.out.1).mono ?_); rintro e w3 ⟨rfl, hb⟩); have H3 := Lib.hid (below_on H2.out.1 hb); clear hb)
          | (at_make; go_must (refine wpList_make_full _ rfl _ _ 22 rfl w3.heap.size 27 i0 (.agg zerT.toArray) 7 Try.underlying22 hi hz0 hz1 _ _ _ _ m rfl rfl (by simp) (by simp) (by rw [hz2]; omega) (by unfold maxLen; omega) (Nat.le_refl _) ?_); intro w4 hown hgrow; have H4 := Lib.hid (show _ ∧ _ from ⟨own_rowV hown, grown_new hgrow⟩); clear hown hgrow))
        obtain ⟨gT, hgT⟩ : ∃ g, w3.heap.size = g := ⟨_, rfl⟩
        rw [hgT] at H4 ⊢
        obtain ⟨zs, hzs⟩ : ∃ z, (madeCells (Value.cells (.agg zerT.toArray)) (m * 7)).toList = z := ⟨_, rfl⟩
        rw [hzs] at H4
        have HGT := Lib.hid hgT
        have HI := Lib.hid (show RowT w w4 gT m zs [] ∧ Below w.heap.size w w4 from ⟨⟨H4.out.1.1, H4.out.1.2.2, by rw [← hgT]; exact H3.out.size, fun k x h => by simp at h⟩, below_on H3.out (by have h := H4.out.2; rw [← hgT] at h; exact h)⟩)
        clear hgT hzs H2 H4
        go_loopw [59] (fun i wr => ∃ (j : Nat), j ≤ m ∧ i = .int .i64 (j : Int) ∧ Hid (∃ vs L, L.length = j ∧ RowT w wr gT m vs L ∧ Below w.heap.size w wr ∧ tmsT r = (tmsT (r.drop j)).map (L ++ ·))) (fun i _ => m - (intOf i).toNat)
        case atStart => exact ⟨0, by omega, rfl, Lib.hid ⟨zs, [], rfl, HI.out.1, HI.out.2, by
          have e : r.drop 0 = r := by cases r <;> rfl
          rw [e]
          rcases tmsT r with _ | l <;> rfl⟩⟩
        case round =>
          clear HI
          obtain ⟨j, hj, rfl, HJ⟩ := hrel
          obtain ⟨vs, L, hL, hrt, hbw, htm⟩ := HJ.out
          by_cases hlt : j < m
          · have dj : decide ((j : Int) < (m : Int)) = true := by simp; omega
            obtain ⟨tt, vv, kk, hdk⟩ := F.drop_cons (f := r) (j := j) (by rw [HRS.out.2.1]; exact hlt)
            obtain ⟨ob, oo, A2, c2, B2, d2, rfl, hob, hor, _, _, _, _, hok2⟩ := node_atN HRS.out.1 hdk
            have hrok : kk.ok := by
              have h := F.ok_drop (j := j) HRS.out.2.2
              rw [hdk] at h
              exact h.2.2.1
            obtain ⟨vn, hvn⟩ : ∃ n, vv.length = n := ⟨_, rfl⟩
            have hT := fun cur (h : Below w.heap.size w cur) => p_open_tm tt vv kk vn kk.len hvn rfl hrok A2 c2 B2 d2 cur (hok2.on h)
            have hstep := tmsT_step hdk
            rw [hvn] at hor
            obtain ⟨ns, hns⟩ : ∃ z, nodV tt A2 vn c2 B2 kk.len d2 = z := ⟨_, rfl⟩
            have hns3 : (Try.prog.info? 53).map (·.size) = some ns.length := by rw [← hns]; exact size_n
            rw [hns] at hor hT
            obtain ⟨o, ho⟩ : ∃ z, tmT tt vv kk = z := ⟨_, rfl⟩
            rw [ho] at hT hstep
            have hor2 := fun cur (h : Below w.heap.size w cur) => rangeAt_on hor hob h
            have HO := Lib.hid (show _ ∧ _ ∧ _ from ⟨hor2, hns3, hT⟩)
            have HST := Lib.hid (show _ ∧ _ ∧ _ ∧ _ ∧ _ from ⟨hstep, hL, hrt, hbw, htm⟩)
            clear hdk hob hor hok2 hrok hvn hT hstep hns hns3 ho hor2 hL hrt hbw htm HJ
            rcases o with _ | x
            · have HD := Lib.hid (show R = none from by rw [HE.out, HST.out.2.2.2.2, HST.out.1]; rfl)
              go_wp2_with (first
                | ((with_reducible refine at_load_ (d := 66) ?_); go_must (refine wpList_load_mid rfl 53 (.tmp 65) rfl ob (oo + j * 3) rfl ns _ (HO.out.1 _ HST.out.2.2.2.1) Try.underlying53 rfl HO.out.2.1 ?_))
                | (go_at_call 47; ((with_reducible refine (HO.out.2.2 _ HST.out.2.2.2.1).mono ?_); rintro e w6 ⟨cs, hc7, hc1, rfl, hcl, hb⟩); have H6 := Lib.hid (show _ ∧ _ ∧ _ ∧ _ from ⟨hb, hc7, hc1, hcl⟩); clear hb hc7 hc1 hcl)
                | ((with_reducible refine at_alloc_ (d := 10) ?_); refine wpList_alloc_v (op := ⟨some 10, _, _, _, _, _⟩) rfl 27 rfl zerT info_t ?_; intro g9 w7 hf hr; have H7 := Lib.hid (show _ ∧ _ from ⟨hf, hr⟩); clear hf hr)
                | ((with_reducible refine at_store_ (i := 10) ?_); go_must (refine wpList_store_v rfl 27 (.tmp 10) (.tmp 68) rfl g9 zerT cs rfl rfl H7.out.2 H6.out.2.1 H6.out.2.2.1 (by rw [H6.out.2.1]; exact size_t) ?_); intro w8 hw hr; have hb := H7.out.1.wr_bl hw; have H8 := Lib.hid (show Below w.heap.size w w8 ∧ RowV w8 g9 cs ∧ cs.length = 7 ∧ (∀ u ∈ cs, u.oneCell' = true) ∧ RowT w w8 gT m vs L  from ⟨below_on (below_on HST.out.2.2.2.1 H6.out.1) hb, hr, H6.out.2.1, H6.out.2.2.1, (HST.out.2.2.1.on H6.out.1).on hb⟩); have H8b := Lib.hid hb; have HPL := Lib.hid (show j * 7 + cs.length ≤ vs.length from by rw [H6.out.2.1, HST.out.2.2.1.2.1]; omega); clear hw hr hb))
              go_ret2
              exact LstIs.bad HD.out H8.out.1
            · go_wp2_with (first
                | ((with_reducible refine at_load_ (d := 66) ?_); go_must (refine wpList_load_mid rfl 53 (.tmp 65) rfl ob (oo + j * 3) rfl ns _ (HO.out.1 _ HST.out.2.2.2.1) Try.underlying53 rfl HO.out.2.1 ?_))
                | (go_at_call 47; ((with_reducible refine (HO.out.2.2 _ HST.out.2.2.2.1).mono ?_); rintro e w6 ⟨cs, hc7, hc1, rfl, hcl, hb⟩); have H6 := Lib.hid (show _ ∧ _ ∧ _ ∧ _ from ⟨hb, hc7, hc1, hcl⟩); clear hb hc7 hc1 hcl)
                | ((with_reducible refine at_alloc_ (d := 10) ?_); refine wpList_alloc_v (op := ⟨some 10, _, _, _, _, _⟩) rfl 27 rfl zerT info_t ?_; intro g9 w7 hf hr; have H7 := Lib.hid (show _ ∧ _ from ⟨hf, hr⟩); clear hf hr)
                | ((with_reducible refine at_store_ (i := 10) ?_); go_must (refine wpList_store_v rfl 27 (.tmp 10) (.tmp 68) rfl g9 zerT cs rfl rfl H7.out.2 H6.out.2.1 H6.out.2.2.1 (by rw [H6.out.2.1]; exact size_t) ?_); intro w8 hw hr; have hb := H7.out.1.wr_bl hw; have H8 := Lib.hid (show Below w.heap.size w w8 ∧ RowV w8 g9 cs ∧ cs.length = 7 ∧ (∀ u ∈ cs, u.oneCell' = true) ∧ RowT w w8 gT m vs L  from ⟨below_on (below_on HST.out.2.2.2.1 H6.out.1) hb, hr, H6.out.2.1, H6.out.2.2.1, (HST.out.2.2.1.on H6.out.1).on hb⟩); have H8b := Lib.hid hb; have HPL := Lib.hid (show j * 7 + cs.length ≤ vs.length from by rw [H6.out.2.1, HST.out.2.2.1.2.1]; omega); clear hw hr hb)
                | ((with_reducible refine at_load_ (d := 74) ?_); go_must (refine wpList_load_v rfl 27 (.tmp 10) rfl g9 rfl cs _ H8.out.2.1 Try.underlying27 rfl (by rw [H8.out.2.2.1]; exact size_t) ?_))
                | ((with_reducible refine at_store_ (i := 75) ?_); go_must (refine wpList_store_part rfl 27 (.tmp 75) (.tmp 74) rfl gT (j * 7) vs cs rfl rfl H8.out.2.2.2.2.1 HPL.out H8.out.2.2.2.1 (by rw [H8.out.2.2.1]; exact size_t) ?_); intro w10 hw hr; have H10 := Lib.hid (show _ ∧ _ from ⟨hw, hr⟩); clear hw hr))
              obtain ⟨Ad, cd, ecs, h0, hsd0⟩ := H6.out.2.2.2 x rfl
              have hsd := hsd0.newOn H8b.out
              clear hsd0
              have H11 := Lib.hid (show RowT w w10 gT m (spl vs (j * 7) (x.cs Ad cd)) (L ++ [x]) ∧ Below w.heap.size w w10 from ⟨H8.out.2.2.2.2.put HST.out.2.1 hlt H10.out.1 (by rw [← ecs]; exact H10.out.2) h0 (hsd.imp fun b hb => ⟨⟨Nat.le_trans HST.out.2.2.2.1.size hb.1, hb.2⟩, by have := hb.1; have := HST.out.2.2.1.1.lt; omega⟩), Wr.bl H8.out.1 H10.out.1 H8.out.2.2.2.2.2.2.1⟩)
              have H12 := Lib.hid (show tmsT r = (tmsT (r.drop (j + 1))).map ((L ++ [x]) ++ ·) from by
                rw [HST.out.2.2.2.2, HST.out.1]
                show ((tmsT (r.drop (j + 1))).map (x :: ·)).map (L ++ ·) = _
                rcases tmsT (r.drop (j + 1)) with _ | l <;> simp)
              clear h0 hsd ecs
              go_roundw
              case rel => exact ⟨j + 1, by omega, by first | rfl | go_num, Lib.hid ⟨_, L ++ [x], by simp [HST.out.2.1], H11.out.1, H11.out.2, H12.out⟩⟩
              case measure => simp [intOf]; omega
          · obtain rfl : j = m := by omega
            have dj : decide ((j : Int) < (j : Int)) = false := by simp
            have hnil : r.drop j = .nil := by have h := F.drop_all r; rw [HRS.out.2.1] at h; exact h
            have HF := Lib.hid (show R = some L from by
              rw [HE.out, htm, hnil]
              show (some [] : Option (List Tm)).map (L ++ ·) = _
              simp)
            have HG := Lib.hid (show LstIs R w (.returned (.tuple #[.slice (some ⟨gT, 0, none⟩) j j, .bool true])) wr from by
              refine ⟨fun h => ?_, fun L2 h => ?_, hbw⟩
              · rw [HF.out] at h; cases h
              · rw [HF.out] at h
                injection h with h
                subst h
                exact ⟨_, j, by rw [hL], hrt.sees hL⟩)
            clear hL hrt hbw htm HJ hnil
            go_wp2
            go_ret2
            exact HG.out
      · have dm : ((m : Int) != (q : Int)) = true := by simp; omega
        have HD := Lib.hid (show R = none from by rw [← HR.out]; simp [hmq])
        go_wp2_with (first
        | ((with_reducible refine at_load_ (d := 42) ?_); go_must (refine wpList_load_v rfl 53 (.tmp 4) rfl g4 rfl n1 _ H2.out.2 Try.underlying53 rfl HN1.out.1 ?_))
        | (go_at_call 46; ((with_reducible refine (HK.out.2.2 _ H2.out.1).mono ?_); rintro e w3 ⟨rfl, hb⟩); have H3 := Lib.hid (below_on H2.out.1 hb); clear hb))
        go_ret2
        exact LstIs.bad HD.out H3.out
  · have d1 : ((n : Int) != 1) = true := by simp; omega
    have HD := Lib.hid (lstT_not1 (f := f) (by rw [hn]; exact hn1))
    clear hs hn hok hn1
    go_enter Try.func35, Try.ntmps35
    go_wp2
    go_ret2
    exact LstIs.bad HD.out (Below.refl _ _)
end Go.Proofs.Ytobbnedojmcgoaa
