/-
  What is proved here: the law ZoneReturns as a function: true for any numbers.
-/
import Derived.Test.YtdlcoilpkelbaaaGreatDoorY19
import Derived.Test.YtdlcoilpkelbaaaGreatDoorY16
import Derived.Test.YtdlcoilpkelbaaaGreatDoorY12
import Derived.Deep.CutRange
namespace Go.Proofs.YtdlcoilpkelbaaaGreatDoor
open Go.RowKit Go.Maps Go.Deep
set_option linter.unusedVariables false

theorem build_T {z : Zn} (hz : vE z = 0) : buildL z = buildT z := by unfold buildL; rw [if_pos hz]
theorem ret_fit {z : Zn} (hz : vE z = 0) (h : needL z ≤ namN z.fm) : parE (buildL z) = 0 ∧ parZ (buildL z) = z := by
  have e := bk_fit hz h
  obtain ⟨h1, h2⟩ := bk_par hz
  rw [e, hz] at h1
  rw [build_T hz]
  exact ⟨h1, by rw [h2 h1, e]⟩
theorem ret_cut {z : Zn} (hz : vE z = 0) (h : parE (buildL z) = 0) : ({ parZ (buildL z) with su := z.su, gi := z.gi } : Zn) = z := by
  rw [build_T hz] at h ⊢
  rw [(bk_par hz).2 h]
  rfl
theorem ix_nam {f : Int} (hf : 1 ≤ f ∧ f ≤ 3) : ∀ w, (Instr.index 44 (.agg #[.int .i64 0, .int .i64 30, .int .i64 31, .int .i64 39]) (.int .i64 f)).run Tryz.prog w = .ok (.int .i64 ((namN f : Nat) : Int)) w := by
  have h : f = 1 ∨ f = 2 ∨ f = 3 := by omega
  intro w
  rcases h with rfl | rfl | rfl <;> kernel_rfl
/-- the dice, their zone, below what was there -/
structure ZWorld (w : World) (z : Zn) (w2 : World) : Prop where
  bl : Below w.heap.size w w2
  v : vE z = 0
  b : Bears z
theorem isAgg_s : ∀ w, (isAgg 9).run Tryz.prog w = .ok false w := fun w => by kernel_rfl
theorem isAgg_i : ∀ w, (isAgg 3).run Tryz.prog w = .ok false w := fun w => by kernel_rfl

set_option maxHeartbeats 6400000 in
set_option maxRecDepth 40000 in
theorem zr_walk (A0 : Option Addr) (c : Nat) (x : List Int) (w : World) (hM : Mm w) (see : SeesP w (· < w.heap.size) A0 (x.map (Value.int .i64))) (m : x.length ≤ 140737488351232) (rng : ∀ y ∈ x, -9223372036854775808 ≤ y ∧ y ≤ 9223372036854775807) :
    Calls Tryz.prog 6 #[.slice A0 x.length c] w fun e w' => e = .returned (.bool true) ∧ Below w.heap.size w w' := by
  have HM := Lib.hid hM
  have HL := Lib.hid (made_light A0 x.length c w m)
  by_cases hx : ¬ x.length ≤ 400
  · have d : decide (x.length ≤ 400) = false := decide_eq_false hx
    rw [d] at HL
    clear hM see m rng hx d
    go_enter Tryz.func6, Tryz.ntmps6
    go_wp2_with (first
      | (go_at_call 20; refine HL.out.mono ?_; rintro e w' ⟨rfl, hw⟩; rw [hw]; clear hw)
      | (go_at_call 14; ((with_reducible refine (zone_awake _ HM.out).mono ?_); rintro e w1 ⟨rfl, hb⟩); have HB := Lib.hid hb; clear hb))
    go_ret
    exact ⟨rfl, HB.out⟩
  have d : decide (x.length ≤ 400) = true := decide_eq_true (Classical.not_not.1 hx)
  have HR := Lib.hid (made_roll A0 c x w m rng see)
  rw [d] at HL
  clear hM see m rng d hx
  go_enter Tryz.func6, Tryz.ntmps6
  go_wp2_with (first
    | (go_at_call 20; refine HL.out.mono ?_; rintro e w' ⟨rfl, hw⟩; rw [hw]; clear hw)
    | (go_at_call 21; refine HR.out.mono ?_; rintro e w1 ⟨rfl, hd1, hb1⟩))
  refine (dice_zone w.heap.size w1 hd1).mono ?_
  rintro e w2 ⟨z, rfl, hz, hbz, hg, hd⟩
  have HZ := Lib.hid (ZWorld.mk (w := w) (w2 := w2) (below_row hb1 hg) hz hbz)
  clear hd1 hb1 hz hbz hg hd HL HR
  obtain ⟨us, hus⟩ : ∃ us, zV z = us := ⟨_, rfl⟩
  rw [hus]
  have HU := Lib.hid hus
  have HUL : Hid (us.length = zon0.length ∧ (∀ u ∈ us, u.oneCell' = true) ∧ (Tryz.prog.info? 23).map (·.size) = some us.length) := Lib.hid (by rw [← hus]; exact ⟨rfl, zV_one _, size_z⟩)
  have heq : ∀ w, (binOp .eql 23 (.agg us.toArray) (.agg us.toArray)).run Tryz.prog w = .ok (.bool true) w := zone_eq z us hus
  obtain ⟨SU, hSU⟩ : ∃ X, S z.su = X := ⟨_, rfl⟩
  obtain ⟨GI, hGI⟩ : ∃ X, S z.gi = X := ⟨_, rfl⟩
  obtain ⟨f, hf⟩ : ∃ f, z.fm = f := ⟨_, rfl⟩
  have H0 : Hid (us[0]? = some (.int .i64 f) ∧ us[3]? = some (.string SU) ∧ us[4]? = some (.string GI)) := Lib.hid (by rw [← hus, ← hSU, ← hGI, ← hf]; exact ⟨rfl, rfl, rfl⟩)
  have hf1 : 1 ≤ f ∧ f ≤ 3 := by rw [← hf]; exact (vE_ok HZ.out.v).1
  have ixn := ix_nam hf1
  obtain ⟨nm, hnm⟩ : ∃ n, namN f = n := ⟨_, rfl⟩
  rw [hnm] at ixn
  have hnm2 : nm ≤ 64 := by rw [← hnm]; unfold namN; repeat (first | omega | split)
  have hsz : SU.size ≤ 140737488355328 ∧ GI.size ≤ 140737488355328 := by rw [← hSU, ← hGI]; exact ⟨HZ.out.b.su, HZ.out.b.gi⟩
  have HNA := Lib.hid (show _ ∧ _ ∧ _ ∧ _ from ⟨hSU, hGI, hf, hnm⟩)
  obtain ⟨nd, hnd⟩ : ∃ n, needL z = n := ⟨_, rfl⟩
  obtain ⟨bG, hbG⟩ : ∃ b, GI.toList.isEmpty = b := ⟨_, rfl⟩
  have HND : Hid ((bG = true → SU.size = nd) ∧ (bG = false → SU.size + (2 + GI.size) = nd) ∧ needL z = nd) := Lib.hid (by
    have e1 : SU.size = z.su.length := by rw [← hSU, S_size]
    have e2 : GI.size = z.gi.length := by rw [← hGI, S_size]
    have e3 := empty_b hGI.symm
    rw [hbG] at e3
    refine ⟨fun h => ?_, fun h => ?_, hnd⟩
    · rw [h] at e3
      rw [← hnd, e1]; unfold needL; rw [if_pos (of_decide_eq_true e3.symm)]; rfl
    · rw [h] at e3
      rw [← hnd, e1, e2]; unfold needL; rw [if_neg (of_decide_eq_false e3.symm)])
  have hnd2 : nd ≤ 1000000000000000 := by
    have := HND.out
    cases bG
    · have := this.2.1 rfl; omega
    · have := this.1 rfl; omega
  clear hnd
  obtain ⟨n, hn⟩ : ∃ n, (buildL z).length = n := ⟨_, rfl⟩
  have hn3 : n ≤ 3 := by rw [← hn]; exact build_n z
  obtain ⟨ps, hps⟩ : ∃ ps, zV (parZ (buildL z)) = ps := ⟨_, rfl⟩
  obtain ⟨pe, hpe⟩ : ∃ pe, parE (buildL z) = pe := ⟨_, rfl⟩
  have HPL : Hid (ps.length = zon0.length ∧ (∀ u ∈ ps, u.oneCell' = true) ∧ (Tryz.prog.info? 23).map (·.size) = some ps.length) := Lib.hid (by rw [← hps]; exact ⟨rfl, zV_one _, size_z⟩)
  have HP : Hid (∀ A w, Mm w → Strs w A (buildL z) → Calls Tryz.prog 18 #[.slice A n n] w fun e w' => e = .returned (.tuple #[.agg ps.toArray, .int .i64 pe]) ∧ Below w.heap.size w w') := Lib.hid (fun A w hM hs => by
    rw [← hps, ← hpe, ← hn]; exact p_zparse (buildL z) A _ (by omega) w hM hs)
  have HBD : Hid (∀ w, Mm w → Calls Tryz.prog 10 #[.agg us.toArray] w fun e w' => ∃ A, e = .returned (.tuple #[.slice A n n, .int .i64 0]) ∧ Strs w' A (buildL z) ∧ Below w.heap.size w w') := Lib.hid (fun w hM => p_buildB z us HU.out 0 HZ.out.v n hn HZ.out.b w hM)
  have HNN := Lib.hid hn
  have HPP := Lib.hid (And.intro hps hpe)
  have HM2 := Lib.hid (HM.out.on HZ.out.bl)
  have HO := Lib.hid (Own.start w2)
  clear hus hSU hGI hf hnm hn hps hpe
  go_upto_if 39 with (first
    | ((with_reducible refine at_alloc_ (d := 3) ?_); refine wpList_alloc_v (op := ⟨some 3, _, _, _, _, _⟩) rfl 23 rfl zon0 info_z ?_; intro g3 v3a hf hr; replace HO := Lib.hid (HO.out.new hf hr); clear hf hr)
    | ((with_reducible refine at_store_ (i := 3) ?_); refine wpList_store_v rfl 23 (.tmp 3) (.tmp 17) rfl g3 zon0 us rfl rfl (HO.out.row (i := 0) rfl) HUL.out.1 HUL.out.2.1 HUL.out.2.2 ?_; intro v3s hw hr; replace HO := Lib.hid (HO.out.set (i := 0) rfl hw hr); clear hw hr)
    | ((with_reducible refine at_load_ (d := 19) ?_); refine wpList_load_v rfl 23 (.tmp 3) rfl g3 rfl us _ (HO.out.row (i := 0) rfl) Tryz.underlying23 rfl HUL.out.2.2 ?_)
    | (go_at_call 10; ((with_reducible refine (HBD.out _ (HM2.out.on HO.out.bl)).mono ?_); rintro e w6 ⟨A, rfl, hs, hb⟩); have HS := Lib.hid hs; have HR3 := Lib.hid ((HO.out.row (i := 0) rfl).on hb); replace HO := Lib.hid (HO.out.on hb); have HO6 := Lib.hid (Own.start w6); clear hb hs)
    | (go_at_call 18; ((with_reducible refine (HP.out A _ ((HM2.out.on HO.out.bl).on HO6.out.bl) (HS.out.on HO6.out.bl)).mono ?_); rintro e w7 ⟨rfl, hb⟩); replace HO6 := Lib.hid (HO6.out.on hb); clear hb)
    | ((with_reducible refine at_alloc_ (d := 6) ?_); refine wpList_alloc_v (op := ⟨some 6, _, _, _, _, _⟩) rfl 23 rfl zon0 info_z ?_; intro g6 v6a hf hr; replace HO6 := Lib.hid (HO6.out.new hf hr); clear hf hr)
    | ((with_reducible refine at_store_ (i := 6) ?_); refine wpList_store_v rfl 23 (.tmp 6) (.tmp 26) rfl g6 zon0 ps rfl rfl (HO6.out.row (i := 0) rfl) HPL.out.1 HPL.out.2.1 HPL.out.2.2 ?_; intro v6s hw hr; replace HO6 := Lib.hid (HO6.out.set (i := 0) rfl hw hr); clear hw hr)
    | (go_at_call 14; ((with_reducible refine (zone_awake _ ((HM2.out.on HO.out.bl).on HO6.out.bl)).mono ?_); rintro e w8 ⟨rfl, hb⟩); replace HO6 := Lib.hid (HO6.out.on hb); clear hb; have c0 : World.cell? _ ⟨g3, 0, none⟩ = some (.int .i64 f) := ((HR3.out.on HO6.out.bl).cell 0).trans H0.out.1; have c3 : World.cell? _ ⟨g3, 3, none⟩ = some (.string SU) := ((HR3.out.on HO6.out.bl).cell 3).trans H0.out.2.1; have c4 : World.cell? _ ⟨g3, 4, none⟩ = some (.string GI) := ((HR3.out.on HO6.out.bl).cell 4).trans H0.out.2.2))
  go_cut [8] from 39 to 45 (fun v8 wx => v8 = .int .i64 (nd : Int) ∧ wx = w8)
  case first =>
    rcases bG with _ | _
    · have HN1 := Lib.hid (HND.out.2.1 rfl)
      go_wp2_with fail
      go_meet
      exact ⟨by have := HN1.out; go_num, rfl⟩
    · have HN1 := Lib.hid (HND.out.1 rfl)
      go_wp2_with fail
      go_meet
      exact ⟨by rw [HN1.out], rfl⟩
  case rest =>
    obtain ⟨rfl, rfl⟩ := hcut
    by_cases hfit : nm < nd
    · have hb : decide ((nm : Int) < (nd : Int)) = true := by simp; omega
      go_wp2_with fail
      have HR3B := Lib.hid (HR3.out.on HO6.out.bl)
      refine region_setC2 (by kernel_rfl) _ (fun (_ : Unit) i => ([.pointer (some ⟨g3, 3, none⟩), .string SU, .pointer (some ⟨g3, 4, none⟩), .string GI, .pointer (some ⟨g6, 3, none⟩), undef, .pointer (some ⟨g6, 4, none⟩), undef] : List Value).getD i undef) (fun _ Sx cur => Own w6 cur [(g6, let a := if Sx 5 = true then ps.set 3 (.string SU) else ps; if Sx 7 = true then a.set 4 (.string GI) else a)]) (by kernel_rfl) () (by simp only [Bool.false_eq_true, ite_false]; exact HO6.out.on (below_drewN _ _ 1)) ?_ ?_
      · refine ops_all (allI.cons ?_ (allI.cons ?_ (allI.cons ?_ (allI.cons ?_ (allI.cons ?_ (allI.cons ?_ (allI.cons ?_ (allI.cons ?_ allI.nil)))))))) <;> intro _ Sx cur a hW hSi hdep hS hC <;> refine ⟨(), fun _ _ => rfl, ?_⟩
        · exact o_fa _ (.tmp 3) 3 rfl (hS.before hC hSi 3 rfl) (fa_z3 g3 _) ⟨rfl, by simpa using hW⟩
        · exact o_ld _ (.tmp 52) rfl (hS.get 0 (dep_at hdep 0 rfl) rfl rfl) (((HR3.out.on hW.bl).cell 3).trans H0.out.2.1) isAgg_s ⟨rfl, by simpa using hW⟩
        · exact o_fa _ (.tmp 3) 4 rfl (hS.before hC hSi 3 rfl) (fa_z4 g3 _) ⟨rfl, by simpa using hW⟩
        · exact o_ld _ (.tmp 54) rfl (hS.get 2 (dep_at hdep 2 rfl) rfl rfl) (((HR3.out.on hW.bl).cell 4).trans H0.out.2.2) isAgg_s ⟨rfl, by simpa using hW⟩
        · exact o_fa _ (.tmp 6) 3 rfl (hS.before hC hSi 6 rfl) (fa_z3 g6 _) ⟨rfl, by simpa using hW⟩
        · rw [hSi] at hW
          refine wp_store_at 9 (.tmp 56) (.tmp 53) rfl g6 3 _ (.string SU) (hS.get 4 (dep_at hdep 4 rfl) rfl rfl) (hS.get 1 (dep_at hdep 1 rfl) rfl rfl) (hW.row (i := 0) rfl) ?_ rfl rfl size_st ?_
          · have := HPL.out.1
            have h12 : zon0.length = 12 := rfl
            by_cases h7 : Sx 7 = true
            · simp [h7]; omega
            · simp [h7]; omega
          intro w' hw hr
          refine ⟨rfl, ?_⟩
          have h := hW.set (i := 0) rfl hw hr
          by_cases h7 : Sx 7 = true
          · simpa [h7, List.set_comm _ _ (show 4 ≠ 3 by decide)] using h
          · simpa [h7] using h
        · exact o_fa _ (.tmp 6) 4 rfl (hS.before hC hSi 6 rfl) (fa_z4 g6 _) ⟨rfl, by simpa using hW⟩
        · rw [hSi] at hW
          refine wp_store_at 9 (.tmp 57) (.tmp 55) rfl g6 4 _ (.string GI) (hS.get 6 (dep_at hdep 6 rfl) rfl rfl) (hS.get 3 (dep_at hdep 3 rfl) rfl rfl) (hW.row (i := 0) rfl) ?_ rfl rfl size_st ?_
          · have := HPL.out.1
            have h12 : zon0.length = 12 := rfl
            by_cases h5 : Sx 5 = true
            · simp [h5]; omega
            · simp [h5]; omega
          intro w' hw hr
          refine ⟨rfl, ?_⟩
          have h := hW.set (i := 0) rfl hw hr
          by_cases h5 : Sx 5 = true
          · simpa [h5] using h
          · simpa [h5] using h
      intro _ cur SS hall hW
      simp only [hall 5 (by decide), hall 7 (by decide), if_true] at hW
      have HO7 := Lib.hid hW
      clear hW hall SS HO6 c0 c3 c4
      simp only [putAll, Act.put]
      simp
      obtain ⟨qs, hqs⟩ : ∃ qs, (ps.set 3 (.string SU)).set 4 (.string GI) = qs := ⟨_, rfl⟩
      rw [hqs] at HO7
      have HQL : Hid (qs.length = 12 ∧ (pe = 0 → qs = us)) := Lib.hid ⟨by rw [← hqs, List.length_set, List.length_set]; exact HPL.out.1, fun h => by
        have h2 := ret_cut HZ.out.v (HPP.out.2.trans h)
        rw [← hqs, ← HPP.out.1, ← HU.out, ← HNA.out.1, ← HNA.out.2.1]
        exact congrArg zV h2⟩
      clear hqs
      by_cases h0 : pe = 0
      · have hb0 : (pe != 0) = false := by rw [h0]; rfl
        obtain rfl := HQL.out.2 h0
        clear h0
        go_wp2_with (first
          | ((with_reducible refine at_load_ (d := 61) ?_); refine wpList_load_vg (by rfl) 23 (.tmp 6) rfl g6 rfl qs _ (HO7.out.row (i := 0) rfl) Tryz.underlying23 rfl HUL.out.2.2 ?_)
          | ((with_reducible refine at_load_ (d := 62) ?_); refine wpList_load_vg (by rfl) 23 (.tmp 3) rfl g3 rfl qs _ (HR3.out.on HO7.out.bl) Tryz.underlying23 rfl HUL.out.2.2 ?_))
        go_ret
        exact ⟨rfl, below_on HZ.out.bl ((HO.out.on HO7.out.bl).bl)⟩
      · have hb0 : (pe != 0) = true := by simpa using h0
        clear h0
        go_wp2_with fail
        go_ret
        exact ⟨rfl, below_on HZ.out.bl ((HO.out.on HO7.out.bl).bl)⟩
    · have hb : decide ((nm : Int) < (nd : Int)) = false := by simp; omega
      have hf2 := ret_fit HZ.out.v (by rw [HNA.out.2.2.1, HNA.out.2.2.2, HND.out.2.2]; omega)
      obtain rfl : pe = 0 := HPP.out.2.symm.trans hf2.1
      obtain rfl : ps = us := by rw [← HPP.out.1, hf2.2]; exact HU.out
      clear hf2
      go_wp2_with (first
        | ((with_reducible refine at_load_ (d := 66) ?_); refine wpList_load_v rfl 23 (.tmp 6) rfl g6 rfl ps _ (HO6.out.row (i := 0) rfl) Tryz.underlying23 rfl HPL.out.2.2 ?_)
        | (go_at_call 10; ((with_reducible refine (HBD.out _ ((HM2.out.on HO.out.bl).on HO6.out.bl)).mono ?_); rintro e w9 ⟨A2, rfl, hs, hb⟩); have HS2 := Lib.hid hs; replace HO6 := Lib.hid (HO6.out.on hb); clear hb hs)
        | ((with_reducible refine at_load_ (d := 73) ?_); refine wpList_load_vg (by rfl) 23 (.tmp 6) rfl g6 rfl ps _ (HO6.out.row (i := 0) rfl) Tryz.underlying23 rfl HPL.out.2.2 ?_)
        | ((with_reducible refine at_load_ (d := 74) ?_); refine wpList_load_vg (by rfl) 23 (.tmp 3) rfl g3 rfl ps _ (HR3.out.on HO6.out.bl) Tryz.underlying23 rfl HPL.out.2.2 ?_)
        | (go_at_call 17; ((with_reducible refine (r_same_eq (buildL z) A A2 n n n HNN.out (by omega) _ (HS.out.on HO6.out.bl) HS2.out).mono ?_); rintro e w10 ⟨rfl, hb⟩); replace HO6 := Lib.hid (HO6.out.on hb); clear hb))
      go_ret
      exact ⟨rfl, below_on HZ.out.bl ((HO.out.on HO6.out.bl).bl)⟩
end Go.Proofs.YtdlcoilpkelbaaaGreatDoor
