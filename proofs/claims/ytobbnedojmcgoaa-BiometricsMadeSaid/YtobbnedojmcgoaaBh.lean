/-
  What is proved here: the reference finds equal lists of templates equal.
-/
import Derived.Test.YtobbnedojmcgoaaBg
import Derived.Test.YtobbnedojmcgoaaRfv
namespace Go.Proofs.Ytobbnedojmcgoaa
open Go.RowKit
set_option linter.unusedVariables false
set_option linter.unusedSimpArgs false

theorem ix_tm (g o n c k : Nat) (hk : k < n) (w : World) : (Instr.indexAt 22 (.slice (some ⟨g, o, none⟩) n c) (.int .i64 (k : Int))).run Try.prog w = .ok (.pointer (some ⟨g, o + k * 7, none⟩)) w := by
  have h0 : (k : Int) < (n : Int) := by omega
  have h1 : (0 : Int) ≤ (k : Int) := by omega
  simp [go_sem, Addr.add, h0, h1]
set_option maxHeartbeats 6400000 in
set_option maxRecDepth 20000 in
theorem r13_same (l : List Tm) (n : Nat) (hn : l.length = n) (hn2 : n ≤ 2000000000000) (hd : ∀ x ∈ l, x.d.length ≤ maxLen) (A B : Option Addr) (c d : Nat) (w : World) (ha : SeesT w (· < w.heap.size) A l) (hb : SeesT w (· < w.heap.size) B l) :
    Calls Try.prog 19 #[.slice A n c, .slice B n d] w fun e w' => e = .returned (.bool true) ∧ Below w.heap.size w w' := by
  have HS := Lib.hid (show _ ∧ _ ∧ _ ∧ _ from ⟨ha, hb, hn, hd⟩)
  have hne : ((n : Int) != (n : Int)) = false := by simp
  clear ha hb hn hd
  go_enter Try.func19, Try.ntmps19
  go_wp2_with fail
  go_loopw [5] (fun i wr => ∃ (j : Nat), j ≤ n ∧ i = .int .i64 (j : Int) ∧ Hid (Below w.heap.size w wr)) (fun i _ => n - (intOf i).toNat)
  case atStart => exact ⟨0, by omega, rfl, Lib.hid (Below.refl _ _)⟩
  case round =>
    obtain ⟨j, hj, rfl, HBW⟩ := hrel
    by_cases hlt : j < n
    · have dj : decide ((j : Int) < (n : Int)) = true := by simp; omega
      obtain ⟨x, hx⟩ : ∃ x, l[j]? = some x := ⟨_, List.getElem?_eq_getElem (by rw [HS.out.2.2.1]; exact hlt)⟩
      obtain ⟨ab, ao, A1, c1, rfl, hb1, hr1, _, _, hs1⟩ := tm_at HS.out.1 hx
      obtain ⟨bb, bo, A2, c2, rfl, hb2, hr2, _, _, hs2⟩ := tm_at HS.out.2.1 hx
      have hr1' := fun cur (h : Below w.heap.size w cur) => rangeAt_on hr1 hb1 h
      have hr2' := fun cur (h : Below w.heap.size w cur) => rangeAt_on hr2 hb2 h
      have hsm := fun cur (h : Below w.heap.size w cur) => ref_same_yes A1 A2 c1 c2 x.d cur (SeesP.iff_sees.1 (SeesP.on2 hs1 h)) (SeesP.iff_sees.1 (SeesP.on2 hs2 h)) (HS.out.2.2.2 x (List.mem_of_getElem? hx))
      obtain ⟨us, hus⟩ : ∃ z, x.cs A1 c1 = z := ⟨_, rfl⟩
      obtain ⟨vs, hvs⟩ : ∃ z, x.cs A2 c2 = z := ⟨_, rfl⟩
      obtain ⟨dn, hdn⟩ : ∃ z, x.d.length = z := ⟨_, rfl⟩
      obtain ⟨xk, hxk⟩ : ∃ z, x.k = z := ⟨_, rfl⟩
      obtain ⟨xp, hxp⟩ : ∃ z, x.p = z := ⟨_, rfl⟩
      obtain ⟨xf, hxf⟩ : ∃ z, x.f = z := ⟨_, rfl⟩
      obtain ⟨xt, hxt⟩ : ∃ z, x.t = z := ⟨_, rfl⟩
      obtain ⟨xo, hxo⟩ : ∃ z, x.fo = z := ⟨_, rfl⟩
      obtain ⟨xq, hxq⟩ : ∃ z, x.q = z := ⟨_, rfl⟩
      have Hus := Lib.hid (show us.length = zerT.length ∧ ∀ u ∈ us, u.oneCell' = true from by rw [← hus]; exact ⟨rfl, cs_one _ _ _⟩)
      have Hvs := Lib.hid (show vs.length = zerT.length ∧ ∀ u ∈ vs, u.oneCell' = true from by rw [← hvs]; exact ⟨rfl, cs_one _ _ _⟩)
      have HU := Lib.hid (show us[0]? = some (.int .i64 xk) ∧ us[1]? = some (.int .i64 xp) ∧ us[2]? = some (.int .i64 xf) ∧ us[3]? = some (.int .i64 xt) ∧ us[4]? = some (.int .i64 xo) ∧ us[5]? = some (.int .i64 xq) ∧ us[6]? = some (.slice A1 dn c1) from by rw [← hus, ← hxk, ← hxp, ← hxf, ← hxt, ← hxo, ← hxq, ← hdn]; exact ⟨rfl, rfl, rfl, rfl, rfl, rfl, rfl⟩)
      have HV := Lib.hid (show vs[0]? = some (.int .i64 xk) ∧ vs[1]? = some (.int .i64 xp) ∧ vs[2]? = some (.int .i64 xf) ∧ vs[3]? = some (.int .i64 xt) ∧ vs[4]? = some (.int .i64 xo) ∧ vs[5]? = some (.int .i64 xq) ∧ vs[6]? = some (.slice A2 dn c2) from by rw [← hvs, ← hxk, ← hxp, ← hxf, ← hxt, ← hxo, ← hxq, ← hdn]; exact ⟨rfl, rfl, rfl, rfl, rfl, rfl, rfl⟩)
      rw [hus] at hr1'
      rw [hvs] at hr2'
      rw [hdn] at hsm
      have HK := Lib.hid (show _ ∧ _ from ⟨hr1', hr2'⟩)
      have HSM := Lib.hid hsm
      have e0 : (xk != xk) = false := by simp
      have e1 : (xp != xp) = false := by simp
      have e2 : (xf != xf) = false := by simp
      have e3 : (xt != xt) = false := by simp
      have e4 : (xo != xo) = false := by simp
      have e5 : (xq != xq) = false := by simp
      clear hx hb1 hr1 hs1 hb2 hr2 hs2 hr1' hr2' hsm hus hvs hdn hxk hxp hxf hxt hxo hxq
      go_wp2_with fail
      refine region_vars (by kernel_rfl) _ [.slice (some ⟨ab, ao, none⟩) n c, .int .i64 (j : Int), .pointer (some ⟨ab, ao + j * 7, none⟩), .agg us.toArray, .slice (some ⟨bb, bo, none⟩) n d, .int .i64 (j : Int), .pointer (some ⟨bb, bo + j * 7, none⟩), .agg vs.toArray, undef, undef, undef, undef] [8, 9] [⟨8, 10, zerT, us⟩, ⟨9, 11, zerT, vs⟩] (by kernel_rfl) ?_ ?_
      · refine ops_all (allI.cons ?_ (allI.cons ?_ (allI.cons ?_ (allI.cons ?_ (allI.cons ?_ (allI.cons ?_ (allI.cons ?_ (allI.cons ?_ (allI.cons ?_ (allI.cons ?_ (allI.cons ?_ (allI.cons ?_ allI.nil)))))))))))) <;> intro b S c2 a hW hSi hdep hS hC
        · exact o_mv _ rfl (hS.old 0 rfl) (.inl ⟨rfl, hW.keep rfl⟩)
        · exact o_mv _ rfl (hS.old 5 rfl) (.inl ⟨rfl, hW.keep rfl⟩)
        · exact o_ix _ (.tmp 19) (.tmp 20) rfl (hS.get 0 (dep_at hdep 0 rfl) rfl rfl) (hS.get 1 (dep_at hdep 1 rfl) rfl rfl) (ix_tm ab ao n c j hlt _) (.inl ⟨rfl, hW.keep rfl⟩)
        · exact wp_load_mid 27 (.tmp 21) rfl ab (ao + j * 7) (hS.get 2 (dep_at hdep 2 rfl) rfl rfl) us _ (HK.out.1 _ (below_on HBW.out hW.1)) Try.underlying27 rfl (by rw [Hus.out.1]; exact size_t) (.inl ⟨rfl, hW.keep rfl⟩)
        · exact o_mv _ rfl (hS.old 1 rfl) (.inl ⟨rfl, hW.keep rfl⟩)
        · exact o_mv _ rfl (hS.old 5 rfl) (.inl ⟨rfl, hW.keep rfl⟩)
        · exact o_ix _ (.tmp 23) (.tmp 24) rfl (hS.get 4 (dep_at hdep 4 rfl) rfl rfl) (hS.get 5 (dep_at hdep 5 rfl) rfl rfl) (ix_tm bb bo n d j hlt _) (.inl ⟨rfl, hW.keep rfl⟩)
        · exact wp_load_mid 27 (.tmp 25) rfl bb (bo + j * 7) (hS.get 6 (dep_at hdep 6 rfl) rfl rfl) vs _ (HK.out.2 _ (below_on HBW.out hW.1)) Try.underlying27 rfl (by rw [Hvs.out.1]; exact size_t) (.inl ⟨rfl, hW.keep rfl⟩)
        · refine wp_alloc_v (op := ⟨some 6, _, _, _, _, _⟩) 27 rfl zerT info_t ?_
          intro g w' hf hr
          exact .inr ⟨g, rfl, rfl, hW.new rfl (s0 := ⟨8, 10, zerT, us⟩) (by simp) rfl (by
            rcases hq : S 10 with _ | _
            · rfl
            · have := dep_at (hC 10 _ rfl hq) 8 rfl
              rw [hSi] at this; cases this) hf hr (by simp)⟩
        · refine wp_alloc_v (op := ⟨some 7, _, _, _, _, _⟩) 27 rfl zerT info_t ?_
          intro g w' hf hr
          exact .inr ⟨g, rfl, rfl, hW.new rfl (s0 := ⟨9, 11, zerT, vs⟩) (by simp) rfl (by
            rcases hq : S 11 with _ | _
            · rfl
            · have := dep_at (hC 11 _ rfl hq) 9 rfl
              rw [hSi] at this; cases this) hf hr (by simp)⟩
        · refine wp_store_v 27 (.tmp 6) (.tmp 22) rfl (b 8) zerT us (hS.get 8 (dep_at hdep 8 rfl) rfl rfl) (hS.get 3 (dep_at hdep 3 rfl) rfl rfl) (hW.row (s0 := ⟨8, 10, zerT, us⟩) (by simp) (dep_at hdep 8 rfl) hSi) Hus.out.1 Hus.out.2 (by rw [Hus.out.1]; exact size_t) ?_
          intro w' hw hr
          exact .inl ⟨rfl, hW.fill rfl (s0 := ⟨8, 10, zerT, us⟩) (by simp) rfl (dep_at hdep 8 rfl) hw hr (by simp)⟩
        · refine wp_store_v 27 (.tmp 7) (.tmp 26) rfl (b 9) zerT vs (hS.get 9 (dep_at hdep 9 rfl) rfl rfl) (hS.get 7 (dep_at hdep 7 rfl) rfl rfl) (hW.row (s0 := ⟨9, 11, zerT, vs⟩) (by simp) (dep_at hdep 9 rfl) hSi) Hvs.out.1 Hvs.out.2 (by rw [Hvs.out.1]; exact size_t) ?_
          intro w' hw hr
          exact .inl ⟨rfl, hW.fill rfl (s0 := ⟨9, 11, zerT, vs⟩) (by simp) rfl (dep_at hdep 9 rfl) hw hr (by simp)⟩
      · intro b w4 S hall hW
        have hr6 := (hW.2.1 ⟨8, 10, zerT, us⟩ (by simp) (hall 8 (by decide))).2
        have hr7 := (hW.2.1 ⟨9, 11, zerT, vs⟩ (by simp) (hall 9 (by decide))).2
        rw [hall 10 (by decide)] at hr6
        rw [hall 11 (by decide)] at hr7
        have hr6 : RowV w4 (b 8) us := hr6
        have hr7 : RowV w4 (b 9) vs := hr7
        have H4 := Lib.hid (show Below w.heap.size w w4 from below_on HBW.out hW.1)
        simp only [putAll, Act.put, varV]
        simp
        obtain ⟨g6, hg6⟩ : ∃ z, b 8 = z := ⟨_, rfl⟩
        obtain ⟨g7, hg7⟩ : ∃ z, b 9 = z := ⟨_, rfl⟩
        rw [hg6] at hr6 ⊢
        rw [hg7] at hr7 ⊢
        have a0 := (hr6.cell 0).trans HU.out.1
        have a1 := (hr6.cell 1).trans HU.out.2.1
        have a2 := (hr6.cell 2).trans HU.out.2.2.1
        have a3 := (hr6.cell 3).trans HU.out.2.2.2.1
        have a4 := (hr6.cell 4).trans HU.out.2.2.2.2.1
        have a5 := (hr6.cell 5).trans HU.out.2.2.2.2.2.1
        have a6 := (hr6.cell 6).trans HU.out.2.2.2.2.2.2
        have b0 := (hr7.cell 0).trans HV.out.1
        have b1 := (hr7.cell 1).trans HV.out.2.1
        have b2 := (hr7.cell 2).trans HV.out.2.2.1
        have b3 := (hr7.cell 3).trans HV.out.2.2.2.1
        have b4 := (hr7.cell 4).trans HV.out.2.2.2.2.1
        have b5 := (hr7.cell 5).trans HV.out.2.2.2.2.2.1
        have b6 := (hr7.cell 6).trans HV.out.2.2.2.2.2.2
        clear hall hW hr6 hr7 hg6 hg7
        go_wp2_with (first
          | (go_at_call 39; ((with_reducible refine (HSM.out _ H4.out).mono ?_); rintro e w5 ⟨rfl, hw⟩); have H5 := Lib.hid (show Below w.heap.size w w5 from below_on H4.out hw); clear hw))
        go_roundw
        case rel => exact ⟨j + 1, by omega, by first | rfl | go_num, H5⟩
        case measure => simp [intOf]; omega
    · obtain rfl : j = n := by omega
      have dj : decide ((j : Int) < (j : Int)) = false := by simp
      go_wp2_with fail
      go_ret
      exact ⟨rfl, HBW.out⟩
end Go.Proofs.Ytobbnedojmcgoaa
