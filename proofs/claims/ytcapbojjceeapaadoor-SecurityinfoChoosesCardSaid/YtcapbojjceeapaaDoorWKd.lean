/-
  What is proved here: what an open list lacks of a signed one, by the program and by the reference.
-/
import Derived.Test.YtcapbojjceeapaaDoorWJz
namespace Go.Proofs.YtcapbojjceeapaaDoor
open Go.RowKit
set_option maxRecDepth 8000
set_option linter.unusedVariables false
set_option linter.unusedSimpArgs false
theorem eqI_comm (x y : Im) : eqI x y = eqI y x := by
  rcases h : eqI x y with _ | _
  · rcases h2 : eqI y x with _ | _
    · rfl
    · rw [eqI_iff.2 (eqI_iff.1 h2).symm] at h; cases h
  · rw [eqI_iff.2 (eqI_iff.1 h).symm]
theorem any_snoc {l : List Im} {j : Nat} {y : Im} (h : l[j]? = some y) (f : Im → Bool) : (l.take (j + 1)).any f = ((l.take j).any f || f y) := by
  rw [List.take_add_one, h]
  simp
theorem misI_snoc {a s : List Im} {j : Nat} {x : Im} (h : s[j]? = some x) : misI a (s.take (j + 1)) = misI a (s.take j) ++ (if misB a x = true then [x] else []) := by
  unfold misI
  rw [List.take_add_one, h]
  simp only [Option.toList, List.filter_append]
  congr 1
  by_cases hm : misB a x = true
  · rw [if_pos hm]; simp [hm]
  · rw [if_neg hm]; simp [hm]
theorem misI_len (a s : List Im) (j : Nat) : (misI a (s.take j)).length ≤ j := Nat.le_trans (List.length_filter_le _ _) (by rw [List.length_take]; omega)
set_option maxHeartbeats 3200000 in
theorem p_index (l : List Im) (n : Nat) (hn : l.length = n) (hm : n ≤ 140737488351232) (x : Im) (A : Option Addr) (ca : Nat) (w : World) (hs : SeesP w (· < w.heap.size) A (Ics l)) :
    Calls Tryd.prog 66 #[.slice A n ca, .agg x.cs.toArray] w fun e w' => ∃ z : Int, e = .returned (.int .i64 z) ∧ decide (0 ≤ z) = l.any (eqI x) ∧ Below w.heap.size w w' := by
  have HS := Lib.hid (show _ ∧ _ from ⟨hs, hn⟩)
  have HB := Lib.hid (Below.refl w.heap.size w)
  clear hs hn
  go_enter Tryd.func66, Tryd.ntmps66
  go_wp2_with (first
    | ((with_reducible refine at_box_ (d := 3) ?_); refine wpList_box_v (op := ⟨some 3, _, _, _, _, _⟩) rfl 44 _ rfl x.cs rfl ?_; intro g3 w1 hf hr; have H1 := Lib.hid (show _ ∧ _ from ⟨hf.bl HB.out, hr⟩); clear hf hr))
  go_loopw [8] (fun i wr => ∃ (j : Nat), j ≤ n ∧ i = .int .i64 (j : Int) ∧ Hid (Below w.heap.size w wr ∧ RowV wr g3 x.cs ∧ (l.take j).any (eqI x) = false)) (fun i _ => n - (intOf i).toNat)
  case atStart => exact ⟨0, by omega, rfl, Lib.hid ⟨H1.out.1, H1.out.2, rfl⟩⟩
  case round =>
    obtain ⟨j, hj, rfl, HR⟩ := hrel
    by_cases hlt : j < n
    · have dj : decide ((j : Int) < (n : Int)) = true := by simp; omega
      obtain ⟨y, hy⟩ : ∃ y, l[j]? = some y := ⟨_, List.getElem?_eq_getElem (by rw [HS.out.2]; exact hlt)⟩
      obtain ⟨ab, ao, rfl, hb1, hr1⟩ := im_at HS.out.1 hy
      have HK := Lib.hid (fun cur (h : Below w.heap.size w cur) => rangeAt_on hr1 hb1 h)
      have HNX := Lib.hid (show (l.take (j + 1)).any (eqI x) = eqI x y ∧ (eqI x y = true → l.any (eqI x) = true) from ⟨by rw [any_snoc hy, HR.out.2.2]; rfl, fun h => List.any_eq_true.2 ⟨y, List.mem_of_getElem? hy, h⟩⟩)
      obtain ⟨q, hq⟩ : ∃ z, eqI x y = z := ⟨_, rfl⟩
      rw [hq] at HNX
      have HQ := Lib.hid hq
      clear hy hb1 hr1 hq
      go_wp2_with fail
      refine region_facts (by kernel_rfl) _ wr (fun c => Below wr.heap.size wr c ∧ RowV c g3 x.cs) 100 (factL [fun u _ => u = .agg x.cs.toArray, fun u _ => u = .slice (some ⟨ab, ao, none⟩) n ca, fun u _ => u = .int .i64 (j : Int), fun u _ => u = .pointer (some ⟨ab, ao + j * 5, none⟩), fun u _ => u = .agg y.cs.toArray, fun u _ => u = .bool q]) (by kernel_rfl) (firm_list (by simp only [List.forall_mem_cons]; exact ⟨firm_eq _, firm_eq _, firm_eq _, firm_eq _, firm_eq _, firm_eq _, fun X h => by cases h⟩)) (fun c c2 h hb => ⟨below_on h.1 hb, h.2.on hb⟩) (Below.refl _ _) ⟨Below.refl _ _, HR.out.2.1⟩ ?_ ?_
      · refine ops_all (allI.cons ?_ (allI.cons ?_ (allI.cons ?_ (allI.cons ?_ (allI.cons ?_ (allI.cons ?_ allI.nil)))))) <;> intro v S c a hI hw1 hX hSi hdep hS hC
        · exact o_ldv 44 (.tmp 3) rfl g3 (hS.old 3 rfl) x.cs _ hI.2 Tryd.underlying44 rfl size_x (Step.still rfl)
        · exact o_mv _ rfl (hS.old 0 rfl) (Step.still rfl)
        · exact o_mv _ rfl (hS.old 5 rfl) (Step.still rfl)
        · exact o_ix _ (.tmp 12) (.tmp 13) rfl ((hS.get 1 (dep_at hdep 1 rfl) rfl rfl).trans (hX 1 (dep_at hdep 1 rfl))) ((hS.get 2 (dep_at hdep 2 rfl) rfl rfl).trans (hX 2 (dep_at hdep 2 rfl))) (ix_x ab ao n ca j hlt _) (Step.still rfl)
        · exact wp_load_mid 44 (.tmp 14) rfl ab (ao + j * 5) ((hS.get 3 (dep_at hdep 3 rfl) rfl rfl).trans (hX 3 (dep_at hdep 3 rfl))) y.cs _ (HK.out _ (below_on HR.out.1 hI.1)) Tryd.underlying44 rfl (by rw [Im.cs_len]; exact size_x) (Step.still rfl)
        · exact o_bin .eql 44 44 (.tmp 11) (.tmp 15) rfl ((hS.get 0 (dep_at hdep 0 rfl) rfl rfl).trans (hX 0 (dep_at hdep 0 rfl))) ((hS.get 4 (dep_at hdep 4 rfl) rfl rfl).trans (hX 4 (dep_at hdep 4 rfl))) ((eql_info x y _ _ _).trans (by rw [HQ.out])) (Step.still rfl)
      · intro v c hI hX
        have e5 : v 5 = .bool q := hX 5 (by decide)
        have HE := Lib.hid (show Below w.heap.size w c ∧ RowV c g3 x.cs from ⟨below_on HR.out.1 hI.1, hI.2⟩)
        clear hI hX
        simp only [putAll, Act.put]
        simp
        rw [e5]
        clear e5
        rcases q with _ | _
        · go_wp2
          go_roundw
          case rel => exact ⟨j + 1, by omega, by first | rfl | go_num, Lib.hid ⟨HE.out.1, HE.out.2, HNX.out.1⟩⟩
          case measure => simp [intOf]; omega
        · go_wp2
          go_ret
          exact ⟨_, rfl, by rw [HNX.out.2 (by first | rfl | trivial)]; simp, HE.out.1⟩
    · obtain rfl : j = n := by omega
      have dj : decide ((j : Int) < (j : Int)) = false := by simp
      have HE := Lib.hid (show Below w.heap.size w wr ∧ l.any (eqI x) = false from ⟨HR.out.1, by
        have := HR.out.2.2
        rwa [List.take_of_length_le (by rw [HS.out.2]; exact Nat.le_refl _)] at this⟩)
      clear HR
      go_wp2
      go_ret
      exact ⟨_, rfl, by rw [HE.out.2]; decide, HE.out.1⟩
theorem p_contains (l : List Im) (n : Nat) (hn : l.length = n) (hm : n ≤ 140737488351232) (x : Im) (A : Option Addr) (ca : Nat) (w : World) (hs : SeesP w (· < w.heap.size) A (Ics l)) :
    Calls Tryd.prog 44 #[.slice A n ca, .agg x.cs.toArray] w fun e w' => e = .returned (.bool (l.any (eqI x))) ∧ Below w.heap.size w w' := by
  have HP := Lib.hid (fun u (hb : Below w.heap.size w u) => p_index l n hn hm x A ca u (SeesP.on2 hs hb))
  have HB := Lib.hid (Below.refl w.heap.size w)
  obtain ⟨q, hq⟩ : ∃ z, l.any (eqI x) = z := ⟨_, rfl⟩
  rw [hq] at HP ⊢
  clear hs hn hm hq
  go_enter Tryd.func44, Tryd.ntmps44
  go_wp2_with (first
    | ((with_reducible refine at_box_ (d := 3) ?_); refine wpList_box_v (op := ⟨some 3, _, _, _, _, _⟩) rfl 44 _ rfl x.cs rfl ?_; intro g3 w1 hf hr; have H1 := Lib.hid (show _ ∧ _ from ⟨hf.bl HB.out, hr⟩); clear hf hr)
    | ((with_reducible refine at_load_ (d := 6) ?_); refine wpList_load_v rfl 44 (.tmp 3) rfl g3 rfl x.cs _ H1.out.2 Tryd.underlying44 rfl (by rw [Im.cs_len]; exact size_x) ?_)
    | (go_at_call 66; ((with_reducible refine (HP.out _ H1.out.1).mono ?_); rintro e w2 ⟨z, rfl, hz, hb⟩); have H2 := Lib.hid (below_on H1.out.1 hb); clear hb))
  go_ret
  exact ⟨by first | rfl | (rw [hz]) | (simp only [hz]), H2.out⟩
def MisIs (w : World) (L : List Im) (e : Ending) (w' : World) : Prop := ∃ A c, e = .returned (.slice A L.length c) ∧ SeesP w' (newB w w') A (Ics L) ∧ Below w.heap.size w w'
set_option maxHeartbeats 3200000 in
theorem p_missing (a s : List Im) (na n : Nat) (hna : a.length = na) (hma : na ≤ 140737488351232) (hn : s.length = n) (hm : n * 40 ≤ 140737488351232) (A B : Option Addr) (ca cb : Nat) (w : World) (ha : SeesP w (· < w.heap.size) A (Ics a)) (hs : SeesP w (· < w.heap.size) B (Ics s)) :
    Calls Tryd.prog 25 #[.slice A na ca, .slice B n cb] w (MisIs w (misI a s)) := by
  obtain ⟨i0, hi, hz0, hz1, hz2⟩ := info_parts info_inf
  have HS := Lib.hid (show _ ∧ _ from ⟨hs, hn⟩)
  have HCN := Lib.hid (fun x u (hb : Below w.heap.size w u) => p_contains a na hna hma x A ca u (SeesP.on2 ha hb))
  clear hs hn ha hna hma
  go_enter Tryd.func25, Tryd.ntmps25
  go_wp2_with fail
  go_loopw [5, 10] (fun v i wr => ∃ (j : Nat), j ≤ n ∧ i = .int .i64 (j : Int) ∧ Hid (HeldI w wr v (misI a (s.take j)) ∧ Below w.heap.size w wr)) (fun _ i _ => n - (intOf i).toNat)
  case atStart => exact ⟨0, by omega, rfl, Lib.hid ⟨HeldI.start _ _, Below.refl _ _⟩⟩
  case round =>
    obtain ⟨j, hj, rfl, HR⟩ := hrel
    by_cases hlt : j < n
    · have dj : decide ((j : Int) < (n : Int)) = true := by simp; omega
      obtain ⟨x, hx⟩ : ∃ x, s[j]? = some x := ⟨_, List.getElem?_eq_getElem (by rw [HS.out.2]; exact hlt)⟩
      obtain ⟨b, off, rfl, hb, hr⟩ := im_at HS.out.1 hx
      have hstep := misI_snoc (a := a) hx
      obtain ⟨M, hM⟩ : ∃ z, misI a (s.take j) = z := ⟨_, rfl⟩
      have hMl := misI_len a s j
      rw [hM] at HR hstep hMl
      obtain ⟨jm, hjm⟩ : ∃ z, M.length = z := ⟨_, rfl⟩
      rw [hjm] at hMl
      have HJM := Lib.hid hjm
      have hqB : misB a x = (pwB x.p && !a.any (eqI x)) := rfl
      have HC := Lib.hid (fun u hb => HCN.out x u hb)
      obtain ⟨pq, hpq⟩ : ∃ z, pwB x.p = z := ⟨_, rfl⟩
      obtain ⟨cq, hcq⟩ : ∃ z, a.any (eqI x) = z := ⟨_, rfl⟩
      have hpw := fun w => p_pw x.p w
      rw [hpq, hcq] at hqB
      rw [hpq] at hpw
      rw [hcq] at HC
      have HU := Lib.hid (show (∀ cur, Below w.heap.size w cur → cur.rangeAt b (off + j * 5) x.cs) ∧ _ from ⟨fun cur h => rangeAt_on hr hb h, hpw⟩)
      have HST := Lib.hid (show misI a (s.take (j + 1)) = M ++ (if (pq && !cq) = true then [x] else []) from by rw [hstep, hqB])
      obtain ⟨p, hp⟩ : ∃ z, x.p = z := ⟨_, rfl⟩
      rw [hp] at HU
      have HP := Lib.hid (show x.cs[0]? = some (.int .i64 p) from by rw [← hp]; rfl)
      clear hx hb hr hstep hM hjm hqB hpq hcq hpw hp
      rcases pq with _ | _
      · go_wp2_with (first
          | ((with_reducible refine at_load_ (d := 13) ?_); refine wpList_load_mid rfl 44 (.tmp 12) rfl b (off + j * 5) rfl x.cs _ (HU.out.1 _ HR.out.2) Tryd.underlying44 rfl (by rw [Im.cs_len]; exact size_x) ?_)
          | ((with_reducible refine at_alloc_ (d := 7) ?_); refine wpList_alloc_v (op := ⟨some 7, _, _, _, _, _⟩) rfl 44 rfl zerX info_x ?_; intro g7 w1 hf hr; have H1 := Lib.hid (show _ ∧ _ from ⟨hf, hr⟩); clear hf hr)
          | ((with_reducible refine at_store_ (i := 7) ?_); refine wpList_store_v rfl 44 (.tmp 7) (.tmp 13) rfl g7 zerX x.cs rfl rfl H1.out.2 rfl (Im.cs_one _) size_x ?_; intro w2 hw hr; have H2 := Lib.hid (show Below wr.heap.size wr w2 ∧ RowV w2 g7 x.cs from ⟨H1.out.1.wr_bl hw, hr⟩); have y0 := (hr.cell 0).trans HP.out; clear hw hr)
          | (go_at_call 43; ((with_reducible refine (HU.out.2 _).mono ?_); rintro e w3 ⟨rfl, rfl⟩); have H3 := Lib.hid H2.out.1))
        go_roundw
        case rel => exact ⟨j + 1, by omega, by first | rfl | go_num, Lib.hid ⟨by rw [HST.out]; simp only [Bool.false_and, Bool.false_eq_true, if_false, List.append_nil]; exact HR.out.1.below H3.out, below_on HR.out.2 H3.out⟩⟩
        case measure => simp [intOf]; omega
      · rcases cq with _ | _
        all_goals
          go_wp2_with (first
          | ((with_reducible refine at_load_ (d := 13) ?_); refine wpList_load_mid rfl 44 (.tmp 12) rfl b (off + j * 5) rfl x.cs _ (HU.out.1 _ HR.out.2) Tryd.underlying44 rfl (by rw [Im.cs_len]; exact size_x) ?_)
          | ((with_reducible refine at_alloc_ (d := 7) ?_); refine wpList_alloc_v (op := ⟨some 7, _, _, _, _, _⟩) rfl 44 rfl zerX info_x ?_; intro g7 w1 hf hr; have H1 := Lib.hid (show _ ∧ _ from ⟨hf, hr⟩); clear hf hr)
          | ((with_reducible refine at_store_ (i := 7) ?_); refine wpList_store_v rfl 44 (.tmp 7) (.tmp 13) rfl g7 zerX x.cs rfl rfl H1.out.2 rfl (Im.cs_one _) size_x ?_; intro w2 hw hr; have H2 := Lib.hid (show Below wr.heap.size wr w2 ∧ RowV w2 g7 x.cs from ⟨H1.out.1.wr_bl hw, hr⟩); have y0 := (hr.cell 0).trans HP.out; clear hw hr)
          | (go_at_call 43; ((with_reducible refine (HU.out.2 _).mono ?_); rintro e w3 ⟨rfl, rfl⟩); have H3 := Lib.hid H2.out)
          | ((with_reducible refine at_load_ (d := 19) ?_); refine wpList_load_vg (by rfl) 44 (.tmp 7) rfl g7 rfl x.cs _ H3.out.2 Tryd.underlying44 rfl (by rw [Im.cs_len]; exact size_x) ?_)
          | (go_at_call 44; ((with_reducible refine (HC.out _ (below_on HR.out.2 H3.out.1)).mono ?_); rintro e w4 ⟨rfl, hb⟩); have H4 := Lib.hid (show Below wr.heap.size wr w4 ∧ RowV w4 g7 x.cs from ⟨below_on H3.out.1 hb, H3.out.2.on hb⟩); clear hb)
          | ((with_reducible refine at_load_ (d := 24) ?_); refine wpList_load_v rfl 44 (.tmp 7) rfl g7 rfl x.cs _ H4.out.2 Tryd.underlying44 rfl (by rw [Im.cs_len]; exact size_x) ?_)
          | ((with_reducible refine at_any_ (d := 25) ?_); go_must (refine wpList_bslV rfl 22 44 1 _ rfl Tryd.underlying22 (pe1 rfl) (bsx x) ?_); intro g9 wf hf hr; have H9 := Lib.hid (show Below wr.heap.size wr wf ∧ RowV wf g9 x.cs from ⟨below_on H4.out.1 hf.bw, hr⟩); clear hf hr)
          | ((with_reducible refine at_call_ (d := 26) ?_); have HO := HR.out.1; unfold HeldI at HO; rw [HJM.out] at HO; go_must (refine wpList_append_lies _ rfl (.tmp 23) (.tmp 25) 22 rfl w.heap.size 44 i0 _ 5 40 Tryd.underlying22 hi hz0 hz1 hz2 rfl (by decide) u5 jm (Ics M) rfl (own3_on HO H9.out.1) ⟨g9, 0, none⟩ 1 1 x.cs rfl rfl (RowV.src H9.out.2) (Im.cs_one _) (by decide) (by unfold maxLen; omega) (by omega) (Nat.le_trans HR.out.2.size H9.out.1.size) _ rfl ?_); intro g10 c10 wg ho hg hl hltg; have H10 := Lib.hid (show HeldI w wg (.slice (some ⟨g10, 0, none⟩) (jm + 1) c10) (M ++ [x]) ∧ Below w.heap.size w wg from ⟨by unfold HeldI; rw [Ics_snoc, List.length_append, HJM.out]; exact ho, row_below (below_on HR.out.2 H9.out.1) hg fun k e => (own_lt3 HO k e).1⟩); clear ho hg hl hltg HO))
        · go_roundw
          case rel => exact ⟨j + 1, by omega, by first | rfl | go_num, Lib.hid ⟨by rw [HST.out]; exact H10.out.1, H10.out.2⟩⟩
          case measure => simp [intOf]; omega
        · go_roundw
          case rel => exact ⟨j + 1, by omega, by first | rfl | go_num, Lib.hid ⟨by rw [HST.out]; simp only [Bool.not_true, Bool.and_false, Bool.false_eq_true, if_false, List.append_nil]; exact HR.out.1.below H4.out.1, below_on HR.out.2 H4.out.1⟩⟩
          case measure => simp [intOf]; omega
    · obtain rfl : j = n := by omega
      have dj : decide ((j : Int) < (j : Int)) = false := by simp
      have hh := HR.out.1
      rw [List.take_of_length_le (by rw [HS.out.2]; exact Nat.le_refl _)] at hh
      have HE := Lib.hid (show MisIs w (misI a s) (.returned u5) wr from by
        obtain ⟨A', c', e, _, h3⟩ := HeldI.slice hh
        exact ⟨A', c', by rw [e], h3, HR.out.2⟩)
      clear HR hh
      go_wp2
      go_ret
      exact HE.out
end Go.Proofs.YtcapbojjceeapaaDoor
