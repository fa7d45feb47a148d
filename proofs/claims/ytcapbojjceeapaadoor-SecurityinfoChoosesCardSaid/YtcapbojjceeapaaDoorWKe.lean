/-
  What is proved here: what an open list lacks of a signed one, by the reference.
-/
import Derived.Test.YtcapbojjceeapaaDoorWKd
import Derived.BigQuiet
namespace Go.Proofs.YtcapbojjceeapaaDoor
open Go.RowKit
set_option maxRecDepth 8000
set_option linter.unusedVariables false
set_option linter.unusedSimpArgs false
theorem quiet_bin {P : Program} {ops : Array Oper} {C : World → Prop} {Q : Act → Prop} {a : Act} {o : Oper} {rest : List Oper} (hw : Region.wanted o (yielded ops a.tmps) = true) (b : BinOp) (T T2 : TypeId) (x y : Operand) (ho : o.op = .binOp b T x y T2) {v vx vy : Value} (hx : a.eval x = vx) (hy : a.eval y = vy)
    (hr : ∀ w, (do eqGuard b T x y vx vy; binOp b T vx vy).run P w = .ok v w) (hK : wpQuiet P ops C Q rest (a.put o.dst v)) : wpQuiet P ops C Q (o :: rest) a := by
  refine Go.BigFrame.wpQuiet_want hw fun K hKK => ?_
  refine ⟨_, fun w hc => ?_, hKK _ hK⟩
  unfold Oper.quietAt execOp
  simp only [ho, hx, hy]
  rw [Sem.run_bind, hr]
  exact ⟨rfl, rfl⟩
theorem at_qany_ {P : Program} {ops : Array Oper} {C : World → Prop} {Q : Act → Prop} {a : Act} {d : Nat} {rest : List Oper} {op : Op} {t : TypeId} {ps : String} {af : Array Edge} {gd : Option (Nat × Bool)}
    (h : wpQuiet P ops C Q (⟨some d, op, t, ps, af, gd⟩ :: rest) a) : wpQuiet P ops C Q (⟨some d, op, t, ps, af, gd⟩ :: rest) a := h
set_option maxHeartbeats 6400000 in
theorem r_missing (a s : List Im) (na n : Nat) (hna : a.length = na) (hma : na ≤ 140737488351232) (hn : s.length = n) (hm : n * 40 ≤ 140737488351232) (A B : Option Addr) (ca cb : Nat) (w : World) (ha : SeesP w (· < w.heap.size) A (Ics a)) (hs : SeesP w (· < w.heap.size) B (Ics s)) :
    Calls Tryd.prog 26 #[.slice A na ca, .slice B n cb] w (MisIs w (misI a s)) := by
  obtain ⟨i0, hi, hz0, hz1, hz2⟩ := info_parts info_inf
  have HS := Lib.hid (show _ ∧ _ from ⟨hs, hn⟩)
  have HA := Lib.hid (show _ ∧ _ from ⟨ha, hna⟩)
  clear hs hn ha hna
  go_enter Tryd.func26, Tryd.ntmps26
  go_wp2_with fail
  go_loopw [5, 6] (fun v i wr => ∃ (j : Nat), j ≤ n ∧ i = .int .i64 (j : Int) ∧ Hid (HeldI w wr v (misI a (s.take j)) ∧ Below w.heap.size w wr)) (fun _ i _ => n - (intOf i).toNat)
  case atStart => exact ⟨0, by omega, rfl, Lib.hid ⟨HeldI.start _ _, Below.refl _ _⟩⟩
  case round =>
    obtain ⟨j, hj, rfl, HR⟩ := hrel
    by_cases hlt : j < n
    · have dj : decide ((j : Int) < (n : Int)) = true := by simp; omega
      obtain ⟨x, hx⟩ : ∃ x, s[j]? = some x := ⟨_, List.getElem?_eq_getElem (by rw [HS.out.2]; exact hlt)⟩
      obtain ⟨b, off, rfl, hb, hr⟩ := im_at HS.out.1 hx
      have hstep := misI_snoc (a := a) hx
      obtain ⟨M, hM⟩ : ∃ z, misI a (s.take j) = z := ⟨_, rfl⟩
      have hMl := misI_len a s j
      rw [hM] at HR hstep hMl
      obtain ⟨jm, hjm⟩ : ∃ z, M.length = z := ⟨_, rfl⟩
      rw [hjm] at hMl
      have HJM := Lib.hid hjm
      obtain ⟨p, hp⟩ : ∃ z, x.p = z := ⟨_, rfl⟩
      obtain ⟨b2, hb2⟩ : ∃ z, (p != 2) = z := ⟨_, rfl⟩
      obtain ⟨b3, hb3⟩ : ∃ z, (p != 3) = z := ⟨_, rfl⟩
      have hpw : pwB x.p = !(b2 && b3) := by
        rw [hp, ← hb2, ← hb3]
        unfold pwB
        by_cases h2 : p = 2 <;> by_cases h3 : p = 3 <;> simp [h2, h3]
      have hqB : misB a x = (pwB x.p && !a.any (eqI x)) := rfl
      rw [hpw] at hqB
      have HU := Lib.hid (show (∀ cur, Below w.heap.size w cur → cur.rangeAt b (off + j * 5) x.cs) ∧ x.cs[0]? = some (.int .i64 p) from ⟨fun cur h => rangeAt_on hr hb h, by rw [← hp]; rfl⟩)
      have HST := Lib.hid (show misI a (s.take (j + 1)) = M ++ (if (!((b2 && b3) || a.any (eqI x))) = true then [x] else []) from by rw [hstep, hqB]; congr 2; cases b2 <;> cases b3 <;> simp)
      clear hx hb hr hstep hM hjm hqB hpw hp
      have HR_out := Lib.hid HR.out.2
      obtain ⟨wr0, hwr0⟩ : ∃ z, z = wr := ⟨_, rfl⟩
      subst hwr0
      rcases b2 with _ | _
      · have HST2 := Lib.hid (show misI a (s.take (j + 1)) = M ++ (if (!(false || a.any (eqI x))) = true then [x] else []) from HST.out)
        clear HST
        have HST := Lib.hid HST2.out
        clear HST2
        go_wp2_with (first
          | ((with_reducible refine at_load_ (d := 19) ?_); refine wpList_load_mid rfl 44 (.tmp 18) rfl b (off + j * 5) rfl x.cs _ (HU.out.1 _ HR_out.out) Tryd.underlying44 rfl (by rw [Im.cs_len]; exact size_x) ?_)
          | ((with_reducible refine at_alloc_ (d := 7) ?_); refine wpList_alloc_v (op := ⟨some 7, _, _, _, _, _⟩) rfl 44 rfl zerX info_x ?_; intro g7 w1 hf hr; have H1 := Lib.hid (show _ ∧ _ from ⟨hf, hr⟩); clear hf hr)
          | ((with_reducible refine at_store_ (i := 7) ?_); refine wpList_store_v rfl 44 (.tmp 7) (.tmp 19) rfl g7 zerX x.cs rfl rfl H1.out.2 rfl (Im.cs_one _) size_x ?_; intro w2 hw hr; have H2 := Lib.hid (show Below wr0.heap.size wr0 w2 ∧ RowV w2 g7 x.cs from ⟨H1.out.1.wr_bl hw, hr⟩); have y0 := (hr.cell 0).trans HU.out.2; clear hw hr))
        go_loopw [8, 9] (fun v i wq => ∃ (k : Nat), k ≤ na ∧ i = .int .i64 (k : Int) ∧ Hid (∃ q, v = .bool q ∧ q = (false || (a.take k).any (eqI x)) ∧ Below wr0.heap.size wr0 wq ∧ RowV wq g7 x.cs)) (fun _ i _ => na - (intOf i).toNat)
        case atStart => exact ⟨0, by omega, rfl, Lib.hid ⟨_, rfl, rfl, H2.out.1, H2.out.2⟩⟩
        case round =>
          obtain ⟨k, hk, rfl, HQx⟩ := hrel
          obtain ⟨q, rfl, hq, hbw, hrw⟩ := HQx.out
          have HQ := Lib.hid (show _ ∧ _ ∧ _ from ⟨hq, hbw, hrw⟩)
          clear HQx hq hbw hrw
          by_cases hlk : k < na
          · have dk : decide ((k : Int) < (na : Int)) = true := by simp; omega
            obtain ⟨y, hy⟩ : ∃ y, a[k]? = some y := ⟨_, List.getElem?_eq_getElem (by rw [HA.out.2]; exact hlk)⟩
            obtain ⟨ab, ao, rfl, hb1, hr1⟩ := im_at HA.out.1 hy
            have HK := Lib.hid (fun cur (h : Below w.heap.size w cur) => rangeAt_on hr1 hb1 h)
            obtain ⟨e, he⟩ : ∃ z, eqI y x = z := ⟨_, rfl⟩
            have HE := Lib.hid he
            have HNX := Lib.hid (show (false || (a.take (k + 1)).any (eqI x)) = (q || e) from by rw [any_snoc hy, HQ.out.1, eqI_comm x y, he, Bool.or_assoc])
            have ixk := fun w => ix_x ab ao na ca k hlk w
            clear hy hb1 hr1 he
            rcases q with _ | _
            · rcases e with _ | _
              all_goals
               go_wp2_with fail
               refine wp_region_quiet_below (by kernel_rfl) (by kernel_rfl) ?_
               repeat (first
                | ((with_reducible refine at_qload_ (d := 39) ?_); refine quiet_load_mid rfl _ _ rfl ab (ao + k * 5) rfl y.cs _ (range_up fun w' hb => HK.out _ (below_on (below_on HR_out.out HQ.out.2.1) hb)) Tryd.underlying44 rfl (by rw [Im.cs_len]; exact size_x) ?_; simp only [Act.put]; simp)
                | ((with_reducible refine at_qload_ (d := 40) ?_); refine quiet_load_mid rfl _ _ rfl g7 0 rfl x.cs _ (range_up fun w' hb => (HQ.out.2.2.on hb).whole) Tryd.underlying44 rfl (by rw [Im.cs_len]; exact size_x) ?_; simp only [Act.put]; simp)
                | ((with_reducible refine at_qany_ (d := 41) ?_); refine quiet_bin rfl .eql 44 44 (.tmp 39) (.tmp 40) rfl rfl rfl (fun w => (eql_info y x _ _ w).trans (by rw [HE.out])) ?_; simp only [Act.put]; simp)
                | go_big_quiet_skip | (go_big_quiet_want; go_big_quiet_op; go_big_quiet_on))
               refine wpQuiet_nil ?_
               intro p7
               have hw7 : ∃ p : Regrown, Go.Sort.grow (redrawn wr p7.d) p7.os = Go.Sort.grow (redrawn wr p.d) p.os := ⟨p7, rfl⟩
               generalize Go.Sort.grow (redrawn wr p7.d) p7.os = w7 at hw7 ⊢
               have H7 := Lib.hid (show Below wr0.heap.size wr0 w7 ∧ RowV w7 g7 x.cs from ⟨below_on HQ.out.2.1 (below_of_regrown hw7), HQ.out.2.2.on (below_of_regrown hw7)⟩)
               clear hw7 ixk
               go_wp2
               go_roundw
               case rel => exact ⟨k + 1, by omega, by first | rfl | go_num, Lib.hid ⟨_, rfl, HNX.out.symm, H7.out.1, H7.out.2⟩⟩
               case measure => simp [intOf]; omega
            · go_wp2_with fail
              refine wp_region_quiet_below (by kernel_rfl) (by kernel_rfl) ?_
              repeat (first | go_big_quiet_skip | (go_big_quiet_want; go_big_quiet_op; go_big_quiet_on))
              refine wpQuiet_nil ?_
              intro w7 hw7
              have H7 := Lib.hid (show Below wr0.heap.size wr0 w7 ∧ RowV w7 g7 x.cs from ⟨below_on HQ.out.2.1 (below_of_regrown hw7), HQ.out.2.2.on (below_of_regrown hw7)⟩)
              clear hw7 ixk
              go_wp2
              go_roundw
              case rel => exact ⟨k + 1, by omega, by first | rfl | go_num, Lib.hid ⟨true, rfl, HNX.out.symm, H7.out.1, H7.out.2⟩⟩
              case measure => simp [intOf]; omega
          · obtain rfl : k = na := by omega
            have dk : decide ((k : Int) < (k : Int)) = false := by simp
            have HF := Lib.hid (show misI a (s.take (j + 1)) = M ++ (if (!q) = true then [x] else []) from by
              have h := HQ.out.1
              rw [List.take_of_length_le (by rw [HA.out.2]; exact Nat.le_refl _)] at h
              rw [HST.out, h])
            have H4 := Lib.hid (show _ ∧ _ from ⟨HQ.out.2.1, HQ.out.2.2⟩)
            clear HQ
            rcases q with _ | _
            · go_wp2_with (first
                | ((with_reducible refine at_load_ (d := 46) ?_); refine wpList_load_v rfl 44 (.tmp 7) rfl g7 rfl x.cs _ H4.out.2 Tryd.underlying44 rfl (by rw [Im.cs_len]; exact size_x) ?_)
                | ((with_reducible refine at_any_ (d := 47) ?_); go_must (refine wpList_bslV rfl 22 44 1 _ rfl Tryd.underlying22 (pe1 rfl) (bsx x) ?_); intro g9 wf hf hr; have H9 := Lib.hid (show Below wr0.heap.size wr0 wf ∧ RowV wf g9 x.cs from ⟨below_on H4.out.1 hf.bw, hr⟩); clear hf hr)
                | ((with_reducible refine at_call_ (d := 48) ?_); have HO := HR.out.1; unfold HeldI at HO; rw [HJM.out] at HO; go_must (refine wpList_append_lies _ rfl (.tmp 45) (.tmp 47) 22 rfl w.heap.size 44 i0 _ 5 40 Tryd.underlying22 hi hz0 hz1 hz2 rfl (by decide) u5 jm (Ics M) rfl (own3_on HO H9.out.1) ⟨g9, 0, none⟩ 1 1 x.cs rfl rfl (RowV.src H9.out.2) (Im.cs_one _) (by decide) (by unfold maxLen; omega) (by omega) (Nat.le_trans HR.out.2.size H9.out.1.size) _ rfl ?_); intro g10 c10 wg ho hg hl hltg; have H10 := Lib.hid (show HeldI w wg (.slice (some ⟨g10, 0, none⟩) (jm + 1) c10) (M ++ [x]) ∧ Below w.heap.size w wg from ⟨by unfold HeldI; rw [Ics_snoc, List.length_append, HJM.out]; exact ho, row_below (below_on HR.out.2 H9.out.1) hg fun k e => (own_lt3 HO k e).1⟩); clear ho hg hl hltg HO))
              go_roundw
              case rel => exact ⟨j + 1, by omega, by first | rfl | go_num, Lib.hid ⟨by rw [HF.out]; exact H10.out.1, H10.out.2⟩⟩
              case measure => simp [intOf]; omega
            · go_wp2_with fail
              go_roundw
              case rel => exact ⟨j + 1, by omega, by first | rfl | go_num, Lib.hid ⟨by rw [HF.out]; simp only [Bool.not_true, Bool.false_eq_true, if_false, List.append_nil]; exact HR.out.1.below H4.out.1, below_on HR.out.2 H4.out.1⟩⟩
              case measure => simp [intOf]; omega
      · rcases b3 with _ | _
        · have HST2 := Lib.hid (show misI a (s.take (j + 1)) = M ++ (if (!(false || a.any (eqI x))) = true then [x] else []) from HST.out)
          clear HST
          have HST := Lib.hid HST2.out
          clear HST2
          go_wp2_with (first
            | ((with_reducible refine at_load_ (d := 19) ?_); refine wpList_load_mid rfl 44 (.tmp 18) rfl b (off + j * 5) rfl x.cs _ (HU.out.1 _ HR_out.out) Tryd.underlying44 rfl (by rw [Im.cs_len]; exact size_x) ?_)
            | ((with_reducible refine at_alloc_ (d := 7) ?_); refine wpList_alloc_v (op := ⟨some 7, _, _, _, _, _⟩) rfl 44 rfl zerX info_x ?_; intro g7 w1 hf hr; have H1 := Lib.hid (show _ ∧ _ from ⟨hf, hr⟩); clear hf hr)
            | ((with_reducible refine at_store_ (i := 7) ?_); refine wpList_store_v rfl 44 (.tmp 7) (.tmp 19) rfl g7 zerX x.cs rfl rfl H1.out.2 rfl (Im.cs_one _) size_x ?_; intro w2 hw hr; have H2 := Lib.hid (show Below wr0.heap.size wr0 w2 ∧ RowV w2 g7 x.cs from ⟨H1.out.1.wr_bl hw, hr⟩); have y0 := (hr.cell 0).trans HU.out.2; clear hw hr))
          go_loopw [8, 9] (fun v i wq => ∃ (k : Nat), k ≤ na ∧ i = .int .i64 (k : Int) ∧ Hid (∃ q, v = .bool q ∧ q = (false || (a.take k).any (eqI x)) ∧ Below wr0.heap.size wr0 wq ∧ RowV wq g7 x.cs)) (fun _ i _ => na - (intOf i).toNat)
          case atStart => exact ⟨0, by omega, rfl, Lib.hid ⟨_, rfl, rfl, H2.out.1, H2.out.2⟩⟩
          case round =>
            obtain ⟨k, hk, rfl, HQx⟩ := hrel
            obtain ⟨q, rfl, hq, hbw, hrw⟩ := HQx.out
            have HQ := Lib.hid (show _ ∧ _ ∧ _ from ⟨hq, hbw, hrw⟩)
            clear HQx hq hbw hrw
            by_cases hlk : k < na
            · have dk : decide ((k : Int) < (na : Int)) = true := by simp; omega
              obtain ⟨y, hy⟩ : ∃ y, a[k]? = some y := ⟨_, List.getElem?_eq_getElem (by rw [HA.out.2]; exact hlk)⟩
              obtain ⟨ab, ao, rfl, hb1, hr1⟩ := im_at HA.out.1 hy
              have HK := Lib.hid (fun cur (h : Below w.heap.size w cur) => rangeAt_on hr1 hb1 h)
              obtain ⟨e, he⟩ : ∃ z, eqI y x = z := ⟨_, rfl⟩
              have HE := Lib.hid he
              have HNX := Lib.hid (show (false || (a.take (k + 1)).any (eqI x)) = (q || e) from by rw [any_snoc hy, HQ.out.1, eqI_comm x y, he, Bool.or_assoc])
              have ixk := fun w => ix_x ab ao na ca k hlk w
              clear hy hb1 hr1 he
              rcases q with _ | _
              · rcases e with _ | _
                all_goals
                 go_wp2_with fail
                 refine wp_region_quiet_below (by kernel_rfl) (by kernel_rfl) ?_
                 repeat (first
                  | ((with_reducible refine at_qload_ (d := 39) ?_); refine quiet_load_mid rfl _ _ rfl ab (ao + k * 5) rfl y.cs _ (range_up fun w' hb => HK.out _ (below_on (below_on HR_out.out HQ.out.2.1) hb)) Tryd.underlying44 rfl (by rw [Im.cs_len]; exact size_x) ?_; simp only [Act.put]; simp)
                  | ((with_reducible refine at_qload_ (d := 40) ?_); refine quiet_load_mid rfl _ _ rfl g7 0 rfl x.cs _ (range_up fun w' hb => (HQ.out.2.2.on hb).whole) Tryd.underlying44 rfl (by rw [Im.cs_len]; exact size_x) ?_; simp only [Act.put]; simp)
                  | ((with_reducible refine at_qany_ (d := 41) ?_); refine quiet_bin rfl .eql 44 44 (.tmp 39) (.tmp 40) rfl rfl rfl (fun w => (eql_info y x _ _ w).trans (by rw [HE.out])) ?_; simp only [Act.put]; simp)
                  | go_big_quiet_skip | (go_big_quiet_want; go_big_quiet_op; go_big_quiet_on))
                 refine wpQuiet_nil ?_
                 intro p7
                 have hw7 : ∃ p : Regrown, Go.Sort.grow (redrawn wr p7.d) p7.os = Go.Sort.grow (redrawn wr p.d) p.os := ⟨p7, rfl⟩
                 generalize Go.Sort.grow (redrawn wr p7.d) p7.os = w7 at hw7 ⊢
                 have H7 := Lib.hid (show Below wr0.heap.size wr0 w7 ∧ RowV w7 g7 x.cs from ⟨below_on HQ.out.2.1 (below_of_regrown hw7), HQ.out.2.2.on (below_of_regrown hw7)⟩)
                 clear hw7 ixk
                 go_wp2
                 go_roundw
                 case rel => exact ⟨k + 1, by omega, by first | rfl | go_num, Lib.hid ⟨_, rfl, HNX.out.symm, H7.out.1, H7.out.2⟩⟩
                 case measure => simp [intOf]; omega
              · go_wp2_with fail
                refine wp_region_quiet_below (by kernel_rfl) (by kernel_rfl) ?_
                repeat (first | go_big_quiet_skip | (go_big_quiet_want; go_big_quiet_op; go_big_quiet_on))
                refine wpQuiet_nil ?_
                intro w7 hw7
                have H7 := Lib.hid (show Below wr0.heap.size wr0 w7 ∧ RowV w7 g7 x.cs from ⟨below_on HQ.out.2.1 (below_of_regrown hw7), HQ.out.2.2.on (below_of_regrown hw7)⟩)
                clear hw7 ixk
                go_wp2
                go_roundw
                case rel => exact ⟨k + 1, by omega, by first | rfl | go_num, Lib.hid ⟨true, rfl, HNX.out.symm, H7.out.1, H7.out.2⟩⟩
                case measure => simp [intOf]; omega
            · obtain rfl : k = na := by omega
              have dk : decide ((k : Int) < (k : Int)) = false := by simp
              have HF := Lib.hid (show misI a (s.take (j + 1)) = M ++ (if (!q) = true then [x] else []) from by
                have h := HQ.out.1
                rw [List.take_of_length_le (by rw [HA.out.2]; exact Nat.le_refl _)] at h
                rw [HST.out, h])
              have H4 := Lib.hid (show _ ∧ _ from ⟨HQ.out.2.1, HQ.out.2.2⟩)
              clear HQ
              rcases q with _ | _
              · go_wp2_with (first
                  | ((with_reducible refine at_load_ (d := 46) ?_); refine wpList_load_v rfl 44 (.tmp 7) rfl g7 rfl x.cs _ H4.out.2 Tryd.underlying44 rfl (by rw [Im.cs_len]; exact size_x) ?_)
                  | ((with_reducible refine at_any_ (d := 47) ?_); go_must (refine wpList_bslV rfl 22 44 1 _ rfl Tryd.underlying22 (pe1 rfl) (bsx x) ?_); intro g9 wf hf hr; have H9 := Lib.hid (show Below wr0.heap.size wr0 wf ∧ RowV wf g9 x.cs from ⟨below_on H4.out.1 hf.bw, hr⟩); clear hf hr)
                  | ((with_reducible refine at_call_ (d := 48) ?_); have HO := HR.out.1; unfold HeldI at HO; rw [HJM.out] at HO; go_must (refine wpList_append_lies _ rfl (.tmp 45) (.tmp 47) 22 rfl w.heap.size 44 i0 _ 5 40 Tryd.underlying22 hi hz0 hz1 hz2 rfl (by decide) u5 jm (Ics M) rfl (own3_on HO H9.out.1) ⟨g9, 0, none⟩ 1 1 x.cs rfl rfl (RowV.src H9.out.2) (Im.cs_one _) (by decide) (by unfold maxLen; omega) (by omega) (Nat.le_trans HR.out.2.size H9.out.1.size) _ rfl ?_); intro g10 c10 wg ho hg hl hltg; have H10 := Lib.hid (show HeldI w wg (.slice (some ⟨g10, 0, none⟩) (jm + 1) c10) (M ++ [x]) ∧ Below w.heap.size w wg from ⟨by unfold HeldI; rw [Ics_snoc, List.length_append, HJM.out]; exact ho, row_below (below_on HR.out.2 H9.out.1) hg fun k e => (own_lt3 HO k e).1⟩); clear ho hg hl hltg HO))
                go_roundw
                case rel => exact ⟨j + 1, by omega, by first | rfl | go_num, Lib.hid ⟨by rw [HF.out]; exact H10.out.1, H10.out.2⟩⟩
                case measure => simp [intOf]; omega
              · go_wp2_with fail
                go_roundw
                case rel => exact ⟨j + 1, by omega, by first | rfl | go_num, Lib.hid ⟨by rw [HF.out]; simp only [Bool.not_true, Bool.false_eq_true, if_false, List.append_nil]; exact HR.out.1.below H4.out.1, below_on HR.out.2 H4.out.1⟩⟩
                case measure => simp [intOf]; omega
        · have HST2 := Lib.hid (show misI a (s.take (j + 1)) = M ++ (if (!(true || a.any (eqI x))) = true then [x] else []) from HST.out)
          clear HST
          have HST := Lib.hid HST2.out
          clear HST2
          go_wp2_with (first
            | ((with_reducible refine at_load_ (d := 19) ?_); refine wpList_load_mid rfl 44 (.tmp 18) rfl b (off + j * 5) rfl x.cs _ (HU.out.1 _ HR_out.out) Tryd.underlying44 rfl (by rw [Im.cs_len]; exact size_x) ?_)
            | ((with_reducible refine at_alloc_ (d := 7) ?_); refine wpList_alloc_v (op := ⟨some 7, _, _, _, _, _⟩) rfl 44 rfl zerX info_x ?_; intro g7 w1 hf hr; have H1 := Lib.hid (show _ ∧ _ from ⟨hf, hr⟩); clear hf hr)
            | ((with_reducible refine at_store_ (i := 7) ?_); refine wpList_store_v rfl 44 (.tmp 7) (.tmp 19) rfl g7 zerX x.cs rfl rfl H1.out.2 rfl (Im.cs_one _) size_x ?_; intro w2 hw hr; have H2 := Lib.hid (show Below wr0.heap.size wr0 w2 ∧ RowV w2 g7 x.cs from ⟨H1.out.1.wr_bl hw, hr⟩); have y0 := (hr.cell 0).trans HU.out.2; clear hw hr))
          go_loopw [8, 9] (fun v i wq => ∃ (k : Nat), k ≤ na ∧ i = .int .i64 (k : Int) ∧ Hid (∃ q, v = .bool q ∧ q = (true || (a.take k).any (eqI x)) ∧ Below wr0.heap.size wr0 wq ∧ RowV wq g7 x.cs)) (fun _ i _ => na - (intOf i).toNat)
          case atStart => exact ⟨0, by omega, rfl, Lib.hid ⟨_, rfl, rfl, H2.out.1, H2.out.2⟩⟩
          case round =>
            obtain ⟨k, hk, rfl, HQx⟩ := hrel
            obtain ⟨q, rfl, hq, hbw, hrw⟩ := HQx.out
            have HQ := Lib.hid (show _ ∧ _ ∧ _ from ⟨hq, hbw, hrw⟩)
            clear HQx hq hbw hrw
            by_cases hlk : k < na
            · have dk : decide ((k : Int) < (na : Int)) = true := by simp; omega
              obtain ⟨y, hy⟩ : ∃ y, a[k]? = some y := ⟨_, List.getElem?_eq_getElem (by rw [HA.out.2]; exact hlk)⟩
              obtain ⟨ab, ao, rfl, hb1, hr1⟩ := im_at HA.out.1 hy
              have HK := Lib.hid (fun cur (h : Below w.heap.size w cur) => rangeAt_on hr1 hb1 h)
              obtain ⟨e, he⟩ : ∃ z, eqI y x = z := ⟨_, rfl⟩
              have HE := Lib.hid he
              have HNX := Lib.hid (show (true || (a.take (k + 1)).any (eqI x)) = (q || e) from by rw [any_snoc hy, HQ.out.1, eqI_comm x y, he, Bool.or_assoc])
              have ixk := fun w => ix_x ab ao na ca k hlk w
              clear hy hb1 hr1 he
              rcases q with _ | _
              · rcases e with _ | _
                all_goals
                 go_wp2_with fail
                 refine wp_region_quiet_below (by kernel_rfl) (by kernel_rfl) ?_
                 repeat (first
                  | ((with_reducible refine at_qload_ (d := 39) ?_); refine quiet_load_mid rfl _ _ rfl ab (ao + k * 5) rfl y.cs _ (range_up fun w' hb => HK.out _ (below_on (below_on HR_out.out HQ.out.2.1) hb)) Tryd.underlying44 rfl (by rw [Im.cs_len]; exact size_x) ?_; simp only [Act.put]; simp)
                  | ((with_reducible refine at_qload_ (d := 40) ?_); refine quiet_load_mid rfl _ _ rfl g7 0 rfl x.cs _ (range_up fun w' hb => (HQ.out.2.2.on hb).whole) Tryd.underlying44 rfl (by rw [Im.cs_len]; exact size_x) ?_; simp only [Act.put]; simp)
                  | ((with_reducible refine at_qany_ (d := 41) ?_); refine quiet_bin rfl .eql 44 44 (.tmp 39) (.tmp 40) rfl rfl rfl (fun w => (eql_info y x _ _ w).trans (by rw [HE.out])) ?_; simp only [Act.put]; simp)
                  | go_big_quiet_skip | (go_big_quiet_want; go_big_quiet_op; go_big_quiet_on))
                 refine wpQuiet_nil ?_
                 intro p7
                 have hw7 : ∃ p : Regrown, Go.Sort.grow (redrawn wr p7.d) p7.os = Go.Sort.grow (redrawn wr p.d) p.os := ⟨p7, rfl⟩
                 generalize Go.Sort.grow (redrawn wr p7.d) p7.os = w7 at hw7 ⊢
                 have H7 := Lib.hid (show Below wr0.heap.size wr0 w7 ∧ RowV w7 g7 x.cs from ⟨below_on HQ.out.2.1 (below_of_regrown hw7), HQ.out.2.2.on (below_of_regrown hw7)⟩)
                 clear hw7 ixk
                 go_wp2
                 go_roundw
                 case rel => exact ⟨k + 1, by omega, by first | rfl | go_num, Lib.hid ⟨_, rfl, HNX.out.symm, H7.out.1, H7.out.2⟩⟩
                 case measure => simp [intOf]; omega
              · go_wp2_with fail
                refine wp_region_quiet_below (by kernel_rfl) (by kernel_rfl) ?_
                repeat (first | go_big_quiet_skip | (go_big_quiet_want; go_big_quiet_op; go_big_quiet_on))
                refine wpQuiet_nil ?_
                intro w7 hw7
                have H7 := Lib.hid (show Below wr0.heap.size wr0 w7 ∧ RowV w7 g7 x.cs from ⟨below_on HQ.out.2.1 (below_of_regrown hw7), HQ.out.2.2.on (below_of_regrown hw7)⟩)
                clear hw7 ixk
                go_wp2
                go_roundw
                case rel => exact ⟨k + 1, by omega, by first | rfl | go_num, Lib.hid ⟨true, rfl, HNX.out.symm, H7.out.1, H7.out.2⟩⟩
                case measure => simp [intOf]; omega
            · obtain rfl : k = na := by omega
              have dk : decide ((k : Int) < (k : Int)) = false := by simp
              have HF := Lib.hid (show misI a (s.take (j + 1)) = M ++ (if (!q) = true then [x] else []) from by
                have h := HQ.out.1
                rw [List.take_of_length_le (by rw [HA.out.2]; exact Nat.le_refl _)] at h
                rw [HST.out, h])
              have H4 := Lib.hid (show _ ∧ _ from ⟨HQ.out.2.1, HQ.out.2.2⟩)
              clear HQ
              rcases q with _ | _
              · go_wp2_with (first
                  | ((with_reducible refine at_load_ (d := 46) ?_); refine wpList_load_v rfl 44 (.tmp 7) rfl g7 rfl x.cs _ H4.out.2 Tryd.underlying44 rfl (by rw [Im.cs_len]; exact size_x) ?_)
                  | ((with_reducible refine at_any_ (d := 47) ?_); go_must (refine wpList_bslV rfl 22 44 1 _ rfl Tryd.underlying22 (pe1 rfl) (bsx x) ?_); intro g9 wf hf hr; have H9 := Lib.hid (show Below wr0.heap.size wr0 wf ∧ RowV wf g9 x.cs from ⟨below_on H4.out.1 hf.bw, hr⟩); clear hf hr)
                  | ((with_reducible refine at_call_ (d := 48) ?_); have HO := HR.out.1; unfold HeldI at HO; rw [HJM.out] at HO; go_must (refine wpList_append_lies _ rfl (.tmp 45) (.tmp 47) 22 rfl w.heap.size 44 i0 _ 5 40 Tryd.underlying22 hi hz0 hz1 hz2 rfl (by decide) u5 jm (Ics M) rfl (own3_on HO H9.out.1) ⟨g9, 0, none⟩ 1 1 x.cs rfl rfl (RowV.src H9.out.2) (Im.cs_one _) (by decide) (by unfold maxLen; omega) (by omega) (Nat.le_trans HR.out.2.size H9.out.1.size) _ rfl ?_); intro g10 c10 wg ho hg hl hltg; have H10 := Lib.hid (show HeldI w wg (.slice (some ⟨g10, 0, none⟩) (jm + 1) c10) (M ++ [x]) ∧ Below w.heap.size w wg from ⟨by unfold HeldI; rw [Ics_snoc, List.length_append, HJM.out]; exact ho, row_below (below_on HR.out.2 H9.out.1) hg fun k e => (own_lt3 HO k e).1⟩); clear ho hg hl hltg HO))
                go_roundw
                case rel => exact ⟨j + 1, by omega, by first | rfl | go_num, Lib.hid ⟨by rw [HF.out]; exact H10.out.1, H10.out.2⟩⟩
                case measure => simp [intOf]; omega
              · go_wp2_with fail
                go_roundw
                case rel => exact ⟨j + 1, by omega, by first | rfl | go_num, Lib.hid ⟨by rw [HF.out]; simp only [Bool.not_true, Bool.false_eq_true, if_false, List.append_nil]; exact HR.out.1.below H4.out.1, below_on HR.out.2 H4.out.1⟩⟩
                case measure => simp [intOf]; omega
    · obtain rfl : j = n := by omega
      have dj : decide ((j : Int) < (j : Int)) = false := by simp
      have hh := HR.out.1
      rw [List.take_of_length_le (by rw [HS.out.2]; exact Nat.le_refl _)] at hh
      have HE := Lib.hid (show MisIs w (misI a s) (.returned u5) wr from by
        obtain ⟨A', c', e, _, h3⟩ := HeldI.slice hh
        exact ⟨A', c', by rw [e], h3, HR.out.2⟩)
      clear HR hh
      go_wp2
      go_ret
      exact HE.out
end Go.Proofs.YtcapbojjceeapaaDoor
