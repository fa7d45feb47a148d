/-
  What is proved here: the program's reading of a header.
-/
import Derived.Test.YtobbnedojmcgoaaBa
namespace Go.Proofs.Ytobbnedojmcgoaa
open Go.RowKit
set_option linter.unusedVariables false
set_option linter.unusedSimpArgs false

theorem o_ext {P : Program} {a : Act} {w : World} {K : Act → World → Prop} {Q : Exit → Act → World → Prop} {o : Oper} (x : Operand) (i : Nat) (ho : o.op = .extract x i) {vs : Array Value} {v : Value} (hx : a.eval x = .tuple vs) (hv : vs[i]? = some v) (hK : K (a.put o.dst v) w) : o.wp P a w K Q := by
  unfold Oper.wp execOp
  simp [ho, hx, hv, Instr.extract, Result.andThen]
  exact hK
theorem fa_n0 (g : Nat) (w : World) : (Instr.fieldAt 53 (.pointer (some ⟨g, 0, none⟩)) 0).run Try.prog w = .ok (.pointer (some ⟨g, 0, none⟩)) w := by kernel_rfl
theorem fa_n1 (g : Nat) (w : World) : (Instr.fieldAt 53 (.pointer (some ⟨g, 0, none⟩)) 1).run Try.prog w = .ok (.pointer (some ⟨g, 1, none⟩)) w := by kernel_rfl
theorem fa_n2 (g : Nat) (w : World) : (Instr.fieldAt 53 (.pointer (some ⟨g, 0, none⟩)) 2).run Try.prog w = .ok (.pointer (some ⟨g, 2, none⟩)) w := by kernel_rfl
theorem ag_ns : ∀ w, (isAgg 33).run Try.prog w = .ok false w := fun w => by kernel_rfl
theorem ix_nod (g o n c k : Nat) (hk : k < n) (w : World) : (Instr.indexAt 33 (.slice (some ⟨g, o, none⟩) n c) (.int .i64 (k : Int))).run Try.prog w = .ok (.pointer (some ⟨g, o + k * 3, none⟩)) w := by
  have h0 : (k : Int) < (n : Int) := by omega
  have h1 : (0 : Int) ≤ (k : Int) := by omega
  simp [go_sem, Addr.add, h0, h1]
theorem size_i : (Try.prog.info? 3).map (·.size) = some 1 := by kernel_rfl
theorem fl_lt {j : Nat} (h : j < 6) : ([0, 1, 2, 3, 5, 4] : List Nat).getD j 0 < 7 := by
  have h : j = 0 ∨ j = 1 ∨ j = 2 ∨ j = 3 ∨ j = 4 ∨ j = 5 := by omega
  rcases h with rfl | rfl | rfl | rfl | rfl | rfl <;> decide
/-- the numbers of a header so far, as a template's cells -/
def hdrC (L : List Nat) : List Value := (tmOf L []).cs none 0
theorem hdrC_len (L : List Nat) : (hdrC L).length = 7 := rfl
theorem hdrC_one (L : List Nat) : ∀ u ∈ hdrC L, u.oneCell' = true := cs_one _ _ _
theorem hdrC_nil : hdrC [] = zerT := rfl
theorem hdrC_set {L : List Nat} {j fl m : Nat} (hl : L.length = j) (hj : j < 6) (hf : fl = ([0, 1, 2, 3, 5, 4] : List Nat).getD j 0) : (hdrC L).set fl (.int .i64 (m : Int)) = hdrC (L ++ [m]) := by
  subst hf
  have h : j = 0 ∨ j = 1 ∨ j = 2 ∨ j = 3 ∨ j = 4 ∨ j = 5 := by omega
  rcases h with rfl | rfl | rfl | rfl | rfl | rfl
  · obtain rfl := List.eq_nil_of_length_eq_zero hl; rfl
  · obtain ⟨a, rfl⟩ := List.length_eq_one_iff.1 hl; rfl
  · match L, hl with | [a, b], _ => rfl
  · match L, hl with | [a, b, c], _ => rfl
  · match L, hl with | [a, b, c, d], _ => rfl
  · match L, hl with | [a, b, c, d, e], _ => rfl
theorem hdr_tag {i sz : Nat} {tg : Int} (h : hdrTags[i]? = some (tg, sz)) : consB tg = false ∧ 0 < tg ∧ tg ≤ 136 ∧ sz ≤ 4 := by
  have hi : i = 0 ∨ i = 1 ∨ i = 2 ∨ i = 3 ∨ i = 4 ∨ i = 5 := by
    have := (List.getElem?_eq_some_iff.1 h).1
    simp [hdrTags] at this
    omega
  rcases hi with rfl | rfl | rfl | rfl | rfl | rfl <;> simp [hdrTags] at h <;> obtain ⟨rfl, rfl⟩ := h <;> decide
theorem onB_iff {t tag : Int} {v : List UInt8} {lk sz : Nat} : onB t v lk tag sz = true ↔ t = tag ∧ lk = 0 ∧ v.length = sz := by
  unfold onB formB
  simp [and_assoc]
/-- one number more -/
theorem numT_step {j sz : Nat} {tg t' : Int} {v' : List UInt8} {k k' r : F} (h : hdrTags[j]? = some (tg, sz)) (hk : k.drop j = .cons t' v' k' r) :
    numT (hdrTags.drop j) (k.drop j) = if onB t' v' k'.len tg sz = true then (numT (hdrTags.drop (j + 1)) (k.drop (j + 1))).map (numL v' :: ·) else none := by
  have hj := (List.getElem?_eq_some_iff.1 h).1
  rw [List.drop_eq_getElem_cons hj, (List.getElem?_eq_some_iff.1 h).2, F.drop_next hk, hk]
  show (if t' = tg ∧ k'.len = 0 ∧ v'.length = sz then _ else _) = _
  by_cases hc : onB t' v' k'.len tg sz = true
  · rw [if_pos hc, if_pos (onB_iff.1 hc)]
  · rw [if_neg hc, if_neg (fun h => hc (onB_iff.2 h))]
/-- what is answered of a header -/
def HdrIs (o : Option (List Nat)) (w : World) (e : Ending) (w' : World) : Prop := ∃ cs : List Value, cs.length = 7 ∧ (∀ u ∈ cs, u.oneCell' = true) ∧ e = .returned (.tuple #[.agg cs.toArray, .bool o.isSome]) ∧ (∀ l, o = some l → cs = hdrC l) ∧ Below w.heap.size w w'
set_option maxHeartbeats 6400000 in
set_option maxRecDepth 20000 in
theorem p_open_hdr (t : Int) (v : List UInt8) (k : F) (n lk : Nat) (hn : v.length = n) (hlk : k.len = lk) (Av : Option Addr) (cv : Nat) (Ak : Option Addr) (ck : Nat) (w : World) (hs : SeesN w (· < w.heap.size) Ak k) :
    Calls Try.prog 54 #[.agg (nodV t Av n cv Ak lk ck).toArray] w (HdrIs (hdrT t v k) w) := by
  obtain ⟨us, hus⟩ : ∃ us, nodV t Av n cv Ak lk ck = us := ⟨_, rfl⟩
  have hF := fun w => p_has_form t 161 true (by decide) (by decide) (by decide) Av n cv Ak lk ck w
  obtain ⟨f, hf⟩ : ∃ f, formB t 161 true n lk = f := ⟨_, rfl⟩
  rw [hf, hus] at hF
  have HU := Lib.hid (show us[2]? = some (.slice Ak lk ck) ∧ (Try.prog.info? 53).map (·.size) = some us.length from by rw [← hus]; exact ⟨rfl, size_n⟩)
  have HF := Lib.hid hF
  have HB := Lib.hid (Below.refl w.heap.size w)
  rw [hus]
  have hbad : (f = false ∨ lk ≠ 6) → hdrT t v k = none := by
    intro h
    unfold hdrT
    rcases h with h | h
    · rw [if_neg]
      rintro ⟨h1, h2⟩
      rw [← hf, h1, ← hn, h2] at h
      simp [formB] at h
    · split
      · rcases hq : numT hdrTags k with _ | l
        · rfl
        · have := (numT_len hq).2
          simp [hdrTags] at this
          omega
      · rfl
  rcases f with _ | _
  · have HD := Lib.hid (hbad (.inl rfl))
    clear hus hF hf hs hn hlk hbad
    go_enter Try.func54, Try.ntmps54
    go_wp2_with (first
      | ((with_reducible refine at_box_ (d := 1) ?_); refine wpList_box_v (op := ⟨some 1, _, _, _, _, _⟩) rfl 53 _ rfl us rfl ?_; intro g1 w1 hf hr; have H1 := Lib.hid (show _ ∧ _ from ⟨hf.bl HB.out, hr⟩); clear hf hr)
      | ((with_reducible refine at_alloc_ (d := 2) ?_); refine wpList_alloc_v (op := ⟨some 2, _, _, _, _, _⟩) rfl 27 rfl zerT info_t ?_; intro g2 w2 hf hr; have H2 := Lib.hid (show _ ∧ _ ∧ _ ∧ _ from ⟨hf.bl H1.out.1, H1.out.2.fresh hf, hr, hf.ge H1.out.1⟩); clear hf hr)
      | (go_at_call 50; ((with_reducible refine (p_header _).mono ?_); rintro e w3 ⟨rfl, hb⟩); have H3 := Lib.hid (show _ ∧ _ ∧ _ from ⟨below_on H2.out.1 hb, H2.out.2.1.on hb, H2.out.2.2.1.on hb⟩); clear hb)
      | ((with_reducible refine at_alloc_ (d := 4) ?_); refine wpList_alloc_v (op := ⟨some 4, _, _, _, _, _⟩) rfl 82 rfl zerH info_h ?_; intro g4 w4 hf hr; have H4 := Lib.hid (show _ ∧ _ from ⟨hf, hr⟩); clear hf hr)
      | ((with_reducible refine at_store_ (i := 4) ?_); refine wpList_store_v rfl 82 (.tmp 4) (.tmp 10) rfl g4 zerH hdrV rfl rfl H4.out.2 rfl hdrV_one size_h ?_; intro w5 hw hr; have hb5 := H4.out.1.wr_bl hw; have H5 := Lib.hid (show _ ∧ _ ∧ _ from ⟨below_on H3.out.1 hb5, H3.out.2.1.on hb5, H3.out.2.2.on hb5⟩); clear hw hr hb5)
      | ((with_reducible refine at_load_ (d := 11) ?_); refine wpList_load_v rfl 53 (.tmp 1) rfl g1 rfl us _ H5.out.2.1 Try.underlying53 rfl HU.out.2 ?_)
      | (go_at_call 45; ((with_reducible refine (HF.out _).mono ?_); rintro e w6 ⟨rfl, hb⟩); have H6 := Lib.hid (show _ ∧ _ from ⟨below_on H5.out.1 hb, H5.out.2.2.on hb⟩); clear hb)
      | ((with_reducible refine at_store_ (i := 2) ?_); go_must (refine wpList_store_v rfl 27 (.tmp 2) (.tmp 20) rfl g2 zerT zerT rfl rfl H6.out.2 rfl (cs_one default none 0) size_t ?_); intro w7 hw hr; have H7 := Lib.hid (show _ ∧ _ from ⟨Wr.bl H6.out.1 hw H2.out.2.2.2, hr⟩); clear hw hr))
    exact bodyPost_ret (results_v1 rfl _ _ g2 zerT _ rfl H7.out.2 Try.underlying27 rfl size_t) rfl ⟨zerT, rfl, cs_one default none 0, by rw [HD.out]; rfl, fun l h => (by rw [HD.out] at h; cases h), H7.out.1⟩
  by_cases hl6 : lk = 6
  · subst hl6
    obtain ⟨kb, ko, rfl⟩ : ∃ b o, Ak = some ⟨b, o, none⟩ := by
      obtain ⟨tt, vv, kk, e⟩ := F.drop_cons (f := k) (j := 0) (by omega)
      obtain ⟨b, o, _, _, _, _, h, _⟩ := node_atN hs e
      exact ⟨b, o, h⟩
    have ht : hdrT t v k = numT hdrTags k := by
      unfold hdrT
      rw [if_pos]
      rw [← hn] at hf
      simpa [formB] using hf
    rw [ht]
    have HS := Lib.hid (show _ ∧ _ from ⟨hs, hlk⟩)
    clear hus hF hf hs hn hlk hbad ht
    go_enter Try.func54, Try.ntmps54
    go_wp2_with (first
      | ((with_reducible refine at_box_ (d := 1) ?_); refine wpList_box_v (op := ⟨some 1, _, _, _, _, _⟩) rfl 53 _ rfl us rfl ?_; intro g1 w1 hf hr; have H1 := Lib.hid (show _ ∧ _ from ⟨hf.bl HB.out, hr⟩); clear hf hr)
      | ((with_reducible refine at_alloc_ (d := 2) ?_); refine wpList_alloc_v (op := ⟨some 2, _, _, _, _, _⟩) rfl 27 rfl zerT info_t ?_; intro g2 w2 hf hr; have H2 := Lib.hid (show _ ∧ _ ∧ _ ∧ _ from ⟨hf.bl H1.out.1, H1.out.2.fresh hf, hr, hf.ge H1.out.1⟩); clear hf hr)
      | (go_at_call 50; ((with_reducible refine (p_header _).mono ?_); rintro e w3 ⟨rfl, hb⟩); have H3 := Lib.hid (show _ ∧ _ ∧ _ from ⟨below_on H2.out.1 hb, H2.out.2.1.on hb, H2.out.2.2.1.on hb⟩); clear hb)
      | ((with_reducible refine at_alloc_ (d := 4) ?_); refine wpList_alloc_v (op := ⟨some 4, _, _, _, _, _⟩) rfl 82 rfl zerH info_h ?_; intro g4 w4 hf hr; have H4 := Lib.hid (show _ ∧ _ from ⟨hf, hr⟩); clear hf hr)
      | ((with_reducible refine at_store_ (i := 4) ?_); refine wpList_store_v rfl 82 (.tmp 4) (.tmp 10) rfl g4 zerH hdrV rfl rfl H4.out.2 rfl hdrV_one size_h ?_; intro w5 hw hr; have hb5 := H4.out.1.wr_bl hw; have H5 := Lib.hid (show _ ∧ _ ∧ _ ∧ _ from ⟨below_on H3.out.1 hb5, H3.out.2.1.on hb5, H3.out.2.2.on hb5, hr⟩); clear hw hr hb5)
      | ((with_reducible refine at_load_ (d := 11) ?_); refine wpList_load_v rfl 53 (.tmp 1) rfl g1 rfl us _ H5.out.2.1 Try.underlying53 rfl HU.out.2 ?_)
      | (go_at_call 45; ((with_reducible refine (HF.out _).mono ?_); rintro e w6 ⟨rfl, hb⟩); have H6 := Lib.hid (show _ ∧ _ ∧ _ ∧ _ from ⟨below_on H5.out.1 hb, H5.out.2.1.on hb, H5.out.2.2.1.on hb, H5.out.2.2.2.on hb⟩); have c2 := ((H5.out.2.1.on hb).cell 2).trans HU.out.1; clear hb)
      | ((with_reducible refine at_alloc_ (d := 5) ?_); refine wpList_alloc_v (op := ⟨some 5, _, _, _, _, _⟩) rfl 27 rfl zerT info_t ?_; intro g5 w7 hf hr; have H0 := Lib.hid (show Below w.heap.size w w7 ∧ RowV w7 g1 us ∧ RowV w7 g2 zerT ∧ RowV w7 g4 hdrV ∧ RowV w7 g5 (hdrC []) ∧ w.heap.size ≤ g5 ∧ g1 ≠ g5 ∧ g2 ≠ g5 from ⟨hf.bl H6.out.1, H6.out.2.1.fresh hf, H6.out.2.2.1.fresh hf, H6.out.2.2.2.fresh hf, hr, hf.ge H6.out.1, H6.out.2.1.ne hf, H6.out.2.2.1.ne hf⟩); clear hf hr)
      | ((with_reducible refine at_load_ (d := 21) ?_); refine wpList_load_v rfl 82 (.tmp 4) rfl g4 rfl hdrV _ H0.out.2.2.2.1 Try.underlying82 rfl size_h ?_))
    obtain ⟨hv2, hhv⟩ : ∃ q, hdrV.toArray = q := ⟨_, rfl⟩
    rw [hhv]
    have HHV := Lib.hid hhv
    have HG2 := Lib.hid H2.out.2.2.2
    clear hhv H1 H2 H3 H4 H5 H6 c2
    go_loopw [22] (fun i wr => ∃ (j : Nat), j ≤ 6 ∧ i = .int .i64 (j : Int) ∧ Hid (∃ L : List Nat, L.length = j ∧ RowV wr g5 (hdrC L) ∧ RowV wr g1 us ∧ RowV wr g2 zerT ∧ Below w.heap.size w wr ∧ numT hdrTags k = (numT (hdrTags.drop j) (k.drop j)).map (L ++ ·))) (fun i _ => 6 - (intOf i).toNat)
    case atStart => exact ⟨0, by omega, rfl, Lib.hid ⟨[], rfl, H0.out.2.2.2.2.1, H0.out.2.1, H0.out.2.2.1, H0.out.1, by
      have e : k.drop 0 = k := by cases k <;> rfl
      rw [List.drop_zero, e]
      rcases numT hdrTags k with _ | l <;> rfl⟩⟩
    case round =>
      obtain ⟨j, hj, rfl, HR⟩ := hrel
      by_cases hlt : j < 6
      · have dj : decide ((j : Int) < 6) = true := by simp; omega
        obtain ⟨tg, sz, fn, fl, hna⟩ := num_at hlt
        obtain ⟨q1, q2, q3, q4⟩ := hdr_tag hna.tag
        obtain ⟨tt, vv, kk, hdk⟩ := F.drop_cons (f := k) (j := j) (by rw [HS.out.2]; exact hlt)
        obtain ⟨b', o', Av', cv', Ak', ck', e', hb', hr', ha0, hal, _, hsv, _⟩ := node_atN HS.out.1 hdk
        injection e' with e'
        injection e' with e1 e2 _
        subst e1; subst e2
        have hr2 := fun cur (h : Below w.heap.size w cur) => rangeAt_on hr' hb' h
        obtain ⟨vn, hvn⟩ : ∃ n, vv.length = n := ⟨_, rfl⟩
        have hop := fun cur (h : Below w.heap.size w cur) => p_open_num tt tg q1 (by omega) (by omega) vv vn sz hvn (by omega) Av' cv' Ak' kk.len ck' cur (SeesP.on2 hsv h)
        obtain ⟨ns, hns⟩ : ∃ q, nodV tt Av' vn cv' Ak' kk.len ck' = q := ⟨_, rfl⟩
        rw [hvn] at hr2
        have hn3 : (Try.prog.info? 53).map (·.size) = some ns.length := by rw [← hns]; exact size_n
        rw [hns] at hr2 hop
        have hstep := numT_step hna.tag hdk
        obtain ⟨ok, hok⟩ : ∃ q, onB tt vv kk.len tg sz = q := ⟨_, rfl⟩
        obtain ⟨m, hm⟩ : ∃ q, onV tt vv kk.len tg sz = q := ⟨_, rfl⟩
        have hmv : ok = true → m = numL vv := fun h => by rw [← hm]; unfold onV; rw [hok, h]; rfl
        rw [hok] at hop hstep
        rw [hm] at hop
        have hix := hna.ix
        rw [HHV.out] at hix
        have HNA := Lib.hid hna
        have HK := Lib.hid (show _ ∧ _ ∧ _ from ⟨hr2, hn3, hop⟩)
        have HT := Lib.hid (show _ ∧ _ from ⟨hstep, hmv⟩)
        obtain ⟨L, hL, hr5, hr1, hrz, hbw, hnum⟩ := HR.out
        have HL := Lib.hid (show _ ∧ _ ∧ _ ∧ _ ∧ _ ∧ _ from ⟨hL, hr5, hr1, hrz, hbw, hnum⟩)
        clear hna q1 q2 q3 q4 hdk hb' hr' ha0 hal hsv hr2 hop hns hn3 hstep hmv hok hm hvn HR hL hr5 hr1 hrz hbw hnum
        go_wp2_with (first
          | ((with_reducible refine at_alloc_ (d := 7) ?_); refine wpList_alloc_v (op := ⟨some 7, _, _, _, _, _⟩) rfl 81 rfl zerM info_m ?_; intro g7 w6 hf hr; have H6 := Lib.hid (show _ ∧ _ from ⟨hf, hr⟩); clear hf hr)
          | ((with_reducible refine at_store_ (i := 7) ?_); refine wpList_store_v rfl 81 (.tmp 7) (.tmp 25) rfl g7 zerM [.int .i64 tg, .int .i64 (sz : Int), fnV fn] rfl rfl H6.out.2 rfl (by intro u hu; simp only [List.mem_cons, List.not_mem_nil, or_false] at hu; rcases hu with rfl | rfl | rfl <;> rfl) size_m ?_; intro w7 hw hr; have hbw := H6.out.1.wr_bl hw; have H7 := Lib.hid (show Below w.heap.size w w7 ∧ RowV w7 g1 us ∧ RowV w7 g7 [.int .i64 tg, .int .i64 (sz : Int), fnV fn] from ⟨below_on HL.out.2.2.2.2.1 hbw, HL.out.2.2.1.on hbw, hr⟩); have HL7 := Lib.hid (show _ ∧ _ from ⟨HL.out.2.1.on hbw, HL.out.2.2.2.1.on hbw⟩); clear hw hr hbw))
        refine region_facts (by kernel_rfl) _ w7 (fun c => Below w7.heap.size w7 c) 99 (factL [fun u _ => u = .pointer (some ⟨g1, 2, none⟩), fun u _ => u = .slice (some ⟨kb, ko, none⟩) 6 ck, fun u _ => u = .int .i64 (j : Int), fun u _ => u = .pointer (some ⟨kb, ko + j * 3, none⟩), fun u _ => u = .agg ns.toArray, fun u _ => u = .pointer (some ⟨g7, 0, none⟩), fun u _ => u = .int .i64 tg, fun u _ => u = .pointer (some ⟨g7, 1, none⟩), fun u _ => u = .int .i64 (sz : Int), fun u _ => u = .tuple #[.int .i64 (m : Int), .bool ok], fun u _ => u = .tuple #[.int .i64 (m : Int), .bool ok], fun u _ => u = .int .i64 (m : Int), fun u _ => u = .bool ok, fun u _ => u = .int .i64 (m : Int), fun u _ => u = .bool ok]) (by kernel_rfl) (firm_list (by simp only [List.forall_mem_cons]; exact ⟨firm_eq _, firm_eq _, firm_eq _, firm_eq _, firm_eq _, firm_eq _, firm_eq _, firm_eq _, firm_eq _, firm_eq _, firm_eq _, firm_eq _, firm_eq _, firm_eq _, firm_eq _, fun X h => by cases h⟩)) (fun c c' h hb => below_on h hb) (Below.refl _ _) (Below.refl _ _) ?_ ?_
        · refine ops_all (allI.cons ?_ (allI.cons ?_ (allI.cons ?_ (allI.cons ?_ (allI.cons ?_ (allI.cons ?_ (allI.cons ?_ (allI.cons ?_ (allI.cons ?_ (allI.cons ?_ (allI.cons ?_ (allI.cons ?_ (allI.cons ?_ (allI.cons ?_ (allI.cons ?_ allI.nil))))))))))))))) <;> intro v S c a hI hw1 hX hSi hdep hS hC
          · exact o_fa _ (.tmp 1) 2 rfl (hS.old 1 rfl) (fa_n2 g1 _) (Step.still rfl)
          · exact o_ld _ (.tmp 27) rfl ((hS.get 0 (dep_at hdep 0 rfl) rfl rfl).trans (hX 0 (dep_at hdep 0 rfl))) (((H7.out.2.1.on hI).cell 2).trans HU.out.1) ag_ns (Step.still rfl)
          · exact o_mv _ rfl (hS.old 6 rfl) (Step.still rfl)
          · exact o_ix _ (.tmp 28) (.tmp 29) rfl ((hS.get 1 (dep_at hdep 1 rfl) rfl rfl).trans (hX 1 (dep_at hdep 1 rfl))) ((hS.get 2 (dep_at hdep 2 rfl) rfl rfl).trans (hX 2 (dep_at hdep 2 rfl))) (ix_nod kb ko 6 ck j hlt _) (Step.still rfl)
          · exact wp_load_mid 53 (.tmp 30) rfl kb (ko + j * 3) ((hS.get 3 (dep_at hdep 3 rfl) rfl rfl).trans (hX 3 (dep_at hdep 3 rfl))) ns _ (HK.out.1 _ (below_on H7.out.1 hI)) Try.underlying53 rfl HK.out.2.1 (Step.still rfl)
          · exact o_fa _ (.tmp 7) 0 rfl (hS.old 7 rfl) (fa_m0 g7 _) (Step.still rfl)
          · exact o_ld _ (.tmp 32) rfl ((hS.get 5 (dep_at hdep 5 rfl) rfl rfl).trans (hX 5 (dep_at hdep 5 rfl))) (((H7.out.2.2.on hI).cell 0).trans rfl) ag_i (Step.still rfl)
          · exact o_fa _ (.tmp 7) 1 rfl (hS.old 7 rfl) (fa_m1 g7 _) (Step.still rfl)
          · exact o_ld _ (.tmp 34) rfl ((hS.get 7 (dep_at hdep 7 rfl) rfl rfl).trans (hX 7 (dep_at hdep 7 rfl))) (((H7.out.2.2.on hI).cell 1).trans rfl) ag_i (Step.still rfl)
          · refine o_callV (.func 46) 46 #[.tmp 31, .tmp 33, .tmp 35] _ rfl rfl (ev3 ((hS.get 4 (dep_at hdep 4 rfl) rfl rfl).trans (hX 4 (dep_at hdep 4 rfl))) ((hS.get 6 (dep_at hdep 6 rfl) rfl rfl).trans (hX 6 (dep_at hdep 6 rfl))) ((hS.get 8 (dep_at hdep 8 rfl) rfl rfl).trans (hX 8 (dep_at hdep 8 rfl)))) (by kernel_rfl) (HK.out.2.2 c (below_on H7.out.1 hI)) (fun e w9 h => ?_)
            obtain ⟨rfl, b8⟩ := h
            exact ⟨_, rfl, Step.new rfl b8⟩
          · exact o_mv _ rfl ((hS.get 9 (dep_at hdep 9 rfl) rfl rfl).trans (hX 9 (dep_at hdep 9 rfl))) (Step.still rfl)
          · exact o_ext (.tmp 26) 0 rfl ((hS.get 10 (dep_at hdep 10 rfl) rfl rfl).trans (hX 10 (dep_at hdep 10 rfl))) rfl (Step.still rfl)
          · exact o_ext (.tmp 26) 1 rfl ((hS.get 10 (dep_at hdep 10 rfl) rfl rfl).trans (hX 10 (dep_at hdep 10 rfl))) rfl (Step.still rfl)
          · exact o_as _ rfl ((hS.get 11 (dep_at hdep 11 rfl) rfl rfl).trans (hX 11 (dep_at hdep 11 rfl))) (Step.still rfl)
          · exact o_as _ rfl ((hS.get 12 (dep_at hdep 12 rfl) rfl rfl).trans (hX 12 (dep_at hdep 12 rfl))) (Step.still rfl)
        · intro v8 w8 hI hX
          have e11 := hX 13 (by decide)
          have e12 := hX 14 (by decide)
          have e13 := hX 11 (by decide)
          have e14 := hX 12 (by decide)
          change v8 13 = _ at e11
          change v8 14 = _ at e12
          change v8 11 = _ at e13
          change v8 12 = _ at e14
          have H8 := Lib.hid (show Below w.heap.size w w8 ∧ RowV w8 g1 us ∧ RowV w8 g5 (hdrC L) ∧ RowV w8 g2 zerT from ⟨below_on H7.out.1 hI, H7.out.2.1.on hI, HL7.out.1.on hI, HL7.out.2.on hI⟩)
          have c7 := ((H7.out.2.2.on hI).cell 2).trans (rfl : ([.int .i64 tg, .int .i64 (sz : Int), fnV fn] : List Value)[2]? = some (fnV fn))
          clear hI hX
          simp only [putAll, Act.put]
          simp
          rw [e11, e12]
          clear e11 e12 e13 e14
          rcases ok with _ | _
          · have HD := Lib.hid (show numT hdrTags k = none from by rw [HL.out.2.2.2.2.2, HT.out.1]; simp)
            go_wp2_with (first
              | ((with_reducible refine at_store_ (i := 2) ?_); go_must (refine wpList_store_v rfl 27 (.tmp 2) (.tmp 41) rfl g2 zerT zerT rfl rfl H8.out.2.2.2 rfl (cs_one default none 0) size_t ?_); intro w9 hw hr; have H9 := Lib.hid (show _ ∧ _ from ⟨Wr.bl H8.out.1 hw HG2.out, hr⟩); clear hw hr))
            exact bodyPost_ret (results_v1 rfl _ _ g2 zerT _ rfl H9.out.2 Try.underlying27 rfl size_t) rfl ⟨zerT, rfl, cs_one default none 0, by rw [HD.out]; rfl, fun l h => (by rw [HD.out] at h; cases h), H9.out.1⟩
          · have HPL := Lib.hid (show fl < (hdrC L).length from by rw [HNA.out.place, hdrC_len]; exact fl_lt hlt)
            have HPS := Lib.hid (hdrC_set (m := m) HL.out.1 hlt HNA.out.place)
            have HE := Lib.hid (show numT hdrTags k = (numT (hdrTags.drop (j + 1)) (k.drop (j + 1))).map ((L ++ [m]) ++ ·) from by
              rw [HL.out.2.2.2.2.2, HT.out.1, HT.out.2 rfl]
              rcases numT (hdrTags.drop (j + 1)) (k.drop (j + 1)) with _ | l <;> simp)
            go_wp2_with (first
              | ((with_reducible refine at_call_ (d := 44) ?_); go_must (refine wpList_callV rfl (.tmp 43) fn #[.tmp 5] _ rfl rfl (ev1 rfl) (HNA.out.enter _ _) (HNA.out.call g5 _) ?_); rintro e w9 ⟨rfl, rfl⟩; refine ⟨_, rfl, ?_⟩)
              | ((with_reducible refine at_store_ (i := 46) ?_); go_must (refine wpList_store_at rfl 3 (.tmp 46) (.tmp 45) rfl g5 fl (hdrC L) (.int .i64 (m : Int)) rfl rfl H8.out.2.2.1 HPL.out rfl rfl size_i ?_); intro w10 hw hr; have H10 := Lib.hid (show _ ∧ _ ∧ _ ∧ _ from ⟨HPS.out ▸ hr, H8.out.2.1.wr hw H0.out.2.2.2.2.2.2.1, H8.out.2.2.2.wr hw H0.out.2.2.2.2.2.2.2, Wr.bl H8.out.1 hw H0.out.2.2.2.2.2.1⟩); clear hw hr))
            go_roundw
            case rel => exact ⟨j + 1, by omega, by first | rfl | go_num, Lib.hid ⟨L ++ [m], by simp [HL.out.1], H10.out.1, H10.out.2.1, H10.out.2.2.1, H10.out.2.2.2, HE.out⟩⟩
            case measure => simp [intOf]; omega
      · obtain rfl : j = 6 := by omega
        have dj : decide ((6 : Int) < 6) = false := by simp
        obtain ⟨L, hL, hr5, hr1, hrz, hbw, hnum⟩ := HR.out
        have hkn : k.drop 6 = .nil := by have h := F.drop_all k; rw [HS.out.2] at h; exact h
        have hnum2 : numT hdrTags k = some L := by
          rw [hnum, hkn]
          show (some [] : Option (List Nat)).map (L ++ ·) = _
          simp
        have HL := Lib.hid (show _ ∧ _ ∧ _ ∧ _ from ⟨hr5, hrz, hbw, hnum2⟩)
        clear HR hL hr5 hr1 hrz hbw hnum hkn hnum2
        go_wp2_with (first
          | ((with_reducible refine at_load_ (d := 48) ?_); refine wpList_load_v rfl 27 (.tmp 5) rfl g5 rfl (hdrC L) _ HL.out.1 Try.underlying27 rfl size_t ?_)
          | ((with_reducible refine at_store_ (i := 2) ?_); go_must (refine wpList_store_v rfl 27 (.tmp 2) (.tmp 48) rfl g2 zerT (hdrC L) rfl rfl HL.out.2.1 rfl (hdrC_one L) size_t ?_); intro w9 hw hr; have H9 := Lib.hid (show _ ∧ _ from ⟨Wr.bl HL.out.2.2.1 hw HG2.out, hr⟩); clear hw hr))
        exact bodyPost_ret (results_v1 rfl _ _ g2 (hdrC L) _ rfl H9.out.2 Try.underlying27 rfl size_t) rfl ⟨hdrC L, rfl, hdrC_one L, by rw [HL.out.2.2.2]; rfl, fun l h => (by rw [HL.out.2.2.2] at h; injection h with h; rw [h]), H9.out.1⟩
  · have d6 : ((lk : Int) != 6) = true := by simp; omega
    have HD := Lib.hid (hbad (.inr hl6))
    clear hus hF hf hs hn hlk hbad hl6
    go_enter Try.func54, Try.ntmps54
    go_wp2_with (first
      | ((with_reducible refine at_box_ (d := 1) ?_); refine wpList_box_v (op := ⟨some 1, _, _, _, _, _⟩) rfl 53 _ rfl us rfl ?_; intro g1 w1 hf hr; have H1 := Lib.hid (show _ ∧ _ from ⟨hf.bl HB.out, hr⟩); clear hf hr)
      | ((with_reducible refine at_alloc_ (d := 2) ?_); refine wpList_alloc_v (op := ⟨some 2, _, _, _, _, _⟩) rfl 27 rfl zerT info_t ?_; intro g2 w2 hf hr; have H2 := Lib.hid (show _ ∧ _ ∧ _ ∧ _ from ⟨hf.bl H1.out.1, H1.out.2.fresh hf, hr, hf.ge H1.out.1⟩); clear hf hr)
      | (go_at_call 50; ((with_reducible refine (p_header _).mono ?_); rintro e w3 ⟨rfl, hb⟩); have H3 := Lib.hid (show _ ∧ _ ∧ _ from ⟨below_on H2.out.1 hb, H2.out.2.1.on hb, H2.out.2.2.1.on hb⟩); clear hb)
      | ((with_reducible refine at_alloc_ (d := 4) ?_); refine wpList_alloc_v (op := ⟨some 4, _, _, _, _, _⟩) rfl 82 rfl zerH info_h ?_; intro g4 w4 hf hr; have H4 := Lib.hid (show _ ∧ _ from ⟨hf, hr⟩); clear hf hr)
      | ((with_reducible refine at_store_ (i := 4) ?_); refine wpList_store_v rfl 82 (.tmp 4) (.tmp 10) rfl g4 zerH hdrV rfl rfl H4.out.2 rfl hdrV_one size_h ?_; intro w5 hw hr; have hb5 := H4.out.1.wr_bl hw; have H5 := Lib.hid (show _ ∧ _ ∧ _ from ⟨below_on H3.out.1 hb5, H3.out.2.1.on hb5, H3.out.2.2.on hb5⟩); clear hw hr hb5)
      | ((with_reducible refine at_load_ (d := 11) ?_); refine wpList_load_v rfl 53 (.tmp 1) rfl g1 rfl us _ H5.out.2.1 Try.underlying53 rfl HU.out.2 ?_)
      | (go_at_call 45; ((with_reducible refine (HF.out _).mono ?_); rintro e w6 ⟨rfl, hb⟩); have H6 := Lib.hid (show _ ∧ _ from ⟨below_on H5.out.1 hb, H5.out.2.2.on hb⟩); have c2 := ((H5.out.2.1.on hb).cell 2).trans HU.out.1; clear hb)
      | ((with_reducible refine at_store_ (i := 2) ?_); go_must (refine wpList_store_v rfl 27 (.tmp 2) (.tmp 20) rfl g2 zerT zerT rfl rfl H6.out.2 rfl (cs_one default none 0) size_t ?_); intro w7 hw hr; have H7 := Lib.hid (show _ ∧ _ from ⟨Wr.bl H6.out.1 hw H2.out.2.2.2, hr⟩); clear hw hr))
    exact bodyPost_ret (results_v1 rfl _ _ g2 zerT _ rfl H7.out.2 Try.underlying27 rfl size_t) rfl ⟨zerT, rfl, cs_one default none 0, by rw [HD.out]; rfl, fun l h => (by rw [HD.out] at h; cases h), H7.out.1⟩
end Go.Proofs.Ytobbnedojmcgoaa
