/-
  What is proved here: the program's Encode.
-/
import Derived.Test.YtobbnedojmcgoaaB6
namespace Go.Proofs.Ytobbnedojmcgoaa
open Go.RowKit
set_option linter.unusedVariables false
set_option linter.unusedSimpArgs false

/-- a block that is elder than all that is seen is written -/
theorem SeesN.put {w w3 w9 w10 : World} {g2 : Nat} {A : Option Addr} {f : F} (h : SeesN w9 (newB w3 w9) A f) (hw : Wr w9 w10 g2) (hg2 : g2 < w3.heap.size) (hww : w.heap.size ≤ w3.heap.size) : SeesN w10 (newB w w10) A f := by
  have hp : ∀ b, newB w3 w9 b → newB w w10 b ∧ b ≠ g2 := fun b hb => ⟨⟨Nat.le_trans hww hb.1, by rw [hw.2.2.2.1]; exact hb.2⟩, by have := hb.1; omega⟩
  exact (h.keep fun q hq => World.cell?_of_block (hw.2.2.2.2 _ (hp _ hq).2)).imp fun b hb => (hp b hb).1
theorem RowV.src {w : World} {g : Nat} {vs : List Value} (h : RowV w g vs) : ∀ j u, vs[j]? = some u → w.cell? ((⟨g, 0, none⟩ : Addr).add j) = some u := fun j u hu => by
  have hj : (⟨g, 0, none⟩ : Addr).add j = ⟨g, j, none⟩ := by unfold Addr.add; split <;> simp_all
  rw [hj, h.cell]; exact hu
theorem take_objs {l : List Tm} {j : Nat} {x : Tm} (h : l[j]? = some x) (f : F) : f.app (objsF (l.take (j + 1))) = (f.app (objsF (l.take j))).app (.cons 32608 [] (objK x) .nil) := by
  have e : l.take (j + 1) = l.take j ++ [x] := by rw [List.take_add_one, h]; rfl
  rw [e, objs_snoc, F.app_assoc]
def cntF (n : Nat) : F := .cons 2 (octL n 1) .nil .nil
set_option maxHeartbeats 6400000 in
set_option maxRecDepth 20000 in
theorem p_list_obj (l : List Tm) (n : Nat) (hn : l.length = n) (hn8 : n ≤ 8) (hv : ∀ x ∈ l, vT x = 0) (A : Option Addr) (c : Nat) (w : World) (hs : SeesT w (· < w.heap.size) A l) :
    Calls Try.prog 31 #[.slice A n c] w fun e w' => ∃ A2 c2, e = .returned (.agg (nodV 32609 none 0 0 A2 (n + 1) c2).toArray) ∧ n + 1 ≤ c2 ∧ SeesN w' (newB w w') A2 (listK l) ∧ Below w.heap.size w w' := by
  obtain ⟨i0, hi, hz0, hz1, hz2⟩ := info_parts info_node
  have HS := Lib.hid hs
  have HN := Lib.hid hn
  have HV := Lib.hid hv
  have HB := Lib.hid (Below.refl w.heap.size w)
  have HC : Hid (∀ w, Calls Try.prog 42 #[.int .i64 2, .int .i64 (n : Int), .int .i64 1] w (PrimIs w 2 (octL n 1) 1)) := Lib.hid (fun w => p_num_obj 2 n 1 (by omega) (by omega) w)
  clear hs hn hv
  go_enter Try.func31, Try.ntmps31
  go_wp2_with (first
    | ((with_reducible refine at_alloc_ (d := 2) ?_); refine wpList_alloc_v (op := ⟨some 2, _, _, _, _, _⟩) rfl 53 rfl zerN info_n ?_; intro g2 w2 hf hr; have H2 := Lib.hid (show _ ∧ _ ∧ _ from ⟨hf.bl HB.out, hr, hf.ge HB.out⟩); clear hf hr)
    | (at_make; go_must (refine wpList_make_own _ rfl _ _ 33 rfl w2.heap.size 53 i0 _ 3 Try.underlying33 hi hz0 hz1 _ _ _ (n + 1) rfl rfl (by omega) (by rw [hz2]; omega) (by unfold maxLen; omega) (Nat.le_refl _) ?_); intro w3 hown hg; have H3 := Lib.hid (show HeldN w2 w3 _ F.nil ∧ _ from ⟨⟨[], hown, rfl⟩, grown_new hg⟩); clear hown hg)
    | (go_at_call 42; ((with_reducible refine (HC.out _).mono ?_); rintro e w4 ⟨A4, c4, rfl, h1, h2, hb⟩); have H4 := Lib.hid (show _ ∧ _ ∧ _ from ⟨h1, h2, hb⟩); clear h1 h2 hb)
    | ((with_reducible refine at_any_ (d := 14) ?_); go_must (refine wpList_bslV rfl 33 53 1 _ rfl Try.underlying33 (pe1 rfl) (bs1 _ _ _) ?_); intro g5 w5 hf hr; have H5 := Lib.hid (show _ ∧ _ from ⟨hf, hr⟩); clear hf hr)
    | ((with_reducible refine at_call_ (d := 15) ?_); obtain ⟨cs, hc1, hc2⟩ := H3.out.1; go_must (refine wpList_append_lies _ rfl (.tmp 10) (.tmp 14) 33 rfl w2.heap.size 53 i0 _ 3 56 Try.underlying33 hi hz0 hz1 hz2 rfl (by decide) _ 0 cs rfl (own3_on (own3_on hc1 H4.out.2.2) H5.out.1.bw) ⟨g5, 0, none⟩ 1 1 (nodV 2 A4 1 c4 none 0 0) rfl rfl H5.out.2.src (nodV_one _ _ _ _ _ _ _) (by decide) (by unfold maxLen; omega) (by omega) (Nat.le_trans H3.out.2.size (Nat.le_trans H4.out.2.2.size H5.out.1.bw.size)) _ rfl ?_); intro g6 c6 w6 ho hg hl hlt; have H6 := Lib.hid (show HeldN w2 w6 _ (F.nil.app (cntF n)) ∧ Below w2.heap.size w2 w6 from ⟨HeldN.snoc (wr := w3) (w1 := w4) (wa := w5) H4.out.2.2 H5.out.1.bw ⟨H4.out.1.1, by rw [octL_length]; exact H4.out.1.2, Nat.zero_le _⟩ H4.out.2.1 SeesN.nil_ H3.out.2.size cs hc1 hc2 rfl (by rw [octL_length]; exact ho) hg hl, row_below (below_on (below_on H3.out.2 H4.out.2.2) H5.out.1.bw) hg fun k e => (own_lt3 hc1 k e).1⟩); clear ho hg hl hlt hc1 hc2))
  clear HB HC
  have e1 : F.nil.len + 1 = 1 := rfl
  go_loopw [3, 18] (fun v i wr => ∃ (j : Nat), j ≤ n ∧ i = .int .i64 (j : Int) ∧ Hid (HeldN w2 wr v ((cntF n).app (objsF (l.take j))) ∧ Below w2.heap.size w2 wr)) (fun _ i _ => n - (intOf i).toNat)
  case atStart => exact ⟨0, by omega, rfl, Lib.hid ⟨H6.out.1, H6.out.2⟩⟩
  case round =>
    obtain ⟨j, hj, rfl, HR⟩ := hrel
    by_cases hlt : j < n
    · have dj : decide ((j : Int) < (n : Int)) = true := by simp; omega
      obtain ⟨x, hx⟩ : ∃ x, l[j]? = some x := ⟨_, List.getElem?_eq_getElem (by rw [HN.out]; exact hlt)⟩
      obtain ⟨b, off, Ad, cd, rfl, hb, hr, _, _, hd⟩ := tm_at HS.out hx
      have hr2 := fun cur (h : Below w.heap.size w cur) => rangeAt_on hr hb h
      have hvx := HV.out x (List.mem_of_getElem? hx)
      have hob := fun w0 (h : SeesP w0 (· < w0.heap.size) Ad (Us x.d)) => p_tm_obj x hvx Ad cd w0 h
      have htk := take_objs hx (cntF n)
      obtain ⟨us, hus⟩ : ∃ us, x.cs Ad cd = us := ⟨_, rfl⟩
      have hu7 : us.length = 7 := by rw [← hus]; rfl
      have hu1 : ∀ u ∈ us, u.oneCell' = true := by rw [← hus]; exact cs_one _ _ _
      rw [hus] at hr2 hob
      obtain ⟨fN, hfN⟩ : ∃ q, (cntF n).app (objsF (l.take j)) = q := ⟨_, rfl⟩
      have hfl : fN.len = j + 1 := by rw [← hfN, F.len_app, objs_len, List.length_take, HN.out]; simp only [cntF, F.len]; omega
      rw [hfN] at HR htk
      have HU := Lib.hid (show _ ∧ _ ∧ _ ∧ _ ∧ _ from ⟨hr2, hob, hu7, hu1, hd⟩)
      have HT := Lib.hid htk
      have HBW := Lib.hid (below_on H2.out.1 HR.out.2)
      clear hr hr2 hob hu7 hu1 hd hus hx hvx htk hfN
      go_wp2_with (first
        | ((with_reducible refine at_load_ (d := 21) ?_); refine wpList_load_mid rfl 27 (.tmp 20) rfl b (off + j * 7) rfl us _ (HU.out.1 _ HBW.out) Try.underlying27 rfl (by rw [HU.out.2.2.1]; exact size_t) ?_)
        | ((with_reducible refine at_alloc_ (d := 5) ?_); refine wpList_alloc_v (op := ⟨some 5, _, _, _, _, _⟩) rfl 27 rfl zerT info_t ?_; intro g7 w7 hf hr; have H7 := Lib.hid (show _ ∧ _ from ⟨hf, hr⟩); clear hf hr)
        | ((with_reducible refine at_store_ (i := 5) ?_); refine wpList_store_v rfl 27 (.tmp 5) (.tmp 21) rfl g7 zerT us rfl rfl H7.out.2 HU.out.2.2.1 HU.out.2.2.2.1 (by rw [HU.out.2.2.1]; exact size_t) ?_; intro w8 hw hr; have H8 := Lib.hid (show _ ∧ _ from ⟨H7.out.1.wr_bl hw, hr⟩); clear hw hr)
        | ((with_reducible refine at_load_ (d := 23) ?_); refine wpList_load_v rfl 27 (.tmp 5) rfl g7 rfl us _ H8.out.2 Try.underlying27 rfl (by rw [HU.out.2.2.1]; exact size_t) ?_)
        | (go_at_call 43; ((with_reducible refine (HU.out.2.1 _ ((SeesP.on2 HU.out.2.2.2.2 HBW.out).on2 H8.out.1)).mono ?_); rintro e w9 ⟨A9, c9, rfl, h1, h2, hb⟩); have H9 := Lib.hid (show _ ∧ _ ∧ _ from ⟨h1, h2, hb⟩); clear h1 h2 hb)
        | ((with_reducible refine at_any_ (d := 25) ?_); go_must (refine wpList_bslV rfl 33 53 1 _ rfl Try.underlying33 (pe1 rfl) (bs1 _ _ _) ?_); intro g5 w10 hf hr; have H10 := Lib.hid (show _ ∧ _ from ⟨hf, hr⟩); clear hf hr)
        | ((with_reducible refine at_call_ (d := 26) ?_); obtain ⟨cs, hc1, hc2⟩ := HR.out.1.on H8.out.1; go_must (refine wpList_append_lies _ rfl (.tmp 22) (.tmp 25) 33 rfl w2.heap.size 53 i0 _ 3 56 Try.underlying33 hi hz0 hz1 hz2 rfl (by decide) u3 fN.len cs rfl (own3_on (own3_on hc1 H9.out.2.2) H10.out.1.bw) ⟨g5, 0, none⟩ 1 1 (nodV 32608 none 0 0 A9 2 c9) rfl rfl H10.out.2.src (nodV_one _ _ _ _ _ _ _) (by decide) (by unfold maxLen; omega) (by omega) (Nat.le_trans HR.out.2.size (Nat.le_trans H8.out.1.size (Nat.le_trans H9.out.2.2.size H10.out.1.bw.size))) _ rfl ?_); intro g6 c6 w11 ho hg hl hlt; have H11 := Lib.hid (show HeldN w2 w11 _ (fN.app (.cons 32608 [] (objK x) .nil)) ∧ Below w2.heap.size w2 w11 from ⟨HeldN.snoc (wr := w8) (w1 := w9) (wa := w10) (x := []) (k := objK x) H9.out.2.2 H10.out.1.bw ⟨fun _ => rfl, Nat.zero_le _, H9.out.1⟩ (.inl rfl) H9.out.2.1 (below_on HR.out.2 H8.out.1).size cs hc1 hc2 rfl ho hg hl, row_below (below_on (below_on (below_on HR.out.2 H8.out.1) H9.out.2.2) H10.out.1.bw) hg fun k e => (own_lt3 hc1 k e).1⟩); clear ho hg hl hlt hc1 hc2))
      go_roundw
      case rel => exact ⟨j + 1, by omega, by first | rfl | go_num, Lib.hid ⟨by have h := H11.out.1; rw [hfl] at h; rw [HT.out]; exact h, H11.out.2⟩⟩
      case measure => simp [intOf]; omega
    · obtain rfl : j = n := by omega
      have dj : decide ((j : Int) < (j : Int)) = false := by simp
      obtain ⟨Ah, ch, rfl, hlh, hsh⟩ := HR.out.1.slice
      have e6 : (cntF j).app (objsF (l.take j)) = listK l := by rw [List.take_of_length_le (by rw [HN.out]; exact Nat.le_refl _)]; simp only [cntF, F.app, listK, HN.out]
      have e7 : ((cntF j).app (objsF (l.take j))).len = j + 1 := by rw [F.len_app, objs_len, List.length_take, HN.out]; simp only [cntF, F.len]; omega
      rw [e7] at hlh ⊢
      rw [e6] at hsh
      have HH := Lib.hid (show _ ∧ _ ∧ _ from ⟨hsh, hlh, HR.out.2⟩)
      clear e6 e7 hlh hsh HR
      go_wp2_with (first
        | ((with_reducible refine at_store_ (i := 2) ?_); go_must (refine wpList_store_v rfl 53 (.tmp 2) (.tmp 29) rfl g2 zerN (nodV 32609 none 0 0 Ah (j + 1) ch) rfl rfl (H2.out.2.1.on HH.out.2.2) rfl (nodV_one _ _ _ _ _ _ _) size_n ?_); intro w12 hw hr; have H12 := Lib.hid (show _ ∧ _ from ⟨hw, hr⟩); clear hw hr))
      exact bodyPost_ret (results_v rfl _ _ g2 (nodV 32609 none 0 0 Ah (j + 1) ch) _ rfl H12.out.2 Try.underlying53 rfl size_n) rfl ⟨_, ch, rfl, HH.out.2.1, SeesN.put HH.out.1 H12.out.1 H2.out.2.1.lt H2.out.1.size, Wr.bl (below_on H2.out.1 HH.out.2.2) H12.out.1 H2.out.2.2⟩

def EncIs (l : List Tm) (w : World) (e : Ending) (w' : World) : Prop := ∃ A c, e = .returned (.tuple #[.slice A (encF l).len c, .int .i64 (encE l)]) ∧ (encF l).len ≤ c ∧ SeesN w' (newB w w') A (encF l) ∧ Below w.heap.size w w'
set_option maxHeartbeats 1600000 in
theorem p_encode (l : List Tm) (n : Nat) (hn : l.length = n) (A : Option Addr) (c : Nat) (w : World) (hs : SeesT w (· < w.heap.size) A l) :
    Calls Try.prog 13 #[.slice A n c] w (EncIs l w) := by
  have hc := p_check l n hn A c w hs
  obtain ⟨v, hv⟩ : ∃ v, encE l = v := ⟨_, rfl⟩
  rw [hv] at hc
  have HC := Lib.hid hc
  by_cases h0 : v = 0
  · subst h0
    obtain ⟨h1, h2, h3⟩ := encE_ok hv
    have HL := Lib.hid (fun w0 (h : SeesT w0 (· < w0.heap.size) A l) => p_list_obj l n hn (by omega) h3 A c w0 h)
    have HS := Lib.hid hs
    have HF := Lib.hid (show encF l = listF l ∧ encE l = 0 ∧ (listK l).len = n + 1 from ⟨by unfold encF; rw [if_pos hv], hv, by simp only [listK, F.len, objs_len, hn]⟩)
    clear hc hs hn hv h1 h2 h3
    go_enter Try.func13, Try.ntmps13
    go_wp2_with (first
      | (go_at_call 30; ((with_reducible refine HC.out.mono ?_); rintro e w1 ⟨rfl, hb⟩); have H1 := Lib.hid hb; clear hb)
      | (go_at_call 31; ((with_reducible refine (HL.out _ (HS.out.on H1.out)).mono ?_); rintro e w2 ⟨A2, c2, rfl, h1, h2, hb⟩); have H2 := Lib.hid (show _ ∧ _ ∧ _ from ⟨h1, h2, hb⟩); clear h1 h2 hb)
      | ((with_reducible refine at_any_ (d := 12) ?_); go_must (refine wpList_bslV rfl 33 53 1 _ rfl Try.underlying33 (pe1 rfl) (bs1 _ _ _) ?_); intro g5 w3 hf hr; have H3 := Lib.hid (show _ ∧ _ from ⟨hf, hr⟩); clear hf hr))
    have HD := Lib.hid (show EncIs l w (.returned (.tuple #[.slice (some ⟨g5, 0, none⟩) 1 1, .int .i64 0])) w3 from by
      unfold EncIs
      rw [HF.out.1, HF.out.2.1]
      refine ⟨_, 1, rfl, Nat.le_refl _, ?_, below_on (below_on H1.out H2.out.2.2) H3.out.1.bw⟩
      obtain ⟨ks, k1, k2⟩ := H2.out.2.1.newOn H3.out.1.bw
      have hb2 := below_on H1.out H2.out.2.2
      have hp : ∀ b, newB w1 w3 b → newB w w3 b := fun b hb => newB_imp hb H1.out.size (Nat.le_refl _)
      exact ⟨_, .inr ⟨g5, 0, rfl, ⟨H3.out.1.ge hb2, H3.out.2.lt⟩, fun j hj => by rw [Nat.zero_add, H3.out.2.cell]⟩, none, 0, A2, c2, ks, [], by rw [HF.out.2.2]; rfl, ⟨fun _ => rfl, Nat.zero_le _, by rw [HF.out.2.2]; exact H2.out.1⟩, .inl rfl, k1.imp hp, k2.imp hp, rfl⟩)
    go_ret2
    exact HD.out
  · have d0 : (v != 0) = true := by simpa using h0
    have HF := Lib.hid (show encF l = .nil ∧ encE l = v from ⟨by unfold encF; rw [if_neg (by rw [hv]; exact h0)], hv⟩)
    clear hc hs hn hv h0
    go_enter Try.func13, Try.ntmps13
    go_wp2_with (go_at_call 30; ((with_reducible refine HC.out.mono ?_); rintro e w1 ⟨rfl, hb⟩); have H1 := Lib.hid hb; clear hb)
    have HD := Lib.hid (show EncIs l w (.returned (.tuple #[.slice none 0 0, .int .i64 v])) w1 from by
      unfold EncIs
      rw [HF.out.1, HF.out.2]
      exact ⟨none, 0, rfl, Nat.le_refl _, SeesN.nil_, H1.out⟩)
    go_ret2
    exact HD.out
end Go.Proofs.Ytobbnedojmcgoaa
