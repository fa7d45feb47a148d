/-
  What is proved here: the reference's object of infos, and its Encode.
-/
import Derived.Test.YtmkggpgpiepjfaaDoorZJh
import Derived.Test.YtmkggpgpiepjfaaDoorZIv
import Derived.Test.YtmkggpgpiepjfaaDoorZG9
namespace Go.Proofs.YtmkggpgpiepjfaaDoor
open Go.RowKit
set_option maxRecDepth 8000
set_option linter.unusedVariables false
set_option linter.unusedSimpArgs false
set_option maxHeartbeats 6400000 in
set_option maxRecDepth 20000 in
theorem r_set_obj (l : List Im) (n : Nat) (hn : l.length = n) (hm : n ≤ 16) (hv : ∀ x ∈ l, oneI x = 0) (A : Option Addr) (c : Nat) (w : World) (hs : SeesP w (· < w.heap.size) A (Ics l)) :
    Calls Tryd.prog 31 #[.slice A n c] w (SetIs l w) := by
  obtain ⟨i0, hi, hz0, hz1, hz2⟩ := info_parts info_node
  have HS := Lib.hid hs
  have HN := Lib.hid hn
  have HV := Lib.hid hv
  have HB := Lib.hid (Below.refl w.heap.size w)
  clear hs hn hv
  go_enter Tryd.func31, Tryd.ntmps31
  go_wp2_with (first
    | ((with_reducible refine at_alloc_ (d := 2) ?_); refine wpList_alloc_v (op := ⟨some 2, _, _, _, _, _⟩) rfl 54 rfl zerN info_n ?_; intro g2 w2 hf hr; have H2 := Lib.hid (show _ ∧ _ ∧ _ from ⟨hf.bl HB.out, hr, hf.ge HB.out⟩); clear hf hr))
  go_loopw [3, 4] (fun v i wr => ∃ (j : Nat), j ≤ n ∧ i = .int .i64 (j : Int) ∧ Hid (HeldN w2 wr v (objsI (l.take j)) ∧ Below w2.heap.size w2 wr)) (fun _ i _ => n - (intOf i).toNat)
  case atStart => exact ⟨0, by omega, rfl, Lib.hid ⟨by rw [List.take_zero]; exact HeldN.start _ _, Below.refl _ _⟩⟩
  case round =>
    obtain ⟨j, hj, rfl, HR⟩ := hrel
    by_cases hlt : j < n
    · have dj : decide ((j : Int) < (n : Int)) = true := by simp; omega
      obtain ⟨x, hx⟩ : ∃ x, l[j]? = some x := ⟨_, List.getElem?_eq_getElem (by rw [HN.out]; exact hlt)⟩
      obtain ⟨b, off, rfl, hb, hr⟩ := im_at HS.out hx
      have hr2 := fun cur (h : Below w.heap.size w cur) => rangeAt_on hr hb h
      have hobj := fun w0 => r_info_obj x (HV.out x (List.mem_of_getElem? hx)) w0
      obtain ⟨us, hus⟩ : ∃ us, x.cs = us := ⟨_, rfl⟩
      have hu5 : us.length = 5 := by rw [← hus]; rfl
      rw [hus] at hr2 hobj
      have htk := objsI_take hx
      obtain ⟨fN, hfN⟩ : ∃ q, objsI (l.take j) = q := ⟨_, rfl⟩
      have hfl : fN.len = j := by rw [← hfN, objsI_len, List.length_take, HN.out]; omega
      rw [hfN] at HR htk
      have HU := Lib.hid (show _ ∧ _ ∧ _ from ⟨hr2, hobj, hu5⟩)
      have HTK := Lib.hid htk
      clear hr hr2 hobj hu5 hus hx htk hfN hb
      go_wp2_with (first
        | ((with_reducible refine at_load_ (d := 15) ?_); refine wpList_load_mid rfl 44 (.tmp 14) rfl b (off + j * 5) rfl us _ (HU.out.1 _ (below_on H2.out.1 HR.out.2)) Tryd.underlying44 rfl (by rw [HU.out.2.2]; exact size_x) ?_)
        | (go_at_call 52; ((with_reducible refine (HU.out.2.1 _).mono ?_); rintro e w9 ⟨A9, c9, rfl, h1, h2, hb⟩); have H9 := Lib.hid (show _ ∧ _ ∧ _ from ⟨h1, h2, hb⟩); clear h1 h2 hb)
        | ((with_reducible refine at_any_ (d := 17) ?_); go_must (refine wpList_bslV rfl 52 54 1 _ rfl Tryd.underlying52 (pe1 rfl) (bs1 _ _ _) ?_); intro g5 w10 hf hr; have H10 := Lib.hid (show _ ∧ _ from ⟨hf, hr⟩); clear hf hr)
        | ((with_reducible refine at_call_ (d := 18) ?_); obtain ⟨cs, hc1, hc2⟩ := HR.out.1; go_must (refine wpList_append_lies _ rfl (.tmp 11) (.tmp 17) 52 rfl w2.heap.size 54 i0 _ 3 56 Tryd.underlying52 hi hz0 hz1 hz2 rfl (by decide) u3 fN.len cs rfl (own3_on (own3_on hc1 H9.out.2.2) H10.out.1.bw) ⟨g5, 0, none⟩ 1 1 (nodV 48 none 0 0 A9 (kidF x).len c9) rfl rfl H10.out.2.src (nodV_one _ _ _ _ _ _ _) (by decide) (by unfold maxLen; omega) (by omega) (Nat.le_trans HR.out.2.size (Nat.le_trans H9.out.2.2.size H10.out.1.bw.size)) _ rfl ?_); intro g6 c6 w11 ho hg hl hlt6; have H11 := Lib.hid (show HeldN w2 w11 _ (fN.app (.cons 48 [] (kidF x) .nil)) ∧ Below w2.heap.size w2 w11 from ⟨HeldN.snoc (wr := wr) (w1 := w9) (wa := w10) (x := []) (k := kidF x) H9.out.2.2 H10.out.1.bw ⟨fun _ => rfl, Nat.zero_le _, H9.out.1⟩ (.inl rfl) H9.out.2.1 HR.out.2.size cs hc1 hc2 rfl ho hg hl, row_below (below_on (below_on HR.out.2 H9.out.2.2) H10.out.1.bw) hg fun k e => (own_lt3 hc1 k e).1⟩); clear ho hg hl hlt6 hc1 hc2))
      go_roundw
      case rel => exact ⟨j + 1, by omega, by first | rfl | go_num, Lib.hid ⟨by have h := H11.out.1; rw [hfl] at h; rw [HTK.out]; exact h, H11.out.2⟩⟩
      case measure => simp [intOf]; omega
    · obtain rfl : j = n := by omega
      have dj : decide ((j : Int) < (j : Int)) = false := by simp
      obtain ⟨Ah, ch, rfl, hlh, hsh⟩ := HR.out.1.slice
      have e6 : objsI (l.take j) = objsI l := by rw [List.take_of_length_le (by rw [HN.out]; exact Nat.le_refl _)]
      have e7 : (objsI l).len = j := by rw [objsI_len, HN.out]
      rw [e6] at hsh hlh ⊢
      rw [e7] at hlh ⊢
      have HH := Lib.hid (show SeesN wr (newB w2 wr) Ah (objsI l) ∧ j ≤ ch ∧ Below w2.heap.size w2 wr from ⟨hsh, hlh, HR.out.2⟩)
      clear e6 e7 hlh hsh HR
      go_wp2_with (first
        | (go_at_call 53; ((with_reducible refine (r_cons 49 _ _ _ _).mono ?_); rintro e w10 ⟨rfl, hb⟩); have H10 := Lib.hid hb; clear hb)
        | ((with_reducible refine at_store_ (i := 2) ?_); go_must (refine wpList_store_v rfl 54 (.tmp 2) (.tmp 20) rfl g2 zerN (nodV 49 none 0 0 Ah j ch) rfl rfl ((H2.out.2.1.on HH.out.2.2).on H10.out) rfl (nodV_one _ _ _ _ _ _ _) size_n ?_); intro w12 hw hr; have H12 := Lib.hid (show _ ∧ _ from ⟨hw, hr⟩); clear hw hr))
      exact bodyPost_ret (results_v rfl _ _ g2 (nodV 49 none 0 0 Ah j ch) _ rfl H12.out.2 Tryd.underlying54 rfl size_n) rfl ⟨_, ch, by rw [HN.out], by rw [HN.out]; exact HH.out.2.1, SeesN.put (HH.out.1.newOn H10.out) H12.out.1 H2.out.2.1.lt H2.out.1.size, Wr.bl (below_on (below_on H2.out.1 HH.out.2.2) H10.out) H12.out.1 H2.out.2.2⟩
theorem numF_sm (x : Im) : ∀ l, (∀ t s c, (t, s, c) ∈ l → (t = 2 ∨ t = 4) ∧ s ≤ 4) → (numF x l).sm
  | [], _ => trivial
  | (t, s, c) :: r, h => by
    obtain ⟨h1, h2⟩ := h t s c (List.mem_cons_self ..)
    exact ⟨by rw [octL_length]; omega, trivial, numF_sm x r fun t s c h3 => h t s c (List.mem_cons_of_mem _ h3)⟩
theorem objsI_sm : ∀ l : List Im, (objsI l).sm
  | [] => trivial
  | x :: r => ⟨Nat.zero_le _, ⟨by rw [idL_len]; decide, trivial, numF_sm x _ fun _ _ _ h => numsI_mem h⟩, objsI_sm r⟩
theorem setF_sm (l : List Im) : (setF l).sm := ⟨Nat.zero_le _, objsI_sm l, trivial⟩
set_option maxHeartbeats 1600000 in
theorem r_iencode (l : List Im) (n : Nat) (hn : l.length = n) (hm : n ≤ 140737488351232) (A : Option Addr) (c : Nat) (w : World) (hs : SeesP w (· < w.heap.size) A (Ics l)) :
    Calls Tryd.prog 9 #[.slice A n c] w (GivesZ w (seB l) (seE l)) := by
  have hc := r_ivalid l n hn hm A c w hs
  obtain ⟨v, hv⟩ : ∃ v, vaE l = v := ⟨_, rfl⟩
  rw [hv] at hc
  have HC := Lib.hid hc
  by_cases h0 : v = 0
  · subst h0
    obtain ⟨h1, h2⟩ := vaE_ok hv
    have HL := Lib.hid (fun w0 (h : SeesP w0 (· < w0.heap.size) A (Ics l)) => r_set_obj l n hn (by omega) h2 A c w0 h)
    have HS := Lib.hid hs
    have hz := setF_size l
    have HF := Lib.hid (show seB l = encB (setF l) ∧ seE l = encE (setF l) ∧ l.length = n from ⟨by unfold seB; rw [if_pos hv], by unfold seE; rw [if_pos hv], hn⟩)
    have HE : Hid (∀ (A : Option Addr) (c : Nat) (w : World), SeesF w (· < w.heap.size) A (setF l) → Calls Tryd.prog 30 #[.slice A 1 c] w (GivesZ w (encB (setF l)) (encE (setF l)))) := Lib.hid (fun A c w h => ref_encode (setF l) A c w (by omega) (setF_ok l) (setF_sm l) h)
    clear hc hs hn hv h1 h2 hz
    go_enter Tryd.func9, Tryd.ntmps9
    go_wp2_with (first
      | (go_at_call 14; ((with_reducible refine HC.out.mono ?_); rintro e w1 ⟨rfl, hb⟩); have H1 := Lib.hid hb; clear hb)
      | (go_at_call 31; ((with_reducible refine (HL.out _ (SeesP.on2 HS.out H1.out)).mono ?_); rintro e w2 ⟨A2, c2, rfl, h1, h2, hb⟩); rw [HF.out.2.2] at h1 ⊢; have H2 := Lib.hid (show _ ∧ _ ∧ _ from ⟨h1, h2, hb⟩); clear h1 h2 hb)
      | ((with_reducible refine at_any_ (d := 12) ?_); go_must (refine wpList_bslV rfl 52 54 1 _ rfl Tryd.underlying52 (pe1 rfl) (bs1 _ _ _) ?_); intro g5 w3 hf hr; have H3 := Lib.hid (show Below w.heap.size w w3 ∧ SeesF w3 (· < w3.heap.size) (some ⟨g5, 0, none⟩) (setF l) from by
          have hb := below_on (below_on H1.out H2.out.2.2) hf.bw
          obtain ⟨ks, k1, k2⟩ := H2.out.2.1.newOn hf.bw
          exact ⟨hb, ⟨_, .inr ⟨g5, 0, rfl, hr.lt, fun j hj => by rw [Nat.zero_add, hr.cell]⟩, none, 0, A2, c2, ks, [], (by rw [objsI_len, HF.out.2.2]; rfl), fun _ => rfl, .inl rfl, k1.imp fun b hb => hb.2, HoldsP.imp (fun b hb => hb.2) k2.holds, rfl⟩⟩); clear hf hr)
      | (go_at_call 30; ((with_reducible refine (HE.out _ _ _ H3.out.2).mono ?_); rintro e w4 ⟨A4, c4, rfl, h1, h2, h3⟩); have H4 := Lib.hid (show _ ∧ _ ∧ _ from ⟨h1, h2, h3⟩); clear h1 h2 h3))
    have HD := Lib.hid (show GivesZ w (seB l) (seE l) (.returned (.tuple #[.slice A4 (encB (setF l)).length c4, .int .i64 (encE (setF l))])) w4 from by
      rw [HF.out.1, HF.out.2.1]
      exact ⟨A4, c4, rfl, H4.out.1.imp fun b hb => ⟨Nat.le_trans H3.out.1.size hb.1, hb.2⟩, below_on H3.out.1 H4.out.2.1, H4.out.2.2⟩)
    go_ret2
    exact HD.out
  · have d0 : (v != 0) = true := by simpa using h0
    have HF := Lib.hid (show seB l = [] ∧ seE l = v from ⟨by unfold seB; rw [if_neg (by rw [hv]; exact h0)], by unfold seE; rw [if_neg (by rw [hv]; exact h0)]; exact hv⟩)
    clear hc hs hn hv h0
    go_enter Tryd.func9, Tryd.ntmps9
    go_wp2_with (go_at_call 14; ((with_reducible refine HC.out.mono ?_); rintro e w1 ⟨rfl, hb⟩); have H1 := Lib.hid hb; clear hb)
    have HD := Lib.hid (show GivesZ w (seB l) (seE l) (.returned (.tuple #[.slice none 0 0, .int .i64 v])) w1 from by
      rw [HF.out.1, HF.out.2]
      exact ⟨none, 0, rfl, .inl rfl, H1.out, Nat.le_refl _, fun _ => rfl⟩)
    go_ret2
    exact HD.out
end Go.Proofs.YtmkggpgpiepjfaaDoor
