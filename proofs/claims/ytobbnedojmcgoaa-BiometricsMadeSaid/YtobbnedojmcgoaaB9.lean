/-
  What is proved here: the reference's Encode.
-/
import Derived.Test.YtobbnedojmcgoaaB8
namespace Go.Proofs.Ytobbnedojmcgoaa
open Go.RowKit
set_option linter.unusedVariables false
set_option linter.unusedSimpArgs false

theorem lit_sees {w c c' : World} {g : Nat} {v : List UInt8} {vs : List Value} (hf : Fresh c c' g) (hr : RowV c' g vs) (hv : vs = Us v) (hs : w.heap.size ≤ c.heap.size) : SeesP c' (newB w c') (some ⟨g, 0, none⟩) (Us v) :=
  .inr ⟨g, 0, rfl, ⟨by rw [hf.1]; exact hs, hr.lt⟩, fun j hj => by rw [Nat.zero_add, hr.cell, hv]⟩
theorem r_enc_bad (l : List Tm) (n : Nat) (hn : l.length = n) (hv : encE l = 2) (hc : n = 0 ∨ 8 < n) (A : Option Addr) (c : Nat) (w : World) :
    Calls Try.prog 14 #[.slice A n c] w (EncIs l w) := by
  have HD := Lib.hid (show EncIs l w (.returned (.tuple #[.slice none 0 0, .int .i64 2])) w from by
    have hf : encF l = .nil := by unfold encF; rw [if_neg (by rw [hv]; decide)]
    unfold EncIs
    rw [hf, hv]
    exact ⟨none, 0, rfl, Nat.le_refl _, SeesN.nil_, Below.refl _ _⟩)
  clear hn hv
  rcases hc with rfl | hc
  · go_enter Try.func14, Try.ntmps14
    go_wp2
    go_ret2
    exact HD.out
  · have d1 : decide ((n : Int) < 1) = false := by simp; omega
    have d8 : decide ((8 : Int) < (n : Int)) = true := by simp; omega
    clear hc
    go_enter Try.func14, Try.ntmps14
    go_wp2
    go_ret2
    exact HD.out
set_option maxHeartbeats 6400000 in
set_option maxRecDepth 20000 in
theorem r_encode (l : List Tm) (n : Nat) (hn : l.length = n) (A : Option Addr) (c : Nat) (w : World) (hs : SeesT w (· < w.heap.size) A l) :
    Calls Try.prog 14 #[.slice A n c] w (EncIs l w) := by
  by_cases h0 : n = 0
  · exact r_enc_bad l n hn (by unfold encE; rw [if_pos (by omega)]) (.inl h0) A c w
  by_cases h8 : 8 < n
  · exact r_enc_bad l n hn (by unfold encE; rw [if_pos (by omega)]) (.inr h8) A c w
  obtain ⟨i0, hi, hz0, hz1, hz2⟩ := info_parts info_node
  have d1 : decide ((n : Int) < 1) = false := by simp; omega
  have d8 : decide ((8 : Int) < (n : Int)) = false := by simp; omega
  have hv : encE l = chkT l := by unfold encE; rw [if_neg (by omega)]
  have hcu : IntKind.u8.wrap (n : Int) = (n : Int) := by rw [IntKind.wrap_u8]; omega
  have hun : Value.int .u8 (n : Int) = U (UInt8.ofNat n) := by rw [← u8_wrap, hcu]
  have HS := Lib.hid hs
  have HN := Lib.hid hn
  have HV := Lib.hid hv
  have HB := Lib.hid (Below.refl w.heap.size w)
  have HUN := Lib.hid hun
  have hn8 : n ≤ 8 := by omega
  have hn0 : 0 < n := by omega
  clear hs hn hv h0 h8 hun
  go_enter Try.func14, Try.ntmps14
  go_wp2_with (first
    | ((with_reducible refine at_any_ (d := 18) ?_); go_must (refine wpList_bslV rfl 25 5 1 _ rfl Try.underlying25 (pe1 (HUN.out)) (bsu1 _) ?_); intro g1 w1 hf hr; have H1 := Lib.hid (show _ ∧ _ from ⟨hf.bw, lit_sees (w := w) (v := [UInt8.ofNat n]) hf hr rfl (Nat.le_refl _)⟩); clear hf hr)
    | (go_at_call 32; go_must (refine (r_prim 2 [UInt8.ofNat n] 1 rfl (by decide) (some ⟨g1, 0, none⟩) 1 (fun h => by cases h) _ (H1.out.2.imp fun b hb => hb.2)).mono ?_); (skip; rintro e w2 ⟨A2, c2, rfl, h2, s2, hb⟩); have H2 := Lib.hid (show _ ∧ _ ∧ _ from ⟨h2, s2.imp (p' := newB w w2) fun b hb2 => newB_imp hb2 H1.out.1.size (Nat.le_refl _), below_on H1.out.1 hb⟩); clear h2 s2 hb)
    | ((with_reducible refine at_any_ (d := 20) ?_); go_must (refine wpList_bslT rfl 33 53 1 _ rfl Try.underlying33 (pe1 rfl) (bs1 _ _ _) ?_); intro g3 w3 hf hr; have H3 := Lib.hid (show HeldN w w3 (.slice (some ⟨g3, 0, none⟩) 1 1) (cntF n) ∧ Below w.heap.size w w3 from ⟨⟨_, own_lit hr rfl (by decide) (hf.ge H2.out.2.2), A2, c2, none, 0, [], [], by rw [octL_length]; rfl, ⟨H2.out.1.1, by rw [octL_length]; exact H2.out.1.2, Nat.zero_le _⟩, by rw [octL1]; exact ((H2.out.2.1.keep fun q hq => hf.bw.cell hq.2).imp fun b hb => ⟨⟨hb.1, Nat.lt_of_lt_of_le hb.2 hf.bw.size⟩, fun e => by have e : some g3 = some b := e; injection e with e; have := hb.2; have := hf.1; omega⟩), .inl rfl, rfl, rfl⟩, below_on H2.out.2.2 hf.bw⟩); clear hf hr))
  clear HB hcu
  go_loopw [4, 5] (fun v i wr => ∃ (j : Nat), j ≤ n ∧ i = .int .i64 (j : Int) ∧ Hid (HeldN w wr v ((cntF n).app (objsF (l.take j))) ∧ Below w.heap.size w wr ∧ chkT (l.drop j) = chkT l)) (fun _ i _ => n - (intOf i).toNat)
  case atStart => exact ⟨0, by omega, rfl, Lib.hid ⟨H3.out.1, H3.out.2, rfl⟩⟩
  case round =>
    obtain ⟨j, hj, rfl, HR⟩ := hrel
    by_cases hlt : j < n
    · have dj : decide ((j : Int) < (n : Int)) = true := by simp; omega
      obtain ⟨x, hx⟩ : ∃ x, l[j]? = some x := ⟨_, List.getElem?_eq_getElem (by rw [HN.out]; exact hlt)⟩
      obtain ⟨b, off, Ad, cd, rfl, hb, hr, hd0, _, hd⟩ := tm_at HS.out hx
      have hr2 := fun cur (h : Below w.heap.size w cur) => rangeAt_on hr hb h
      obtain ⟨v, hvv⟩ : ∃ v, vT x = v := ⟨_, rfl⟩
      have hstep := chkT_drop hx
      have hval := fun w => r_valid x Ad cd w
      have hob := fun (hv : vT x = 0) w0 (h : SeesP w0 (· < w0.heap.size) Ad (Us x.d)) => r_object x hv Ad cd w0 hd0 h
      rw [hvv] at hstep hval hob
      have htk := take_objs hx (cntF n)
      obtain ⟨us, hus⟩ : ∃ us, x.cs Ad cd = us := ⟨_, rfl⟩
      have hu7 : us.length = 7 := by rw [← hus]; rfl
      rw [hus] at hr2 hval hob
      obtain ⟨fN, hfN⟩ : ∃ q, (cntF n).app (objsF (l.take j)) = q := ⟨_, rfl⟩
      have hfl : fN.len = j + 1 := by rw [← hfN, F.len_app, objs_len, List.length_take, HN.out]; simp only [cntF, F.len]; omega
      rw [hfN] at HR htk
      have HU := Lib.hid (show _ ∧ _ ∧ _ ∧ _ ∧ _ from ⟨hr2, hval, hu7, hob, hd⟩)
      have HT := Lib.hid (show _ ∧ _ from ⟨htk, hstep⟩)
      clear hr hr2 hval hob hu7 hd hus hx hvv htk hfN hd0 hstep
      by_cases h : v = 0
      · subst h
        have HOB := Lib.hid (HU.out.2.2.2.1 rfl)
        go_wp2_with (first
          | ((with_reducible refine at_load_ (d := 30) ?_); refine wpList_load_mid rfl 27 (.tmp 29) rfl b (off + j * 7) rfl us _ (HU.out.1 _ HR.out.2.1) Try.underlying27 rfl (by rw [HU.out.2.2.1]; exact size_t) ?_)
          | (go_at_call 8; ((with_reducible refine (HU.out.2.1 _).mono ?_); rintro e w6 ⟨rfl, hb⟩); have H6 := Lib.hid (show _ ∧ _ from ⟨HR.out.1.on hb, below_on HR.out.2.1 hb⟩); clear hb)
          | ((with_reducible refine at_load_ (d := 39) ?_); refine wpList_load_mid rfl 27 (.tmp 38) rfl b (off + j * 7) rfl us _ (HU.out.1 _ H6.out.2) Try.underlying27 rfl (by rw [HU.out.2.2.1]; exact size_t) ?_)
          | (go_at_call 33; ((with_reducible refine (HOB.out _ (SeesP.on2 HU.out.2.2.2.2 H6.out.2)).mono ?_); rintro e w9 ⟨A9, c9, rfl, h1, h2, hb⟩); have H9 := Lib.hid (show _ ∧ _ ∧ _ from ⟨h1, h2, hb⟩); clear h1 h2 hb)
          | ((with_reducible refine at_any_ (d := 41) ?_); go_must (refine wpList_bslV rfl 33 53 1 _ rfl Try.underlying33 (pe1 rfl) (bs1 _ _ _) ?_); intro g5 w10 hf hr; have H10 := Lib.hid (show _ ∧ _ from ⟨hf, hr⟩); clear hf hr)
          | ((with_reducible refine at_call_ (d := 42) ?_); obtain ⟨cs, hc1, hc2⟩ := H6.out.1; go_must (refine wpList_append_lies _ rfl (.tmp 35) (.tmp 41) 33 rfl w.heap.size 53 i0 _ 3 56 Try.underlying33 hi hz0 hz1 hz2 rfl (by decide) u4 fN.len cs rfl (own3_on (own3_on hc1 H9.out.2.2) H10.out.1.bw) ⟨g5, 0, none⟩ 1 1 (nodV 32608 none 0 0 A9 2 c9) rfl rfl H10.out.2.src (nodV_one _ _ _ _ _ _ _) (by decide) (by unfold maxLen; omega) (by omega) (Nat.le_trans H6.out.2.size (Nat.le_trans H9.out.2.2.size H10.out.1.bw.size)) _ rfl ?_); intro g6 c6 w11 ho hg hl hlt; have H11 := Lib.hid (show HeldN w w11 _ (fN.app (.cons 32608 [] (objK x) .nil)) ∧ Below w.heap.size w w11 from ⟨HeldN.snoc (wr := w6) (w1 := w9) (wa := w10) (x := []) (k := objK x) H9.out.2.2 H10.out.1.bw ⟨fun _ => rfl, Nat.zero_le _, H9.out.1⟩ (.inl rfl) H9.out.2.1 H6.out.2.size cs hc1 hc2 rfl ho hg hl, row_below (below_on (below_on H6.out.2 H9.out.2.2) H10.out.1.bw) hg fun k e => (own_lt3 hc1 k e).1⟩); clear ho hg hl hlt hc1 hc2))
        go_roundw
        case rel => exact ⟨j + 1, by omega, by first | rfl | go_num, Lib.hid ⟨by have h := H11.out.1; rw [hfl] at h; rw [HT.out.1]; exact h, H11.out.2, by rw [← HR.out.2.2, HT.out.2]; simp⟩⟩
        case measure => simp [intOf]; omega
      · have dv : (v != 0) = true := by simpa using h
        have HC := Lib.hid (show chkT l = v from by rw [← HR.out.2.2, HT.out.2]; simp [h])
        go_wp2_with (first
          | ((with_reducible refine at_load_ (d := 30) ?_); refine wpList_load_mid rfl 27 (.tmp 29) rfl b (off + j * 7) rfl us _ (HU.out.1 _ HR.out.2.1) Try.underlying27 rfl (by rw [HU.out.2.2.1]; exact size_t) ?_)
          | (go_at_call 8; ((with_reducible refine (HU.out.2.1 _).mono ?_); rintro e w6 ⟨rfl, hb⟩); have H6 := Lib.hid (show _ ∧ _ from ⟨HR.out.1.on hb, below_on HR.out.2.1 hb⟩); clear hb))
        have HD := Lib.hid (show EncIs l w (.returned (.tuple #[.slice none 0 0, .int .i64 v])) w6 from by
          have he : encE l = v := by rw [HV.out, HC.out]
          have hf : encF l = .nil := by unfold encF; rw [if_neg (by rw [he]; exact h)]
          unfold EncIs
          rw [hf, he]
          exact ⟨none, 0, rfl, Nat.le_refl _, SeesN.nil_, H6.out.2⟩)
        go_ret2
        exact HD.out
    · obtain rfl : j = n := by omega
      have dj : decide ((j : Int) < (j : Int)) = false := by simp
      obtain ⟨Ah, ch, rfl, hlh, hsh⟩ := HR.out.1.slice
      have e6 : (cntF j).app (objsF (l.take j)) = listK l := by rw [List.take_of_length_le (by rw [HN.out]; exact Nat.le_refl _)]; simp only [cntF, F.app, listK, HN.out]
      have e7 : ((cntF j).app (objsF (l.take j))).len = j + 1 := by rw [F.len_app, objs_len, List.length_take, HN.out]; simp only [cntF, F.len]; omega
      have e8 : chkT l = 0 := by rw [← HR.out.2.2, List.drop_of_length_le (by rw [HN.out]; exact Nat.le_refl _)]; rfl
      rw [e7] at hlh ⊢
      rw [e6] at hsh
      have HH := Lib.hid (show _ ∧ _ ∧ _ from ⟨hsh, hlh, HR.out.2.1⟩)
      have HF := Lib.hid (show encF l = listF l ∧ encE l = 0 ∧ (listK l).len = j + 1 from ⟨by unfold encF; rw [if_pos (by rw [HV.out, e8])], by rw [HV.out, e8], by rw [← e6, e7]⟩)
      clear e6 e7 e8 hlh hsh HR
      go_wp2_with (first
        | (go_at_call 34; ((with_reducible refine (r_cons 32609 Ah (j + 1) ch _).mono ?_); rintro e w7 ⟨rfl, hb⟩); have H7 := Lib.hid hb; clear hb)
        | ((with_reducible refine at_any_ (d := 45) ?_); go_must (refine wpList_bslV rfl 33 53 1 _ rfl Try.underlying33 (pe1 rfl) (bs1 _ _ _) ?_); intro g5 w8 hf hr; have H8 := Lib.hid (show _ ∧ _ from ⟨hf, hr⟩); clear hf hr))
      have HD := Lib.hid (show EncIs l w (.returned (.tuple #[.slice (some ⟨g5, 0, none⟩) 1 1, .int .i64 0])) w8 from by
        unfold EncIs
        rw [HF.out.1, HF.out.2.1]
        refine ⟨_, 1, rfl, Nat.le_refl _, ?_, below_on (below_on HH.out.2.2 H7.out) H8.out.1.bw⟩
        obtain ⟨ks, k1, k2⟩ := (HH.out.1.newOn H7.out).newOn H8.out.1.bw
        exact ⟨_, .inr ⟨g5, 0, rfl, ⟨H8.out.1.ge (below_on HH.out.2.2 H7.out), H8.out.2.lt⟩, fun j hj => by rw [Nat.zero_add, H8.out.2.cell]⟩, none, 0, Ah, ch, ks, [], by rw [HF.out.2.2]; rfl, ⟨fun _ => rfl, Nat.zero_le _, by rw [HF.out.2.2]; exact HH.out.2.1⟩, .inl rfl, k1, k2, rfl⟩)
      go_ret2
      exact HD.out
end Go.Proofs.Ytobbnedojmcgoaa
