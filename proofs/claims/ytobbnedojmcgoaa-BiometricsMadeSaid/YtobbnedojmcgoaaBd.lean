/-
  What is proved here: the program's reading of the object of a template.
-/
import Derived.Test.YtobbnedojmcgoaaBc
namespace Go.Proofs.Ytobbnedojmcgoaa
open Go.RowKit
set_option linter.unusedVariables false
set_option linter.unusedSimpArgs false

/-- what is answered of a template's object -/
def TmpIs (o : Option Tm) (w : World) (e : Ending) (w' : World) : Prop := ∃ cs : List Value, cs.length = 7 ∧ (∀ u ∈ cs, u.oneCell' = true) ∧ e = .returned (.tuple #[.agg cs.toArray, .bool o.isSome]) ∧
  (∀ x, o = some x → ∃ A c, cs = x.cs A c ∧ ((A = none → c = 0) ∧ x.d.length ≤ c) ∧ SeesP w' (newB w w') A (Us x.d)) ∧ Below w.heap.size w w'
theorem TmpIs.bad {o : Option Tm} {w w' : World} (h : o = none) (hb : Below w.heap.size w w') : TmpIs o w (.returned (.tuple #[.agg zerT.toArray, .bool false])) w' :=
  ⟨zerT, rfl, cs_one default none 0, by rw [h]; rfl, fun x hx => (by rw [h] at hx; cases hx), hb⟩
theorem tmT_two {t : Int} {v : List UInt8} {k : F} (h : ¬ (t = 32608 ∧ v.length = 0) ∨ k.len ≠ 2) : tmT t v k = none := by
  match k with
  | .nil => rfl
  | .cons _ _ _ .nil => rfl
  | .cons th vh kh (.cons td vd kd (.cons _ _ _ _)) => rfl
  | .cons th vh kh (.cons td vd kd .nil) =>
    show (if t = 32608 ∧ v.length = 0 ∧ td = 24366 ∧ kd.len = 0 then (hdrT th vh kh).map (tmOf · vd) else none) = none
    rcases h with h | h
    · rw [if_neg fun h2 => h ⟨h2.1, h2.2.1⟩]
    · simp [F.len] at h
theorem hdrC_cs (L : List Nat) (d : List UInt8) (A : Option Addr) (c n : Nat) (hn : d.length = n) : (hdrC L).set 6 (.slice A n c) = (tmOf L d).cs A c := by subst hn; rfl
theorem size_sl : (Try.prog.info? 25).map (·.size) = some 1 := by kernel_rfl
theorem set_one {cs : List Value} {i : Nat} {v : Value} (h : ∀ u ∈ cs, u.oneCell' = true) (hv : v.oneCell' = true) : ∀ u ∈ cs.set i v, u.oneCell' = true := by
  intro u hu
  rcases List.mem_or_eq_of_mem_set hu with h1 | h1
  · exact h u h1
  · rw [h1]; exact hv
set_option maxHeartbeats 6400000 in
set_option maxRecDepth 20000 in
theorem p_open_tm (t : Int) (v : List UInt8) (k : F) (n lk : Nat) (hn : v.length = n) (hlk : k.len = lk) (hok : k.ok) (Av : Option Addr) (cv : Nat) (Ak : Option Addr) (ck : Nat) (w : World) (hs : SeesN w (· < w.heap.size) Ak k) :
    Calls Try.prog 47 #[.agg (nodV t Av n cv Ak lk ck).toArray] w (TmpIs (tmT t v k) w) := by
  obtain ⟨us, hus⟩ : ∃ us, nodV t Av n cv Ak lk ck = us := ⟨_, rfl⟩
  have hF := fun w => p_has_form t 32608 true (by decide) (by decide) (by decide) Av n cv Ak lk ck w
  obtain ⟨f, hf⟩ : ∃ f, formB t 32608 true n lk = f := ⟨_, rfl⟩
  rw [hf, hus] at hF
  have HU := Lib.hid (show us[2]? = some (.slice Ak lk ck) ∧ (Try.prog.info? 53).map (·.size) = some us.length from by rw [← hus]; exact ⟨rfl, size_n⟩)
  have HF := Lib.hid hF
  have HB := Lib.hid (Below.refl w.heap.size w)
  rw [hus]
  have hft : f = true ↔ (t = 32608 ∧ v.length = 0) := by rw [← hf, hn]; simp [formB]
  rcases f with _ | _
  · have HD := Lib.hid (tmT_two (k := k) (.inl fun h => Bool.noConfusion (hft.2 h)))
    clear hus hF hf hs hn hlk hft hok
    go_enter Try.func47, Try.ntmps47
    go_wp2_with (first
      | ((with_reducible refine at_box_ (d := 1) ?_); refine wpList_box_v (op := ⟨some 1, _, _, _, _, _⟩) rfl 53 _ rfl us rfl ?_; intro g1 w1 hf hr; have H1 := Lib.hid (show _ ∧ _ from ⟨hf.bl HB.out, hr⟩); clear hf hr)
      | ((with_reducible refine at_alloc_ (d := 2) ?_); refine wpList_alloc_v (op := ⟨some 2, _, _, _, _, _⟩) rfl 27 rfl zerT info_t ?_; intro g2 w2 hf hr; have H2 := Lib.hid (show _ ∧ _ ∧ _ ∧ _ from ⟨hf.bl H1.out.1, H1.out.2.fresh hf, hr, hf.ge H1.out.1⟩); clear hf hr)
      | ((with_reducible refine at_load_ (d := 7) ?_); refine wpList_load_v rfl 53 (.tmp 1) rfl g1 rfl us _ H2.out.2.1 Try.underlying53 rfl HU.out.2 ?_)
      | (go_at_call 45; ((with_reducible refine (HF.out _).mono ?_); rintro e w6 ⟨rfl, hb⟩); have H6 := Lib.hid (show _ ∧ _ from ⟨below_on H2.out.1 hb, H2.out.2.2.1.on hb⟩); clear hb)
      | ((with_reducible refine at_store_ (i := 2) ?_); go_must (refine wpList_store_v rfl 27 (.tmp 2) (.tmp 16) rfl g2 zerT zerT rfl rfl H6.out.2 rfl (cs_one default none 0) size_t ?_); intro w7 hw hr; have H7 := Lib.hid (show _ ∧ _ from ⟨Wr.bl H6.out.1 hw H2.out.2.2.2, hr⟩); clear hw hr))
    refine bodyPost_ret (results_v1 rfl _ _ g2 zerT _ rfl H7.out.2 Try.underlying27 rfl size_t) rfl ?_
    exact TmpIs.bad HD.out H7.out.1
  by_cases hl2 : lk = 2
  · subst hl2
    obtain ⟨th, vh, kh, r1, rfl⟩ : ∃ th vh kh r1, k = .cons th vh kh r1 := by
      match k, hlk with
      | .cons a b c d, _ => exact ⟨a, b, c, d, rfl⟩
    obtain ⟨td, vd, kd, rfl⟩ : ∃ td vd kd, r1 = .cons td vd kd .nil := by
      match r1, hlk with
      | .cons a b c .nil, _ => exact ⟨a, b, c, rfl⟩
      | .cons a b c (.cons _ _ _ _), h => simp [F.len] at h
    obtain ⟨kb, ko, A1, c1, B1, d1, rfl, hb1, hr1, _, _, _, _, hk1⟩ := node_atN (j := 0) hs rfl
    obtain ⟨kb', ko', A2, c2, B2, d2, e', hb2, hr2, ha2, hl2, _, hv2, _⟩ := node_atN (j := 1) hs rfl
    injection e' with e'
    injection e' with e1 e2 _
    subst e1; subst e2
    have hdb := hok.2.2.2.2.1
    obtain ⟨nh, hnh⟩ : ∃ n, vh.length = n := ⟨_, rfl⟩
    obtain ⟨nd, hnd⟩ : ∃ n, vd.length = n := ⟨_, rfl⟩
    have hH := fun cur (h : Below w.heap.size w cur) => p_open_hdr th vh kh nh kh.len hnh rfl A1 c1 B1 d1 cur (hk1.on h)
    have hG := fun w => p_has_form td 24366 false (by decide) (by decide) (by decide) A2 nd c2 B2 kd.len d2 w
    rw [hnh] at hr1
    rw [hnd] at hr2 hl2 hdb
    have hC := fun cur (h : Below w.heap.size w cur) => p_copied vd nd hnd hdb A2 c2 cur (SeesP.on2 hv2 h)
    have hr1' := fun cur (h : Below w.heap.size w cur) => rangeAt_on hr1 hb1 h
    have hr2' := fun cur (h : Below w.heap.size w cur) => rangeAt_on hr2 hb1 h
    rw [Nat.zero_mul, Nat.add_zero] at hr1'
    rw [Nat.one_mul] at hr2'
    obtain ⟨n1, hn1⟩ : ∃ q, nodV th A1 nh c1 B1 kh.len d1 = q := ⟨_, rfl⟩
    obtain ⟨n2, hn2⟩ : ∃ q, nodV td A2 nd c2 B2 kd.len d2 = q := ⟨_, rfl⟩
    obtain ⟨o1, ho1⟩ : ∃ q, hdrT th vh kh = q := ⟨_, rfl⟩
    obtain ⟨g, hg⟩ : ∃ q, formB td 24366 false nd kd.len = q := ⟨_, rfl⟩
    have hs1 : (Try.prog.info? 53).map (·.size) = some n1.length := by rw [← hn1]; exact size_n
    have hs2 : (Try.prog.info? 53).map (·.size) = some n2.length := by rw [← hn2]; exact size_n
    have hone : ∀ u ∈ n2, u.oneCell' = true := by rw [← hn2]; exact nodV_one _ _ _ _ _ _ _
    have hval : n2[1]? = some (.slice A2 nd c2) := by rw [← hn2]; rfl
    have hlen2 : n2.length = 3 := by rw [← hn2]; rfl
    rw [hn1] at hr1' hH
    rw [hn2] at hr2' hG
    rw [ho1] at hH
    rw [hg] at hG
    have htm : tmT t v (.cons th vh kh (.cons td vd kd .nil)) = if g = true then o1.map (tmOf · vd) else none := by
      show (if t = 32608 ∧ v.length = 0 ∧ td = 24366 ∧ kd.len = 0 then (hdrT th vh kh).map (tmOf · vd) else none) = _
      have hgt : g = true ↔ (td = 24366 ∧ kd.len = 0) := by rw [← hg]; simp [formB]
      by_cases h : g = true
      · rw [if_pos ⟨(hft.1 rfl).1, (hft.1 rfl).2, (hgt.1 h).1, (hgt.1 h).2⟩, if_pos h, ho1]
      · rw [if_neg (fun h2 => h (hgt.2 ⟨h2.2.2.1, h2.2.2.2⟩)), if_neg h]
    rw [htm]
    obtain ⟨R, hR⟩ : ∃ R, (if g = true then o1.map (tmOf · vd) else none) = R := ⟨_, rfl⟩
    rw [hR]
    have HK := Lib.hid (show _ ∧ _ ∧ _ ∧ _ from ⟨hr1', hr2', hH, hG⟩)
    have HC := Lib.hid hC
    have HL := Lib.hid (show _ ∧ _ ∧ _ ∧ _ ∧ _ ∧ _ from ⟨hs1, hs2, hone, hval, hlen2, hnd⟩)
    clear hus hF hf hs hn hlk hok hb1 hr1 hk1 hb2 hr2 ha2 hl2 hv2 hdb hH hG hC hr1' hr2' hn1 hn2 ho1 hg hs1 hs2 hone hval hlen2 htm hft hnh hnd
    rcases o1 with _ | L
    · have HD := Lib.hid (show R = none from by rw [← hR]; split <;> rfl)
      clear hR
      go_enter Try.func47, Try.ntmps47
      go_wp2_with (first
        | ((with_reducible refine at_box_ (d := 1) ?_); refine wpList_box_v (op := ⟨some 1, _, _, _, _, _⟩) rfl 53 _ rfl us rfl ?_; intro g1 w1 hf hr; have H1 := Lib.hid (show _ ∧ _ from ⟨hf.bl HB.out, hr⟩); clear hf hr)
        | ((with_reducible refine at_alloc_ (d := 2) ?_); refine wpList_alloc_v (op := ⟨some 2, _, _, _, _, _⟩) rfl 27 rfl zerT info_t ?_; intro g2 w2 hf hr; have H2 := Lib.hid (show _ ∧ _ ∧ _ ∧ _ from ⟨hf.bl H1.out.1, H1.out.2.fresh hf, hr, hf.ge H1.out.1⟩); clear hf hr)
        | ((with_reducible refine at_load_ (d := 7) ?_); refine wpList_load_v rfl 53 (.tmp 1) rfl g1 rfl us _ H2.out.2.1 Try.underlying53 rfl HU.out.2 ?_)
        | (go_at_call 45; ((with_reducible refine (HF.out _).mono ?_); rintro e w6 ⟨rfl, hb⟩); have H6 := Lib.hid (show _ ∧ _ ∧ _ from ⟨below_on H2.out.1 hb, H2.out.2.2.1.on hb, H2.out.2.1.on hb⟩); have c2 := ((H2.out.2.1.on hb).cell 2).trans HU.out.1; clear hb)
        | ((with_reducible refine at_load_ (d := 21) ?_); go_must (refine wpList_load_mid rfl 53 (.tmp 20) rfl kb ko rfl n1 _ (HK.out.1 _ H6.out.1) Try.underlying53 rfl HL.out.1 ?_))
        | (go_at_call 54; ((with_reducible refine (HK.out.2.2.1 _ H6.out.1).mono ?_); rintro e w8 ⟨cs, hc7, hc1, rfl, hcl, hb⟩); have H8 := Lib.hid (show _ ∧ _ ∧ _ ∧ _ ∧ _ ∧ _ from ⟨below_on H6.out.1 hb, H6.out.2.1.on hb, H6.out.2.2.on hb, hc7, hc1, hcl⟩); have c8 := ((H6.out.2.2.on hb).cell 2).trans HU.out.1; clear hb hc7 hc1 hcl)
        | ((with_reducible refine at_alloc_ (d := 4) ?_); refine wpList_alloc_v (op := ⟨some 4, _, _, _, _, _⟩) rfl 27 rfl zerT info_t ?_; intro g4 w9 hf hr; have H9 := Lib.hid (show _ ∧ _ from ⟨hf, hr⟩); clear hf hr)
        | ((with_reducible refine at_store_ (i := 4) ?_); go_must (refine wpList_store_v rfl 27 (.tmp 4) (.tmp 23) rfl g4 zerT cs rfl rfl H9.out.2 H8.out.2.2.2.1 H8.out.2.2.2.2.1 (by rw [H8.out.2.2.2.1]; exact size_t) ?_); intro w10 hw hr; have hb := H9.out.1.wr_bl hw; have H10 := Lib.hid (show Below w.heap.size w w10 ∧ RowV w10 g2 zerT ∧ RowV w10 g1 us ∧ RowV w10 g4 cs ∧ w8.heap.size ≤ g4 from ⟨below_on H8.out.1 hb, H8.out.2.1.on hb, H8.out.2.2.1.on hb, hr, by rw [H9.out.1.1]; exact Nat.le_refl _⟩); have c10 := ((H8.out.2.2.1.on hb).cell 2).trans HU.out.1; clear hw hr hb)
        | ((with_reducible refine at_load_ (d := 28) ?_); go_must (refine wpList_load_mid rfl 53 (.tmp 27) rfl kb (ko + 3) rfl n2 _ (HK.out.2.1 _ H10.out.1) Try.underlying53 rfl HL.out.2.1 ?_))
        | ((with_reducible refine at_alloc_ (d := 6) ?_); refine wpList_alloc_v (op := ⟨some 6, _, _, _, _, _⟩) rfl 53 rfl zerN info_n ?_; intro g6 w11 hf hr; have H11 := Lib.hid (show _ ∧ _ from ⟨hf, hr⟩); clear hf hr)
        | ((with_reducible refine at_store_ (i := 6) ?_); go_must (refine wpList_store_v rfl 53 (.tmp 6) (.tmp 28) rfl g6 zerN n2 rfl rfl H11.out.2 HL.out.2.2.2.2.1 HL.out.2.2.1 (by rw [HL.out.2.2.2.2.1]; exact size_n) ?_); intro w12 hw hr; have hb := H11.out.1.wr_bl hw; have H12 := Lib.hid (show Below w.heap.size w w12 ∧ RowV w12 g2 zerT ∧ RowV w12 g4 cs ∧ RowV w12 g6 n2 ∧ g4 < g6 from ⟨below_on H10.out.1 hb, H10.out.2.1.on hb, H10.out.2.2.2.1.on hb, hr, by have := H10.out.2.2.2.1.lt; have := H11.out.1.1; omega⟩); clear hw hr hb)
        | ((with_reducible refine at_store_ (i := 2) ?_); go_must (refine wpList_store_v rfl 27 (.tmp 2) (.tmp 36) rfl g2 zerT zerT rfl rfl H12.out.2.1 rfl (cs_one default none 0) size_t ?_); intro w14 hw hr; have H14 := Lib.hid (show _ ∧ _ from ⟨Wr.bl H12.out.1 hw H2.out.2.2.2, hr⟩); clear hw hr))
      refine bodyPost_ret (results_v1 rfl _ _ g2 zerT _ rfl H14.out.2 Try.underlying27 rfl size_t) rfl ?_
      exact TmpIs.bad HD.out H14.out.1
    rcases g with _ | _
    · have HD := Lib.hid (show R = none from by rw [← hR]; rfl)
      clear hR
      go_enter Try.func47, Try.ntmps47
      go_wp2_with (first
        | ((with_reducible refine at_box_ (d := 1) ?_); refine wpList_box_v (op := ⟨some 1, _, _, _, _, _⟩) rfl 53 _ rfl us rfl ?_; intro g1 w1 hf hr; have H1 := Lib.hid (show _ ∧ _ from ⟨hf.bl HB.out, hr⟩); clear hf hr)
        | ((with_reducible refine at_alloc_ (d := 2) ?_); refine wpList_alloc_v (op := ⟨some 2, _, _, _, _, _⟩) rfl 27 rfl zerT info_t ?_; intro g2 w2 hf hr; have H2 := Lib.hid (show _ ∧ _ ∧ _ ∧ _ from ⟨hf.bl H1.out.1, H1.out.2.fresh hf, hr, hf.ge H1.out.1⟩); clear hf hr)
        | ((with_reducible refine at_load_ (d := 7) ?_); refine wpList_load_v rfl 53 (.tmp 1) rfl g1 rfl us _ H2.out.2.1 Try.underlying53 rfl HU.out.2 ?_)
        | (go_at_call 45; ((with_reducible refine (HF.out _).mono ?_); rintro e w6 ⟨rfl, hb⟩); have H6 := Lib.hid (show _ ∧ _ ∧ _ from ⟨below_on H2.out.1 hb, H2.out.2.2.1.on hb, H2.out.2.1.on hb⟩); have c2 := ((H2.out.2.1.on hb).cell 2).trans HU.out.1; clear hb)
        | ((with_reducible refine at_load_ (d := 21) ?_); go_must (refine wpList_load_mid rfl 53 (.tmp 20) rfl kb ko rfl n1 _ (HK.out.1 _ H6.out.1) Try.underlying53 rfl HL.out.1 ?_))
        | (go_at_call 54; ((with_reducible refine (HK.out.2.2.1 _ H6.out.1).mono ?_); rintro e w8 ⟨cs, hc7, hc1, rfl, hcl, hb⟩); have H8 := Lib.hid (show _ ∧ _ ∧ _ ∧ _ ∧ _ ∧ _ from ⟨below_on H6.out.1 hb, H6.out.2.1.on hb, H6.out.2.2.on hb, hc7, hc1, hcl⟩); have c8 := ((H6.out.2.2.on hb).cell 2).trans HU.out.1; clear hb hc7 hc1 hcl)
        | ((with_reducible refine at_alloc_ (d := 4) ?_); refine wpList_alloc_v (op := ⟨some 4, _, _, _, _, _⟩) rfl 27 rfl zerT info_t ?_; intro g4 w9 hf hr; have H9 := Lib.hid (show _ ∧ _ from ⟨hf, hr⟩); clear hf hr)
        | ((with_reducible refine at_store_ (i := 4) ?_); go_must (refine wpList_store_v rfl 27 (.tmp 4) (.tmp 23) rfl g4 zerT cs rfl rfl H9.out.2 H8.out.2.2.2.1 H8.out.2.2.2.2.1 (by rw [H8.out.2.2.2.1]; exact size_t) ?_); intro w10 hw hr; have hb := H9.out.1.wr_bl hw; have H10 := Lib.hid (show Below w.heap.size w w10 ∧ RowV w10 g2 zerT ∧ RowV w10 g1 us ∧ RowV w10 g4 cs ∧ w8.heap.size ≤ g4 from ⟨below_on H8.out.1 hb, H8.out.2.1.on hb, H8.out.2.2.1.on hb, hr, by rw [H9.out.1.1]; exact Nat.le_refl _⟩); have c10 := ((H8.out.2.2.1.on hb).cell 2).trans HU.out.1; clear hw hr hb)
        | ((with_reducible refine at_load_ (d := 28) ?_); go_must (refine wpList_load_mid rfl 53 (.tmp 27) rfl kb (ko + 3) rfl n2 _ (HK.out.2.1 _ H10.out.1) Try.underlying53 rfl HL.out.2.1 ?_))
        | ((with_reducible refine at_alloc_ (d := 6) ?_); refine wpList_alloc_v (op := ⟨some 6, _, _, _, _, _⟩) rfl 53 rfl zerN info_n ?_; intro g6 w11 hf hr; have H11 := Lib.hid (show _ ∧ _ from ⟨hf, hr⟩); clear hf hr)
        | ((with_reducible refine at_store_ (i := 6) ?_); go_must (refine wpList_store_v rfl 53 (.tmp 6) (.tmp 28) rfl g6 zerN n2 rfl rfl H11.out.2 HL.out.2.2.2.2.1 HL.out.2.2.1 (by rw [HL.out.2.2.2.2.1]; exact size_n) ?_); intro w12 hw hr; have hb := H11.out.1.wr_bl hw; have H12 := Lib.hid (show Below w.heap.size w w12 ∧ RowV w12 g2 zerT ∧ RowV w12 g4 cs ∧ RowV w12 g6 n2 ∧ g4 < g6 from ⟨below_on H10.out.1 hb, H10.out.2.1.on hb, H10.out.2.2.2.1.on hb, hr, by have := H10.out.2.2.2.1.lt; have := H11.out.1.1; omega⟩); clear hw hr hb)
        | ((with_reducible refine at_load_ (d := 32) ?_); go_must (refine wpList_load_vg (by rfl) 53 (.tmp 6) rfl g6 rfl n2 _ H12.out.2.2.2.1 Try.underlying53 rfl (by rw [HL.out.2.2.2.2.1]; exact size_n) ?_))
        | (go_at_call 45; ((with_reducible refine (HK.out.2.2.2 _).mono ?_); rintro e w13 ⟨rfl, hb⟩); have H13 := Lib.hid (show Below w.heap.size w w13 ∧ RowV w13 g2 zerT ∧ RowV w13 g4 cs ∧ RowV w13 g6 n2 from ⟨below_on H12.out.1 hb, H12.out.2.1.on hb, H12.out.2.2.1.on hb, H12.out.2.2.2.1.on hb⟩); have c13 := ((H12.out.2.2.2.1.on hb).cell 1).trans HL.out.2.2.2.1; clear hb)
        | ((with_reducible refine at_store_ (i := 2) ?_); go_must (refine wpList_store_v rfl 27 (.tmp 2) (.tmp 36) rfl g2 zerT zerT rfl rfl H13.out.2.1 rfl (cs_one default none 0) size_t ?_); intro w14 hw hr; have H14 := Lib.hid (show _ ∧ _ from ⟨Wr.bl H13.out.1 hw H2.out.2.2.2, hr⟩); clear hw hr))
      refine bodyPost_ret (results_v1 rfl _ _ g2 zerT _ rfl H14.out.2 Try.underlying27 rfl size_t) rfl ?_
      exact TmpIs.bad HD.out H14.out.1
    · have HD := Lib.hid (show R = some (tmOf L vd) from by rw [← hR]; rfl)
      clear hR
      go_enter Try.func47, Try.ntmps47
      go_wp2_with (first
        | ((with_reducible refine at_box_ (d := 1) ?_); refine wpList_box_v (op := ⟨some 1, _, _, _, _, _⟩) rfl 53 _ rfl us rfl ?_; intro g1 w1 hf hr; have H1 := Lib.hid (show _ ∧ _ from ⟨hf.bl HB.out, hr⟩); clear hf hr)
        | ((with_reducible refine at_alloc_ (d := 2) ?_); refine wpList_alloc_v (op := ⟨some 2, _, _, _, _, _⟩) rfl 27 rfl zerT info_t ?_; intro g2 w2 hf hr; have H2 := Lib.hid (show _ ∧ _ ∧ _ ∧ _ from ⟨hf.bl H1.out.1, H1.out.2.fresh hf, hr, hf.ge H1.out.1⟩); clear hf hr)
        | ((with_reducible refine at_load_ (d := 7) ?_); refine wpList_load_v rfl 53 (.tmp 1) rfl g1 rfl us _ H2.out.2.1 Try.underlying53 rfl HU.out.2 ?_)
        | (go_at_call 45; ((with_reducible refine (HF.out _).mono ?_); rintro e w6 ⟨rfl, hb⟩); have H6 := Lib.hid (show _ ∧ _ ∧ _ from ⟨below_on H2.out.1 hb, H2.out.2.2.1.on hb, H2.out.2.1.on hb⟩); have c2 := ((H2.out.2.1.on hb).cell 2).trans HU.out.1; clear hb)
        | ((with_reducible refine at_load_ (d := 21) ?_); go_must (refine wpList_load_mid rfl 53 (.tmp 20) rfl kb ko rfl n1 _ (HK.out.1 _ H6.out.1) Try.underlying53 rfl HL.out.1 ?_))
        | (go_at_call 54; ((with_reducible refine (HK.out.2.2.1 _ H6.out.1).mono ?_); rintro e w8 ⟨cs, hc7, hc1, rfl, hcl, hb⟩); have H8 := Lib.hid (show _ ∧ _ ∧ _ ∧ _ ∧ _ ∧ _ from ⟨below_on H6.out.1 hb, H6.out.2.1.on hb, H6.out.2.2.on hb, hc7, hc1, hcl⟩); have c8 := ((H6.out.2.2.on hb).cell 2).trans HU.out.1; clear hb hc7 hc1 hcl)
        | ((with_reducible refine at_alloc_ (d := 4) ?_); refine wpList_alloc_v (op := ⟨some 4, _, _, _, _, _⟩) rfl 27 rfl zerT info_t ?_; intro g4 w9 hf hr; have H9 := Lib.hid (show _ ∧ _ from ⟨hf, hr⟩); clear hf hr)
        | ((with_reducible refine at_store_ (i := 4) ?_); go_must (refine wpList_store_v rfl 27 (.tmp 4) (.tmp 23) rfl g4 zerT cs rfl rfl H9.out.2 H8.out.2.2.2.1 H8.out.2.2.2.2.1 (by rw [H8.out.2.2.2.1]; exact size_t) ?_); intro w10 hw hr; have hb := H9.out.1.wr_bl hw; have H10 := Lib.hid (show Below w.heap.size w w10 ∧ RowV w10 g2 zerT ∧ RowV w10 g1 us ∧ RowV w10 g4 cs ∧ w8.heap.size ≤ g4 from ⟨below_on H8.out.1 hb, H8.out.2.1.on hb, H8.out.2.2.1.on hb, hr, by rw [H9.out.1.1]; exact Nat.le_refl _⟩); have c10 := ((H8.out.2.2.1.on hb).cell 2).trans HU.out.1; clear hw hr hb)
        | ((with_reducible refine at_load_ (d := 28) ?_); go_must (refine wpList_load_mid rfl 53 (.tmp 27) rfl kb (ko + 3) rfl n2 _ (HK.out.2.1 _ H10.out.1) Try.underlying53 rfl HL.out.2.1 ?_))
        | ((with_reducible refine at_alloc_ (d := 6) ?_); refine wpList_alloc_v (op := ⟨some 6, _, _, _, _, _⟩) rfl 53 rfl zerN info_n ?_; intro g6 w11 hf hr; have H11 := Lib.hid (show _ ∧ _ from ⟨hf, hr⟩); clear hf hr)
        | ((with_reducible refine at_store_ (i := 6) ?_); go_must (refine wpList_store_v rfl 53 (.tmp 6) (.tmp 28) rfl g6 zerN n2 rfl rfl H11.out.2 HL.out.2.2.2.2.1 HL.out.2.2.1 (by rw [HL.out.2.2.2.2.1]; exact size_n) ?_); intro w12 hw hr; have hb := H11.out.1.wr_bl hw; have H12 := Lib.hid (show Below w.heap.size w w12 ∧ RowV w12 g2 zerT ∧ RowV w12 g4 cs ∧ RowV w12 g6 n2 ∧ g4 < g6 from ⟨below_on H10.out.1 hb, H10.out.2.1.on hb, H10.out.2.2.2.1.on hb, hr, by have := H10.out.2.2.2.1.lt; have := H11.out.1.1; omega⟩); clear hw hr hb)
        | ((with_reducible refine at_load_ (d := 32) ?_); go_must (refine wpList_load_vg (by rfl) 53 (.tmp 6) rfl g6 rfl n2 _ H12.out.2.2.2.1 Try.underlying53 rfl (by rw [HL.out.2.2.2.2.1]; exact size_n) ?_))
        | (go_at_call 45; ((with_reducible refine (HK.out.2.2.2 _).mono ?_); rintro e w13 ⟨rfl, hb⟩); have H13 := Lib.hid (show Below w.heap.size w w13 ∧ RowV w13 g2 zerT ∧ RowV w13 g4 cs ∧ RowV w13 g6 n2 from ⟨below_on H12.out.1 hb, H12.out.2.1.on hb, H12.out.2.2.1.on hb, H12.out.2.2.2.1.on hb⟩); have c13 := ((H12.out.2.2.2.1.on hb).cell 1).trans HL.out.2.2.2.1; clear hb)
        | (go_at_call 51; ((with_reducible refine (HC.out _ H13.out.1).mono ?_); rintro e w14 ⟨A9, c9, rfl, h0, hsd, hb⟩); have H14 := Lib.hid (show Below w.heap.size w w14 ∧ RowV w14 g2 zerT ∧ RowV w14 g4 cs from ⟨below_on H13.out.1 hb, H13.out.2.1.on hb, H13.out.2.2.1.on hb⟩); have HA := Lib.hid (show _ ∧ SeesP w14 (newB w13 w14) A9 (Us vd) from ⟨h0, hsd⟩); clear hb h0 hsd)
        | ((with_reducible refine at_store_ (i := 40) ?_); go_must (refine wpList_store_at rfl 25 (.tmp 40) (.tmp 39) rfl g4 6 cs (.slice A9 nd c9) rfl rfl H14.out.2.2 (by rw [H8.out.2.2.2.1]; decide) rfl rfl size_sl ?_); intro w15 hw hr; have H15 := Lib.hid (show _ ∧ _ from ⟨hw, hr⟩); have HD4 := Lib.hid (show g2 ≠ g4 ∧ w.heap.size ≤ g4 from ⟨by have := H8.out.2.1.lt; have := H10.out.2.2.2.2; omega, Nat.le_trans H8.out.1.size H10.out.2.2.2.2⟩); clear hw hr)
        | ((with_reducible refine at_load_ (d := 41) ?_); go_must (refine wpList_load_v rfl 27 (.tmp 4) rfl g4 rfl (cs.set 6 (.slice A9 nd c9)) _ H15.out.2 Try.underlying27 rfl (by rw [List.length_set, H8.out.2.2.2.1]; exact size_t) ?_))
        | ((with_reducible refine at_store_ (i := 2) ?_); go_must (refine wpList_store_v rfl 27 (.tmp 2) (.tmp 41) rfl g2 zerT (cs.set 6 (.slice A9 nd c9)) rfl rfl (H14.out.2.1.wr H15.out.1 HD4.out.1) (by rw [List.length_set, H8.out.2.2.2.1]; rfl) (set_one H8.out.2.2.2.2.1 rfl) (by rw [List.length_set, H8.out.2.2.2.1]; exact size_t) ?_); intro w16 hw hr; have H16 := Lib.hid (show _ ∧ _ from ⟨hw, hr⟩); clear hw hr))
      have HB16 : Hid (Below w.heap.size w w16 ∧ SeesP w16 (newB w w16) A9 (Us vd)) := Lib.hid (by
        have b15 := Wr.bl H14.out.1 H15.out.1 HD4.out.2
        have b16 := Wr.bl b15 H16.out.1 H2.out.2.2.2
        refine ⟨b16, ?_⟩
        have hlt4 := H13.out.2.2.1.lt
        have hlt2 := H13.out.2.1.lt
        have e16 : w16.heap.size = w14.heap.size := H16.out.1.2.2.2.1.trans H15.out.1.2.2.2.1
        exact (HA.out.2.keep fun q hq => (World.cell?_of_block (H16.out.1.2.2.2.2 _ (by have := hq.1; omega))).trans (World.cell?_of_block (H15.out.1.2.2.2.2 _ (by have := hq.1; omega)))).imp fun b hb => ⟨Nat.le_trans H13.out.1.size hb.1, by rw [e16]; exact hb.2⟩)
      refine bodyPost_ret (results_v1 rfl _ _ g2 (cs.set 6 (.slice A9 nd c9)) _ rfl H16.out.2 Try.underlying27 rfl (by rw [List.length_set, H8.out.2.2.2.1]; exact size_t)) rfl ?_
      have hcs := H8.out.2.2.2.2.2 L rfl
      refine ⟨cs.set 6 (.slice A9 nd c9), by rw [List.length_set, H8.out.2.2.2.1], set_one H8.out.2.2.2.2.1 rfl, by rw [HD.out]; rfl, fun x hx => ?_, HB16.out.1⟩
      rw [HD.out] at hx
      injection hx with hx
      subst hx
      refine ⟨A9, c9, by rw [hcs]; exact hdrC_cs L vd A9 c9 nd HL.out.2.2.2.2.2, ⟨HA.out.1.1, ?_⟩, HB16.out.2⟩
      show vd.length ≤ c9
      rw [HL.out.2.2.2.2.2]; exact HA.out.1.2
  · have d6 : ((lk : Int) != 2) = true := by simp; omega
    have HD := Lib.hid (tmT_two (t := t) (v := v) (k := k) (.inr (by rw [hlk]; exact hl2)))
    clear hus hF hf hs hn hlk hft hok hl2
    go_enter Try.func47, Try.ntmps47
    go_wp2_with (first
      | ((with_reducible refine at_box_ (d := 1) ?_); refine wpList_box_v (op := ⟨some 1, _, _, _, _, _⟩) rfl 53 _ rfl us rfl ?_; intro g1 w1 hf hr; have H1 := Lib.hid (show _ ∧ _ from ⟨hf.bl HB.out, hr⟩); clear hf hr)
      | ((with_reducible refine at_alloc_ (d := 2) ?_); refine wpList_alloc_v (op := ⟨some 2, _, _, _, _, _⟩) rfl 27 rfl zerT info_t ?_; intro g2 w2 hf hr; have H2 := Lib.hid (show _ ∧ _ ∧ _ ∧ _ from ⟨hf.bl H1.out.1, H1.out.2.fresh hf, hr, hf.ge H1.out.1⟩); clear hf hr)
      | ((with_reducible refine at_load_ (d := 7) ?_); refine wpList_load_v rfl 53 (.tmp 1) rfl g1 rfl us _ H2.out.2.1 Try.underlying53 rfl HU.out.2 ?_)
      | (go_at_call 45; ((with_reducible refine (HF.out _).mono ?_); rintro e w6 ⟨rfl, hb⟩); have H6 := Lib.hid (show _ ∧ _ from ⟨below_on H2.out.1 hb, H2.out.2.2.1.on hb⟩); have c2 := ((H2.out.2.1.on hb).cell 2).trans HU.out.1; clear hb)
      | ((with_reducible refine at_store_ (i := 2) ?_); go_must (refine wpList_store_v rfl 27 (.tmp 2) (.tmp 16) rfl g2 zerT zerT rfl rfl H6.out.2 rfl (cs_one default none 0) size_t ?_); intro w7 hw hr; have H7 := Lib.hid (show _ ∧ _ from ⟨Wr.bl H6.out.1 hw H2.out.2.2.2, hr⟩); clear hw hr))
    refine bodyPost_ret (results_v1 rfl _ _ g2 zerT _ rfl H7.out.2 Try.underlying27 rfl size_t) rfl ?_
    exact TmpIs.bad HD.out H7.out.1
end Go.Proofs.Ytobbnedojmcgoaa
