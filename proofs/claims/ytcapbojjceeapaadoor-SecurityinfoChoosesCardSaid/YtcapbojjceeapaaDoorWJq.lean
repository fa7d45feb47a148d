/-
  What is proved here: an info read out of its object, by the program.
-/
import Derived.Test.YtcapbojjceeapaaDoorWJp
import Derived.Test.YtcapbojjceeapaaDoorWG11
namespace Go.Proofs.YtcapbojjceeapaaDoor
open Go.RowKit
set_option maxRecDepth 8000
set_option linter.unusedVariables false
set_option linter.unusedSimpArgs false
theorem sl_tail (b o lk ck : Nat) (h1 : 1 ≤ lk) (hc : lk ≤ ck) : ∃ A5, (∀ w, (Instr.sliceAt 52 (.slice (some ⟨b, o, none⟩) lk ck) (some (.int .i64 1)) none none).run Tryd.prog w = .ok (.slice A5 (lk - 1) (ck - 1)) w) ∧ (A5 = some ⟨b, o + 3, none⟩ ∨ ck = 1) := by
  have h2 : ¬ ((lk : Int) < 1) := by omega
  have h3 : ¬ ((ck : Int) < (lk : Int)) := by omega
  have h4 : (1 : Int) ≤ (lk : Int) := by omega
  by_cases h : ck = 1
  · subst h
    obtain rfl : lk = 1 := by omega
    exact ⟨some ⟨b, o, none⟩, fun w => by kernel_rfl, .inr rfl⟩
  · refine ⟨some ⟨b, o + 3, none⟩, fun w => ?_, .inl rfl⟩
    simp [go_sem, Addr.add, h4, h]
theorem numsI_ok {p : Int} {t : Int} {s c : Nat} (h : (t, s, c) ∈ numsI p) : s ≤ 7 ∧ 1 ≤ c ∧ c < 5 := by
  unfold numsI at h
  rcases List.mem_cons.1 h with h | h
  · simp at h; omega
  · split at h
    · simp at h; omega
    · split at h
      · simp at h; omega
      · cases h
def InfIs (o : Option Im) (w : World) (e : Ending) (w' : World) : Prop := ∃ z : Im, e = .returned (.tuple #[.agg z.cs.toArray, .bool o.isSome]) ∧ (∀ y, o = some y → z = y) ∧ Below w.heap.size w w'
theorem row_eq {w : World} {g : Nat} {a b : List Value} (h : RowV w g b) (e : a = b) : RowV w g a := by rw [e]; exact h
theorem infT_no {t : Int} {k : F} (h : t ≠ 48 ∨ k.len = 0) : infT t k = none := by
  match k with
  | .nil => rfl
  | .cons t0 v0 k0 r =>
    rcases h with h | h
    · show (if t = 48 ∧ t0 = 6 then _ else none) = none
      rw [if_neg fun h2 => h h2.1]
    · simp [F.len] at h
theorem infT_cons {t t0 : Int} {v0 : List UInt8} {k0 r : F} (h : t = 48) : infT t (.cons t0 v0 k0 r) = if t0 = 6 then (idT v0).bind fun p => numT ⟨p, 0, 0, 0, 0⟩ (numsI p) r else none := by
  subst h
  by_cases h6 : t0 = 6
  · subst h6
    cases h : idT v0 <;> simp [infT, h]
  · simp [infT, h6]
set_option maxHeartbeats 6400000 in
set_option maxRecDepth 20000 in
theorem p_open_info (t : Int) (Av : Option Addr) (lv cv : Nat) (k : F) (lk : Nat) (hlk : k.len = lk) (hlm : lk ≤ 140737488351232) (Ak : Option Addr) (ck : Nat) (hck : lk ≤ ck) (w : World) (hk : SeesN w (· < w.heap.size) Ak k) (ht : TabX w) :
    Calls Tryd.prog 55 #[.agg (nodV t Av lv cv Ak lk ck).toArray] w (InfIs (infT t k) w) := by
  obtain ⟨ns, hns⟩ : ∃ ns, nodV t Av lv cv Ak lk ck = ns := ⟨_, rfl⟩
  have HT := Lib.hid (show ns.length = 3 ∧ ns[0]? = some (.int .i64 t) ∧ ns[2]? = some (.slice Ak lk ck) from by rw [← hns]; exact ⟨rfl, rfl, rfl⟩)
  rw [hns]
  have HB := Lib.hid (Below.refl w.heap.size w)
  have HTX := Lib.hid ht
  clear hns ht
  by_cases h48 : t = 48
  case neg =>
    have d1 : (t != 48) = true := by simpa using h48
    have HN := Lib.hid (show infT t k = none from infT_no (.inl h48))
    clear h48 hk hlk
    go_enter Tryd.func55, Tryd.ntmps55
    go_wp2_with (first
      | ((with_reducible refine at_box_ (d := 1) ?_); refine wpList_box_v (op := ⟨some 1, _, _, _, _, _⟩) rfl 54 _ rfl ns rfl ?_; intro g1 w1 hf hr; have H1 := Lib.hid (show _ ∧ _ ∧ _ from ⟨hf.bl HB.out, hr, hf.ge HB.out⟩); clear hf hr)
      | ((with_reducible refine at_alloc_ (d := 2) ?_); refine wpList_alloc_v (op := ⟨some 2, _, _, _, _, _⟩) rfl 44 rfl zerX info_x ?_; intro g2 w2 hf hr; have H2 := Lib.hid (show Below w.heap.size w w2 ∧ RowV w2 g1 ns ∧ RowV w2 g2 zerX ∧ w.heap.size ≤ g2 from ⟨hf.bl H1.out.1, H1.out.2.1.fresh hf, hr, hf.ge H1.out.1⟩); have q0 := ((H1.out.2.1.fresh hf).cell 0).trans HT.out.2.1; have q2 := ((H1.out.2.1.fresh hf).cell 2).trans HT.out.2.2; clear hf hr)
      | ((with_reducible refine at_store_ (i := 2) ?_); refine wpList_store_v rfl 44 (.tmp 2) (.tmp 18) rfl g2 zerX zerI.cs rfl rfl H2.out.2.2.1 rfl (Im.cs_one _) size_x ?_; intro w3 hw hr; have H3 := Lib.hid (show _ ∧ _ from ⟨Wr.bl H2.out.1 hw H2.out.2.2.2, hr⟩); clear hw hr))
    exact bodyPost_ret (results_v1 rfl _ _ g2 zerI.cs _ rfl H3.out.2 Tryd.underlying44 rfl size_x) rfl ⟨zerI, by rw [HN.out]; rfl, fun y h => (by rw [HN.out] at h; cases h), H3.out.1⟩
  case pos =>
  have d1 : (t != 48) = false := by simpa using h48
  by_cases h0 : lk = 0
  · have HN := Lib.hid (show infT t k = none from infT_no (.inr (by rw [hlk]; exact h0)))
    subst h0
    clear h48 hk hlk
    go_enter Tryd.func55, Tryd.ntmps55
    go_wp2_with (first
      | ((with_reducible refine at_box_ (d := 1) ?_); refine wpList_box_v (op := ⟨some 1, _, _, _, _, _⟩) rfl 54 _ rfl ns rfl ?_; intro g1 w1 hf hr; have H1 := Lib.hid (show _ ∧ _ ∧ _ from ⟨hf.bl HB.out, hr, hf.ge HB.out⟩); clear hf hr)
      | ((with_reducible refine at_alloc_ (d := 2) ?_); refine wpList_alloc_v (op := ⟨some 2, _, _, _, _, _⟩) rfl 44 rfl zerX info_x ?_; intro g2 w2 hf hr; have H2 := Lib.hid (show Below w.heap.size w w2 ∧ RowV w2 g1 ns ∧ RowV w2 g2 zerX ∧ w.heap.size ≤ g2 from ⟨hf.bl H1.out.1, H1.out.2.1.fresh hf, hr, hf.ge H1.out.1⟩); have q0 := ((H1.out.2.1.fresh hf).cell 0).trans HT.out.2.1; have q2 := ((H1.out.2.1.fresh hf).cell 2).trans HT.out.2.2; clear hf hr)
      | ((with_reducible refine at_store_ (i := 2) ?_); refine wpList_store_v rfl 44 (.tmp 2) (.tmp 18) rfl g2 zerX zerI.cs rfl rfl H2.out.2.2.1 rfl (Im.cs_one _) size_x ?_; intro w3 hw hr; have H3 := Lib.hid (show _ ∧ _ from ⟨Wr.bl H2.out.1 hw H2.out.2.2.2, hr⟩); clear hw hr))
    exact bodyPost_ret (results_v1 rfl _ _ g2 zerI.cs _ rfl H3.out.2 Tryd.underlying44 rfl size_x) rfl ⟨zerI, by rw [HN.out]; rfl, fun y h => (by rw [HN.out] at h; cases h), H3.out.1⟩
  have d2 : ((lk : Int) == 0) = false := by simp; omega
  obtain ⟨t0, v0, k0, r, rfl⟩ : ∃ t0 v0 k0 r, k = .cons t0 v0 k0 r := by
    match k with
    | .nil => exact absurd hlk.symm h0
    | .cons a b c d => exact ⟨a, b, c, d, rfl⟩
  obtain ⟨kb, ko, A0, c0', B0, d0, rfl, hkb, hkr, _, _, _, hs0, _⟩ := node_atN (j := 0) hk rfl
  rw [Nat.zero_mul, Nat.add_zero] at hkr
  have htail := hk.tail
  obtain ⟨m, hm⟩ : ∃ m, r.len = m := ⟨_, rfl⟩
  have hlm2 : lk = m + 1 := by rw [← hlk, ← hm]; rfl
  obtain ⟨A5, hsl, hA5⟩ := sl_tail kb ko lk ck (by omega) hck
  obtain ⟨n0, hn0⟩ : ∃ n, v0.length = n := ⟨_, rfl⟩
  obtain ⟨us, hus⟩ : ∃ us, nodV t0 A0 v0.length c0' B0 k0.len d0 = us := ⟨_, rfl⟩
  have hu1 : ∀ u ∈ us, u.oneCell' = true := by rw [← hus]; exact nodV_one _ _ _ _ _ _ _
  have HU := Lib.hid (show us.length = 3 ∧ (∀ u ∈ us, u.oneCell' = true) ∧ us[0]? = some (.int .i64 t0) ∧ us[1]? = some (.slice A0 n0 c0') from ⟨by rw [← hus]; rfl, hu1, by rw [← hus]; rfl, by rw [← hus, ← hn0]; rfl⟩)
  rw [hus] at hkr
  have HK := Lib.hid (show 0 < lk ∧ (∀ cur, Below w.heap.size w cur → cur.rangeAt kb ko us) ∧ (∀ cur, Below w.heap.size w cur → SeesP cur (· < cur.heap.size) A0 (Us v0)) ∧ v0.length = n0 from ⟨by omega, fun cur h => rangeAt_on hkr hkb h, fun cur h => SeesP.on2 hs0 h, hn0⟩)
  have hrest : SeesN w (· < w.heap.size) A5 r := by
    rcases hA5 with h | h
    · rw [h]; exact htail
    · have : r = .nil := F.len_zero (by rw [hm]; omega)
      rw [this]; exact SeesN.nil_
  have HRS := Lib.hid (show SeesN w (· < w.heap.size) A5 r ∧ r.len = m from ⟨hrest, hm⟩)
  have HSL := Lib.hid hsl
  have hinf := infT_cons (k0 := k0) (v0 := v0) (t0 := t0) (r := r) h48
  have HPR := Lib.hid (fun c2 (h : Below w.heap.size w c2) => p_proto v0 n0 hn0 A0 c0' c2 (SeesP.on2 hs0 h) (HTX.out.on h))
  have em : lk - 1 = m := by omega
  rw [em] at HSL
  have HEM := Lib.hid em
  clear hkr hs0 htail hsl hA5 hus hu1 hrest hk hlk h0 hn0 hm h48 hkb hlm2
  rcases hid : idT v0 with _ | p
  · have HN := Lib.hid (show infT t (.cons t0 v0 k0 r) = none from by rw [hinf, hid]; split <;> rfl)
    have HID := Lib.hid hid
    clear hinf hid
    go_enter Tryd.func55, Tryd.ntmps55
    go_wp2_with (first
      | ((with_reducible refine at_box_ (d := 1) ?_); refine wpList_box_v (op := ⟨some 1, _, _, _, _, _⟩) rfl 54 _ rfl ns rfl ?_; intro g1 w1 hf hr; have H1 := Lib.hid (show _ ∧ _ ∧ _ from ⟨hf.bl HB.out, hr, hf.ge HB.out⟩); clear hf hr)
      | ((with_reducible refine at_alloc_ (d := 2) ?_); refine wpList_alloc_v (op := ⟨some 2, _, _, _, _, _⟩) rfl 44 rfl zerX info_x ?_; intro g2 w2 hf hr; have H2 := Lib.hid (show Below w.heap.size w w2 ∧ RowV w2 g1 ns ∧ RowV w2 g2 zerX ∧ w.heap.size ≤ g2 from ⟨hf.bl H1.out.1, H1.out.2.1.fresh hf, hr, hf.ge H1.out.1⟩); have q0 := ((H1.out.2.1.fresh hf).cell 0).trans HT.out.2.1; have q2 := ((H1.out.2.1.fresh hf).cell 2).trans HT.out.2.2; clear hf hr)
      | ((with_reducible refine at_store_ (i := 2) ?_); refine wpList_store_v rfl 44 (.tmp 2) (.tmp 18) rfl g2 zerX zerI.cs rfl rfl H2.out.2.2.1 rfl (Im.cs_one _) size_x ?_; intro w3 hw hr; have H3 := Lib.hid (show _ ∧ _ from ⟨Wr.bl H2.out.1 hw H2.out.2.2.2, hr⟩); clear hw hr))
    refine region_vars (by kernel_rfl) _ [.pointer (some ⟨g1, 2, none⟩), .slice (some ⟨kb, ko, none⟩) lk ck, .pointer (some ⟨kb, ko, none⟩), .agg us.toArray, .pointer (some ⟨g1, 2, none⟩), .slice (some ⟨kb, ko, none⟩) lk ck, .slice A5 m (ck - 1), undef, undef, .slice A5 m (ck - 1)] [7] [⟨7, 8, zerN, us⟩] (by kernel_rfl) ?_ ?_
    · refine ops_all (allI.cons ?_ (allI.cons ?_ (allI.cons ?_ (allI.cons ?_ (allI.cons ?_ (allI.cons ?_ (allI.cons ?_ (allI.cons ?_ (allI.cons ?_ (allI.cons ?_ allI.nil)))))))))) <;> intro b S c2 a hW hSi hdep hS hC
      · exact o_fa _ (.tmp 1) 2 rfl (hS.old 1 rfl) (fa_d2 g1 _) (.inl ⟨rfl, hW.keep rfl⟩)
      · exact o_ld _ (.tmp 19) rfl (hS.get 0 (dep_at hdep 0 rfl) rfl rfl) (((H2.out.2.1.on hW.1).cell 2).trans HT.out.2.2) ag_n (.inl ⟨rfl, hW.keep rfl⟩)
      · exact o_ix _ (.tmp 20) (.const (.int .i64 0)) rfl (hS.get 1 (dep_at hdep 1 rfl) rfl rfl) rfl (ix_nod0 kb ko lk ck HK.out.1 _) (.inl ⟨rfl, hW.keep rfl⟩)
      · exact wp_load_mid 54 (.tmp 21) rfl kb ko (hS.get 2 (dep_at hdep 2 rfl) rfl rfl) us _ (HK.out.2.1 _ (below_on H2.out.1 hW.1)) Tryd.underlying54 rfl (by rw [HU.out.1]; exact size_n) (.inl ⟨rfl, hW.keep rfl⟩)
      · exact o_fa _ (.tmp 1) 2 rfl (hS.old 1 rfl) (fa_d2 g1 _) (.inl ⟨rfl, hW.keep rfl⟩)
      · exact o_ld _ (.tmp 23) rfl (hS.get 4 (dep_at hdep 4 rfl) rfl rfl) (((H2.out.2.1.on hW.1).cell 2).trans HT.out.2.2) ag_n (.inl ⟨rfl, hW.keep rfl⟩)
      · exact o_sl _ (.tmp 24) (some (.const (.int .i64 1))) none none rfl (hS.get 5 (dep_at hdep 5 rfl) rfl rfl) rfl rfl rfl (HSL.out _) (.inl ⟨rfl, hW.keep rfl⟩)
      · refine wp_alloc_v (op := ⟨some 4, _, _, _, _, _⟩) 54 rfl zerN info_n ?_
        intro g w' hf hr
        exact .inr ⟨g, rfl, rfl, hW.new rfl (s0 := ⟨7, 8, zerN, us⟩) (by simp) rfl (by
          rcases hq : S 8 with _ | _
          · rfl
          · have := dep_at (hC 8 _ rfl hq) 7 rfl
            rw [hSi] at this; cases this) hf hr (by simp)⟩
      · refine wp_store_v 54 (.tmp 4) (.tmp 22) rfl (b 7) zerN us (hS.get 7 (dep_at hdep 7 rfl) rfl rfl) (hS.get 3 (dep_at hdep 3 rfl) rfl rfl) (hW.row (s0 := ⟨7, 8, zerN, us⟩) (by simp) (dep_at hdep 7 rfl) hSi) (by rw [HU.out.1]; rfl) HU.out.2.1 (by rw [HU.out.1]; exact size_n) ?_
        intro w' hw hr
        exact .inl ⟨rfl, hW.fill rfl (s0 := ⟨7, 8, zerN, us⟩) (by simp) rfl (dep_at hdep 7 rfl) hw hr (by simp)⟩
      · exact o_as (.tmp 25) rfl (hS.get 6 (dep_at hdep 6 rfl) rfl rfl) (.inl ⟨rfl, hW.keep rfl⟩)
    · intro b c2 S hS hW
      have h7 := hW.2.1 ⟨7, 8, zerN, us⟩ (by simp) (hS 7 (by decide))
      rw [hS 8 (by decide)] at h7
      simp only [if_true] at h7
      obtain ⟨g4, hg4⟩ : ∃ q, b 7 = q := ⟨_, rfl⟩
      simp only [putAll, Act.put, varV]
      simp
      rw [hg4] at h7 ⊢
      have H4 := Lib.hid (show Below w.heap.size w c2 ∧ RowV c2 g4 us ∧ RowV c2 g2 zerX ∧ w.heap.size ≤ c2.heap.size from ⟨below_on H2.out.1 hW.1, h7.2, H2.out.2.2.1.on hW.1, (below_on H2.out.1 hW.1).size⟩)
      have c0 := (h7.2.cell 0).trans HU.out.2.2.1
      have c1 := (h7.2.cell 1).trans HU.out.2.2.2
      clear hS hW h7 hg4
      go_wp2_with (first
        | (go_at_call 82; ((with_reducible refine (HPR.out _ H4.out.1).mono ?_); rintro e w5 ⟨rfl, hb⟩); rw [HID.out]; have H5 := Lib.hid (show Below w.heap.size w w5 ∧ RowV w5 g4 us ∧ RowV w5 g2 zerX from ⟨below_on H4.out.1 hb, H4.out.2.1.on hb, H4.out.2.2.1.on hb⟩); have c0 := ((H4.out.2.1.on hb).cell 0).trans HU.out.2.2.1; clear hb)
        | ((with_reducible refine at_store_ (i := 2) ?_); refine wpList_store_v rfl 44 (.tmp 2) (.tmp 39) rfl g2 zerX zerI.cs rfl rfl H5.out.2.2 rfl (Im.cs_one _) size_x ?_; intro w6 hw hr; have H6 := Lib.hid (show _ ∧ _ from ⟨Wr.bl H5.out.1 hw H2.out.2.2.2, hr⟩); clear hw hr))
      exact bodyPost_ret (results_v1 rfl _ _ g2 zerI.cs _ rfl H6.out.2 Tryd.underlying44 rfl size_x) rfl ⟨zerI, by rw [HN.out]; rfl, fun y h => (by rw [HN.out] at h; cases h), H6.out.1⟩
  have hpb := idT_some hid
  by_cases h6 : t0 = 6
  · have d6 : (t0 != 6) = false := by simpa using h6
    obtain ⟨n, hn⟩ : ∃ n, (numsI p).length = n := ⟨_, rfl⟩
    have hn3 := (numsI_len p).2
    rw [hn] at hn3
    have HN := Lib.hid (show infT t (.cons t0 v0 k0 r) = numT ⟨p, 0, 0, 0, 0⟩ (numsI p) r from by rw [hinf, hid, if_pos h6]; rfl)
    have HID := Lib.hid hid
    obtain ⟨xs, hxs⟩ : ∃ xs, (⟨p, 0, 0, 0, 0⟩ : Im).cs = xs := ⟨_, rfl⟩
    have HX := Lib.hid (show xs.length = 5 ∧ (∀ u ∈ xs, u.oneCell' = true) ∧ xs[0]? = some (.int .i64 p) ∧ (⟨p, 0, 0, 0, 0⟩ : Im).cs = xs from ⟨by rw [← hxs]; rfl, by rw [← hxs]; exact Im.cs_one _, by rw [← hxs]; rfl, hxs⟩)
    have HNM := Lib.hid (show _ ∧ _ ∧ _ from ⟨hpb.2.1, hpb.2.2, hn⟩)
    have HOP := Lib.hid (fun (b : Nat) (w0 : World) (hb : RowV w0 b (⟨p, 0, 0, 0, 0⟩ : Im).cs) (An : Option Addr) (cn : Nat) (ho : SeesN w0 (fun k => k < w0.heap.size ∧ k ≠ b) A5 r) (ha : SeesP w0 (fun k => k < w0.heap.size ∧ k ≠ b) An (Ncs b (numsI p))) => p_open_nums ⟨p, 0, 0, 0, 0⟩ (numsI p) n hn hn3 (fun t s c h => numsI_ok h) r m HRS.out.2 (by omega) b w0 hb A5 An (ck - 1) cn ho ha)
    obtain ⟨o, hoo⟩ : ∃ o, numT ⟨p, 0, 0, 0, 0⟩ (numsI p) r = o := ⟨_, rfl⟩
    unfold OpnIs at HOP
    rw [hoo] at HN HOP
    clear hinf hid h6 hpb hn hxs hoo
    rcases o with _ | y
    all_goals
      go_enter Tryd.func55, Tryd.ntmps55
      go_wp2_with (first
      | ((with_reducible refine at_box_ (d := 1) ?_); refine wpList_box_v (op := ⟨some 1, _, _, _, _, _⟩) rfl 54 _ rfl ns rfl ?_; intro g1 w1 hf hr; have H1 := Lib.hid (show _ ∧ _ ∧ _ from ⟨hf.bl HB.out, hr, hf.ge HB.out⟩); clear hf hr)
      | ((with_reducible refine at_alloc_ (d := 2) ?_); refine wpList_alloc_v (op := ⟨some 2, _, _, _, _, _⟩) rfl 44 rfl zerX info_x ?_; intro g2 w2 hf hr; have H2 := Lib.hid (show Below w.heap.size w w2 ∧ RowV w2 g1 ns ∧ RowV w2 g2 zerX ∧ w.heap.size ≤ g2 from ⟨hf.bl H1.out.1, H1.out.2.1.fresh hf, hr, hf.ge H1.out.1⟩); have q0 := ((H1.out.2.1.fresh hf).cell 0).trans HT.out.2.1; have q2 := ((H1.out.2.1.fresh hf).cell 2).trans HT.out.2.2; clear hf hr)
      | ((with_reducible refine at_store_ (i := 2) ?_); refine wpList_store_v rfl 44 (.tmp 2) (.tmp 18) rfl g2 zerX zerI.cs rfl rfl H2.out.2.2.1 rfl (Im.cs_one _) size_x ?_; intro w3 hw hr; have H3 := Lib.hid (show _ ∧ _ from ⟨Wr.bl H2.out.1 hw H2.out.2.2.2, hr⟩); clear hw hr))
      refine region_vars (by kernel_rfl) _ [.pointer (some ⟨g1, 2, none⟩), .slice (some ⟨kb, ko, none⟩) lk ck, .pointer (some ⟨kb, ko, none⟩), .agg us.toArray, .pointer (some ⟨g1, 2, none⟩), .slice (some ⟨kb, ko, none⟩) lk ck, .slice A5 m (ck - 1), undef, undef, .slice A5 m (ck - 1)] [7] [⟨7, 8, zerN, us⟩] (by kernel_rfl) ?_ ?_
      · refine ops_all (allI.cons ?_ (allI.cons ?_ (allI.cons ?_ (allI.cons ?_ (allI.cons ?_ (allI.cons ?_ (allI.cons ?_ (allI.cons ?_ (allI.cons ?_ (allI.cons ?_ allI.nil)))))))))) <;> intro b S c2 a hW hSi hdep hS hC
        · exact o_fa _ (.tmp 1) 2 rfl (hS.old 1 rfl) (fa_d2 g1 _) (.inl ⟨rfl, hW.keep rfl⟩)
        · exact o_ld _ (.tmp 19) rfl (hS.get 0 (dep_at hdep 0 rfl) rfl rfl) (((H2.out.2.1.on hW.1).cell 2).trans HT.out.2.2) ag_n (.inl ⟨rfl, hW.keep rfl⟩)
        · exact o_ix _ (.tmp 20) (.const (.int .i64 0)) rfl (hS.get 1 (dep_at hdep 1 rfl) rfl rfl) rfl (ix_nod0 kb ko lk ck HK.out.1 _) (.inl ⟨rfl, hW.keep rfl⟩)
        · exact wp_load_mid 54 (.tmp 21) rfl kb ko (hS.get 2 (dep_at hdep 2 rfl) rfl rfl) us _ (HK.out.2.1 _ (below_on H2.out.1 hW.1)) Tryd.underlying54 rfl (by rw [HU.out.1]; exact size_n) (.inl ⟨rfl, hW.keep rfl⟩)
        · exact o_fa _ (.tmp 1) 2 rfl (hS.old 1 rfl) (fa_d2 g1 _) (.inl ⟨rfl, hW.keep rfl⟩)
        · exact o_ld _ (.tmp 23) rfl (hS.get 4 (dep_at hdep 4 rfl) rfl rfl) (((H2.out.2.1.on hW.1).cell 2).trans HT.out.2.2) ag_n (.inl ⟨rfl, hW.keep rfl⟩)
        · exact o_sl _ (.tmp 24) (some (.const (.int .i64 1))) none none rfl (hS.get 5 (dep_at hdep 5 rfl) rfl rfl) rfl rfl rfl (HSL.out _) (.inl ⟨rfl, hW.keep rfl⟩)
        · refine wp_alloc_v (op := ⟨some 4, _, _, _, _, _⟩) 54 rfl zerN info_n ?_
          intro g w' hf hr
          exact .inr ⟨g, rfl, rfl, hW.new rfl (s0 := ⟨7, 8, zerN, us⟩) (by simp) rfl (by
            rcases hq : S 8 with _ | _
            · rfl
            · have := dep_at (hC 8 _ rfl hq) 7 rfl
              rw [hSi] at this; cases this) hf hr (by simp)⟩
        · refine wp_store_v 54 (.tmp 4) (.tmp 22) rfl (b 7) zerN us (hS.get 7 (dep_at hdep 7 rfl) rfl rfl) (hS.get 3 (dep_at hdep 3 rfl) rfl rfl) (hW.row (s0 := ⟨7, 8, zerN, us⟩) (by simp) (dep_at hdep 7 rfl) hSi) (by rw [HU.out.1]; rfl) HU.out.2.1 (by rw [HU.out.1]; exact size_n) ?_
          intro w' hw hr
          exact .inl ⟨rfl, hW.fill rfl (s0 := ⟨7, 8, zerN, us⟩) (by simp) rfl (dep_at hdep 7 rfl) hw hr (by simp)⟩
        · exact o_as (.tmp 25) rfl (hS.get 6 (dep_at hdep 6 rfl) rfl rfl) (.inl ⟨rfl, hW.keep rfl⟩)
      · intro b c2 S hS hW
        have h7 := hW.2.1 ⟨7, 8, zerN, us⟩ (by simp) (hS 7 (by decide))
        rw [hS 8 (by decide)] at h7
        simp only [if_true] at h7
        obtain ⟨g4, hg4⟩ : ∃ q, b 7 = q := ⟨_, rfl⟩
        simp only [putAll, Act.put, varV]
        simp
        rw [hg4] at h7 ⊢
        have H4 := Lib.hid (show Below w.heap.size w c2 ∧ RowV c2 g4 us ∧ RowV c2 g2 zerX ∧ w.heap.size ≤ c2.heap.size from ⟨below_on H2.out.1 hW.1, h7.2, H2.out.2.2.1.on hW.1, (below_on H2.out.1 hW.1).size⟩)
        have c0 := (h7.2.cell 0).trans HU.out.2.2.1
        have c1 := (h7.2.cell 1).trans HU.out.2.2.2
        clear hS hW h7 hg4
        go_wp2_with (first
          | (go_at_call 82; ((with_reducible refine (HPR.out _ H4.out.1).mono ?_); rintro e w5 ⟨rfl, hb⟩); rw [HID.out]; have H5 := Lib.hid (show Below w.heap.size w w5 ∧ RowV w5 g4 us ∧ RowV w5 g2 zerX from ⟨below_on H4.out.1 hb, H4.out.2.1.on hb, H4.out.2.2.1.on hb⟩); have c0 := ((H4.out.2.1.on hb).cell 0).trans HU.out.2.2.1; clear hb)
          | ((with_reducible refine at_alloc_ (d := 8) ?_); refine wpList_alloc_v (op := ⟨some 8, _, _, _, _, _⟩) rfl 44 rfl zerX info_x ?_; intro g8 w8 hf hr; have H8 := Lib.hid (show Below w.heap.size w w8 ∧ RowV w8 g8 zerX ∧ w5.heap.size ≤ g8 ∧ RowV w8 g2 zerX from ⟨hf.bl H5.out.1, hr, Nat.le_of_eq hf.1.symm, H5.out.2.2.fresh hf⟩); have HF8 := Lib.hid hf; clear hf hr)
          | ((with_reducible refine at_store_ (i := 8) ?_); go_must (refine wpList_store_v rfl 44 (.tmp 8) (.tmp 41) rfl g8 zerX xs rfl (by rw [← HX.out.2.2.2]; rfl) H8.out.2.1 (by rw [HX.out.1]; rfl) HX.out.2.1 (by rw [HX.out.1]; exact size_x) ?_); intro w9 hw hr; have H9 := Lib.hid (show Below w.heap.size w w9 ∧ RowV w9 g8 xs ∧ w.heap.size ≤ g8 ∧ RowV w9 g2 zerX ∧ g2 ≠ g8 from by
              have hne : g2 ≠ g8 := by have := H5.out.2.2.lt; have := H8.out.2.2.1; omega
              exact ⟨Wr.bl H8.out.1 hw (Nat.le_trans H5.out.1.size H8.out.2.2.1), hr, Nat.le_trans H5.out.1.size H8.out.2.2.1, H8.out.2.2.2.wr hw hne, hne⟩); clear hw hr)
          | (go_at_call 74; ((with_reducible refine (p_nums p HNM.out.1 HNM.out.2.1 g8 _ H9.out.2.1.lt ((H9.out.2.1.cell 0).trans HX.out.2.2.1) n HNM.out.2.2).mono ?_); rintro e w10 ⟨A10, c10, rfl, h1, h2, hb⟩); have H10 := Lib.hid (show Below w.heap.size w w10 ∧ RowV w10 g8 xs ∧ RowV w10 g2 zerX ∧ SeesN w10 (fun k => k < w10.heap.size ∧ k ≠ g8) A5 r ∧ SeesP w10 (fun k => k < w10.heap.size ∧ k ≠ g8) A10 (Ncs g8 (numsI p)) from by
              have hb10 := below_on H9.out.1 hb
              have hl8 := H9.out.2.1.lt
              have hg8 := H9.out.2.2.1
              exact ⟨hb10, H9.out.2.1.on hb, H9.out.2.2.2.1.on hb, (HRS.out.1.keep fun q hq => hb10.cell hq).imp fun k hk => ⟨Nat.lt_of_lt_of_le hk hb10.size, by omega⟩, h2.imp fun k hk => ⟨newB_lt hk, by have := hk.1; omega⟩⟩); clear h1 h2 hb)
          | (go_at_call 83; ((with_reducible refine (HOP.out g8 _ (row_eq H10.out.2.1 HX.out.2.2.2) _ _ H10.out.2.2.2.1 H10.out.2.2.2.2).mono ?_); rintro e w11 ⟨z, rfl, h1, h2, hg⟩); have H11 := Lib.hid (show Below w.heap.size w w11 ∧ RowV w11 g8 z.cs ∧ RowV w11 g2 zerX ∧ (∀ y', _ = some y' → z = y') from ⟨H10.out.1.grown hg (H10.out.1.size) (fun k e => by injection e with e; rw [← e]; exact H9.out.2.2.1), h1, H10.out.2.2.1.same (hg.block g2 H10.out.2.2.1.lt fun e => H9.out.2.2.2.2 (by injection e)), h2⟩); clear h1 h2 hg)
          | ((with_reducible refine at_load_ (d := 47) ?_); refine wpList_load_v rfl 44 (.tmp 8) rfl g8 rfl z.cs _ H11.out.2.1 Tryd.underlying44 rfl (by rw [Im.cs_len]; exact size_x) ?_)
          | ((with_reducible refine at_store_ (i := 2) ?_); first
              | (refine wpList_store_v rfl 44 (.tmp 2) (.tmp 46) rfl g2 zerX zerI.cs rfl rfl H11.out.2.2.1 rfl (Im.cs_one _) size_x ?_; intro w12 hw hr; have H12 := Lib.hid (show RowV w12 g2 zerI.cs ∧ Below w.heap.size w w12 from ⟨hr, Wr.bl H11.out.1 hw H2.out.2.2.2⟩); clear hw hr)
              | (refine wpList_store_v rfl 44 (.tmp 2) (.tmp 47) rfl g2 zerX z.cs rfl rfl H11.out.2.2.1 rfl (Im.cs_one _) size_x ?_; intro w12 hw hr; have H12 := Lib.hid (show RowV w12 g2 z.cs ∧ Below w.heap.size w w12 from ⟨hr, Wr.bl H11.out.1 hw H2.out.2.2.2⟩); clear hw hr)))
        first
          | exact bodyPost_ret (results_v1 rfl _ _ g2 zerI.cs _ rfl H12.out.1 Tryd.underlying44 rfl size_x) rfl ⟨zerI, by rw [HN.out]; rfl, fun y h => (by rw [HN.out] at h; cases h), H12.out.2⟩
          | exact bodyPost_ret (results_v1 rfl _ _ g2 z.cs _ rfl H12.out.1 Tryd.underlying44 rfl size_x) rfl ⟨z, by rw [HN.out]; rfl, fun y' h => (by rw [HN.out] at h; exact H11.out.2.2.2 y' h), H12.out.2⟩
  · have d6 : (t0 != 6) = true := by simpa using h6
    have HN := Lib.hid (show infT t (.cons t0 v0 k0 r) = none from by rw [hinf, if_neg h6])
    have HID := Lib.hid hid
    clear hinf hid h6 hpb
    go_enter Tryd.func55, Tryd.ntmps55
    go_wp2_with (first
      | ((with_reducible refine at_box_ (d := 1) ?_); refine wpList_box_v (op := ⟨some 1, _, _, _, _, _⟩) rfl 54 _ rfl ns rfl ?_; intro g1 w1 hf hr; have H1 := Lib.hid (show _ ∧ _ ∧ _ from ⟨hf.bl HB.out, hr, hf.ge HB.out⟩); clear hf hr)
      | ((with_reducible refine at_alloc_ (d := 2) ?_); refine wpList_alloc_v (op := ⟨some 2, _, _, _, _, _⟩) rfl 44 rfl zerX info_x ?_; intro g2 w2 hf hr; have H2 := Lib.hid (show Below w.heap.size w w2 ∧ RowV w2 g1 ns ∧ RowV w2 g2 zerX ∧ w.heap.size ≤ g2 from ⟨hf.bl H1.out.1, H1.out.2.1.fresh hf, hr, hf.ge H1.out.1⟩); have q0 := ((H1.out.2.1.fresh hf).cell 0).trans HT.out.2.1; have q2 := ((H1.out.2.1.fresh hf).cell 2).trans HT.out.2.2; clear hf hr)
      | ((with_reducible refine at_store_ (i := 2) ?_); refine wpList_store_v rfl 44 (.tmp 2) (.tmp 18) rfl g2 zerX zerI.cs rfl rfl H2.out.2.2.1 rfl (Im.cs_one _) size_x ?_; intro w3 hw hr; have H3 := Lib.hid (show _ ∧ _ from ⟨Wr.bl H2.out.1 hw H2.out.2.2.2, hr⟩); clear hw hr))
    refine region_vars (by kernel_rfl) _ [.pointer (some ⟨g1, 2, none⟩), .slice (some ⟨kb, ko, none⟩) lk ck, .pointer (some ⟨kb, ko, none⟩), .agg us.toArray, .pointer (some ⟨g1, 2, none⟩), .slice (some ⟨kb, ko, none⟩) lk ck, .slice A5 m (ck - 1), undef, undef, .slice A5 m (ck - 1)] [7] [⟨7, 8, zerN, us⟩] (by kernel_rfl) ?_ ?_
    · refine ops_all (allI.cons ?_ (allI.cons ?_ (allI.cons ?_ (allI.cons ?_ (allI.cons ?_ (allI.cons ?_ (allI.cons ?_ (allI.cons ?_ (allI.cons ?_ (allI.cons ?_ allI.nil)))))))))) <;> intro b S c2 a hW hSi hdep hS hC
      · exact o_fa _ (.tmp 1) 2 rfl (hS.old 1 rfl) (fa_d2 g1 _) (.inl ⟨rfl, hW.keep rfl⟩)
      · exact o_ld _ (.tmp 19) rfl (hS.get 0 (dep_at hdep 0 rfl) rfl rfl) (((H2.out.2.1.on hW.1).cell 2).trans HT.out.2.2) ag_n (.inl ⟨rfl, hW.keep rfl⟩)
      · exact o_ix _ (.tmp 20) (.const (.int .i64 0)) rfl (hS.get 1 (dep_at hdep 1 rfl) rfl rfl) rfl (ix_nod0 kb ko lk ck HK.out.1 _) (.inl ⟨rfl, hW.keep rfl⟩)
      · exact wp_load_mid 54 (.tmp 21) rfl kb ko (hS.get 2 (dep_at hdep 2 rfl) rfl rfl) us _ (HK.out.2.1 _ (below_on H2.out.1 hW.1)) Tryd.underlying54 rfl (by rw [HU.out.1]; exact size_n) (.inl ⟨rfl, hW.keep rfl⟩)
      · exact o_fa _ (.tmp 1) 2 rfl (hS.old 1 rfl) (fa_d2 g1 _) (.inl ⟨rfl, hW.keep rfl⟩)
      · exact o_ld _ (.tmp 23) rfl (hS.get 4 (dep_at hdep 4 rfl) rfl rfl) (((H2.out.2.1.on hW.1).cell 2).trans HT.out.2.2) ag_n (.inl ⟨rfl, hW.keep rfl⟩)
      · exact o_sl _ (.tmp 24) (some (.const (.int .i64 1))) none none rfl (hS.get 5 (dep_at hdep 5 rfl) rfl rfl) rfl rfl rfl (HSL.out _) (.inl ⟨rfl, hW.keep rfl⟩)
      · refine wp_alloc_v (op := ⟨some 4, _, _, _, _, _⟩) 54 rfl zerN info_n ?_
        intro g w' hf hr
        exact .inr ⟨g, rfl, rfl, hW.new rfl (s0 := ⟨7, 8, zerN, us⟩) (by simp) rfl (by
          rcases hq : S 8 with _ | _
          · rfl
          · have := dep_at (hC 8 _ rfl hq) 7 rfl
            rw [hSi] at this; cases this) hf hr (by simp)⟩
      · refine wp_store_v 54 (.tmp 4) (.tmp 22) rfl (b 7) zerN us (hS.get 7 (dep_at hdep 7 rfl) rfl rfl) (hS.get 3 (dep_at hdep 3 rfl) rfl rfl) (hW.row (s0 := ⟨7, 8, zerN, us⟩) (by simp) (dep_at hdep 7 rfl) hSi) (by rw [HU.out.1]; rfl) HU.out.2.1 (by rw [HU.out.1]; exact size_n) ?_
        intro w' hw hr
        exact .inl ⟨rfl, hW.fill rfl (s0 := ⟨7, 8, zerN, us⟩) (by simp) rfl (dep_at hdep 7 rfl) hw hr (by simp)⟩
      · exact o_as (.tmp 25) rfl (hS.get 6 (dep_at hdep 6 rfl) rfl rfl) (.inl ⟨rfl, hW.keep rfl⟩)
    · intro b c2 S hS hW
      have h7 := hW.2.1 ⟨7, 8, zerN, us⟩ (by simp) (hS 7 (by decide))
      rw [hS 8 (by decide)] at h7
      simp only [if_true] at h7
      obtain ⟨g4, hg4⟩ : ∃ q, b 7 = q := ⟨_, rfl⟩
      simp only [putAll, Act.put, varV]
      simp
      rw [hg4] at h7 ⊢
      have H4 := Lib.hid (show Below w.heap.size w c2 ∧ RowV c2 g4 us ∧ RowV c2 g2 zerX ∧ w.heap.size ≤ c2.heap.size from ⟨below_on H2.out.1 hW.1, h7.2, H2.out.2.2.1.on hW.1, (below_on H2.out.1 hW.1).size⟩)
      have c0 := (h7.2.cell 0).trans HU.out.2.2.1
      have c1 := (h7.2.cell 1).trans HU.out.2.2.2
      clear hS hW h7 hg4
      go_wp2_with (first
        | (go_at_call 82; ((with_reducible refine (HPR.out _ H4.out.1).mono ?_); rintro e w5 ⟨rfl, hb⟩); rw [HID.out]; have H5 := Lib.hid (show Below w.heap.size w w5 ∧ RowV w5 g4 us ∧ RowV w5 g2 zerX from ⟨below_on H4.out.1 hb, H4.out.2.1.on hb, H4.out.2.2.1.on hb⟩); have c0 := ((H4.out.2.1.on hb).cell 0).trans HU.out.2.2.1; clear hb)
        | ((with_reducible refine at_store_ (i := 2) ?_); refine wpList_store_v rfl 44 (.tmp 2) (.tmp 39) rfl g2 zerX zerI.cs rfl rfl H5.out.2.2 rfl (Im.cs_one _) size_x ?_; intro w6 hw hr; have H6 := Lib.hid (show _ ∧ _ from ⟨Wr.bl H5.out.1 hw H2.out.2.2.2, hr⟩); clear hw hr))
      exact bodyPost_ret (results_v1 rfl _ _ g2 zerI.cs _ rfl H6.out.2 Tryd.underlying44 rfl size_x) rfl ⟨zerI, by rw [HN.out]; rfl, fun y h => (by rw [HN.out] at h; cases h), H6.out.1⟩
end Go.Proofs.YtcapbojjceeapaaDoor
