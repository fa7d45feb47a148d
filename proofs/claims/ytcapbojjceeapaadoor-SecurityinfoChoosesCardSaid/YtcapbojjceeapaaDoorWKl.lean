/-
  What is proved here: the info of the protocol that a reader prefers, by the reference.
-/
import Derived.Test.YtcapbojjceeapaaDoorWKj
import Derived.Test.YtcapbojjceeapaaDoorWIv
namespace Go.Proofs.YtcapbojjceeapaaDoor
open Go.RowKit
set_option maxRecDepth 8000
set_option linter.unusedVariables false
set_option linter.unusedSimpArgs false
theorem ix_io (g o n c k : Nat) (hk : k < n) (w : World) : (Instr.indexAt 34 (.slice (some ⟨g, o, none⟩) n c) (.int .i64 (k : Int))).run Tryd.prog w = .ok (.pointer (some ⟨g, o + k, none⟩)) w := by
  have h0 : (k : Int) < (n : Int) := by omega
  have h1 : (0 : Int) ≤ (k : Int) := by omega
  simp [go_sem, Addr.add, h0, h1]
set_option maxHeartbeats 6400000 in
theorem r_choose (l : List Im) (n : Nat) (hn : l.length = n) (hm : n ≤ 140737488351232) (o : List Int) (no : Nat) (hno : o.length = no) (hmo : no ≤ 140737488351232) (A B : Option Addr) (ca cb : Nat) (w : World) (hs : SeesP w (· < w.heap.size) A (Ics l)) (hso : SeesP w (· < w.heap.size) B (o.map (Value.int .i64))) :
    Calls Tryd.prog 24 #[.slice A n ca, .slice B no cb] w (ChoIs l o w) := by
  have HPV := Lib.hid (fun u (hb : Below w.heap.size w u) => r_ivalid l n hn hm A ca u (SeesP.on2 hs hb))
  have HS := Lib.hid (show _ ∧ _ from ⟨hs, hn⟩)
  have HSO := Lib.hid (show _ ∧ _ from ⟨hso, hno⟩)
  have HB := Lib.hid (Below.refl w.heap.size w)
  obtain ⟨ve, hve⟩ : ∃ z, vaE l = z := ⟨_, rfl⟩
  rw [hve] at HPV
  clear hs hn hso hno
  by_cases h0 : ve = 0
  case neg =>
    have d0 : (ve != 0) = true := by simpa using h0
    have HC := Lib.hid (show choI l o = (zerI, ve) from by unfold choI; rw [hve, if_neg h0])
    clear hve h0 HSO HS hmo hm
    go_enter Tryd.func24, Tryd.ntmps24
    go_wp2_with (first
      | ((with_reducible refine at_alloc_ (d := 4) ?_); refine wpList_alloc_v (op := ⟨some 4, _, _, _, _, _⟩) rfl 44 rfl zerX info_x ?_; intro g4 w1 hf hr; have H1 := Lib.hid (show _ ∧ _ ∧ _ from ⟨hf.bl HB.out, hr, hf.ge HB.out⟩); clear hf hr)
      | (go_at_call 14; ((with_reducible refine (HPV.out _ H1.out.1).mono ?_); rintro e w2 ⟨rfl, hb⟩); have H2 := Lib.hid (show Below w.heap.size w w2 ∧ RowV w2 g4 zerX ∧ w.heap.size ≤ g4 from ⟨below_on H1.out.1 hb, H1.out.2.1.on hb, H1.out.2.2⟩); clear hb)
      | ((with_reducible refine at_store_ (i := 4) ?_); refine wpList_store_v rfl 44 (.tmp 4) (.tmp 14) rfl g4 zerX zerI.cs rfl rfl H2.out.2.1 rfl (Im.cs_one _) size_x ?_; intro w3 hw hr; have H3 := Lib.hid (show _ ∧ _ from ⟨Wr.bl H2.out.1 hw H2.out.2.2, hr⟩); clear hw hr))
    exact bodyPost_ret (results_v1 (u := 5) rfl _ _ g4 zerI.cs _ rfl H3.out.2 Tryd.underlying44 rfl size_x) rfl (ChoIs.of HC.out H3.out.1)
  case pos =>
  have d0 : (ve != 0) = false := by simpa using h0
  have HCH := Lib.hid (show choI l o = chuI l o from by unfold choI; rw [hve, if_pos h0])
  subst h0
  clear hve
  go_enter Tryd.func24, Tryd.ntmps24
  go_wp2_with (first
    | ((with_reducible refine at_alloc_ (d := 4) ?_); refine wpList_alloc_v (op := ⟨some 4, _, _, _, _, _⟩) rfl 44 rfl zerX info_x ?_; intro g4 w1 hf hr; have H1 := Lib.hid (show _ ∧ _ ∧ _ from ⟨hf.bl HB.out, hr, hf.ge HB.out⟩); clear hf hr)
    | (go_at_call 14; ((with_reducible refine (HPV.out _ H1.out.1).mono ?_); rintro e w2 ⟨rfl, hb⟩); have H2 := Lib.hid (show Below w.heap.size w w2 ∧ RowV w2 g4 zerX ∧ w.heap.size ≤ g4 from ⟨below_on H1.out.1 hb, H1.out.2.1.on hb, H1.out.2.2⟩); clear hb))
  go_loopw [7] (fun i wr => ∃ (j : Nat), j ≤ no ∧ i = .int .i64 (j : Int) ∧ Hid (Below w.heap.size w wr ∧ RowV wr g4 zerX ∧ chuI l o = chuI l (o.drop j))) (fun i _ => no - (intOf i).toNat)
  case atStart => exact ⟨0, by omega, rfl, Lib.hid ⟨H2.out.1, H2.out.2.1, rfl⟩⟩
  case round =>
    obtain ⟨j, hj, rfl, HR⟩ := hrel
    obtain ⟨wr0, hwr0⟩ : ∃ z, z = wr := ⟨_, rfl⟩
    subst hwr0
    by_cases hlt : j < no
    · have dj : decide ((j : Int) < (no : Int)) = true := by simp; omega
      obtain ⟨q, hq⟩ : ∃ q, o[j]? = some q := ⟨_, List.getElem?_eq_getElem (by rw [HSO.out.2]; exact hlt)⟩
      obtain ⟨b, off, rfl, hb, hc⟩ := int_at HSO.out.1 hq
      have HO := Lib.hid (show ∀ cur, Below w.heap.size w cur → cur.cell? ⟨b, off + j, none⟩ = some (.int .i64 q) from fun cur h => (h.cell hb).trans hc)
      have HDR := Lib.hid (chu_drop (l := l) hq)
      clear hq hb hc
      go_wp2_with (first
        | ((with_reducible refine at_alloc_ (d := 8) ?_); refine wpList_alloc_v (op := ⟨some 8, _, _, _, _, _⟩) rfl 44 rfl zerX info_x ?_; intro g8 w4 hf hr; have H4 := Lib.hid (show Below w.heap.size w w4 ∧ RowV w4 g4 zerX ∧ RowV w4 g8 zerI.cs from ⟨hf.bl HR.out.1, HR.out.2.1.fresh hf, hr⟩); have HG8 := Lib.hid (show w.heap.size ≤ g8 ∧ g4 ≠ g8 from ⟨hf.ge HR.out.1, HR.out.2.1.ne hf⟩); clear hf hr))
      go_loopw [9] (fun i wq => ∃ (k : Nat), k ≤ n ∧ i = .int .i64 (k : Int) ∧ Hid (∃ z, Below w.heap.size w wq ∧ RowV wq g4 zerX ∧ RowV wq g8 z.cs ∧ newI q zerI (l.take k) = z)) (fun i _ => n - (intOf i).toNat)
      case atStart => exact ⟨0, by omega, rfl, Lib.hid ⟨zerI, H4.out.1, H4.out.2.1, H4.out.2.2, rfl⟩⟩
      case round =>
        obtain ⟨k, hk, rfl, HQx⟩ := hrel
        obtain ⟨z, hz⟩ := HQx.out
        have HQ := Lib.hid hz
        clear HQx hz
        obtain ⟨wq, hwq⟩ : ∃ z, z = wr := ⟨_, rfl⟩
        subst hwq
        by_cases hlk : k < n
        · have dk : decide ((k : Int) < (n : Int)) = true := by simp; omega
          obtain ⟨x, hx⟩ : ∃ x, l[k]? = some x := ⟨_, List.getElem?_eq_getElem (by rw [HS.out.2]; exact hlk)⟩
          obtain ⟨lb, lo, rfl, hlb, hlr⟩ := im_at HS.out.1 hx
          have hstep := newI_snoc (q := q) hx
          rw [HQ.out.2.2.2] at hstep
          obtain ⟨xp, hxp⟩ : ∃ u, x.p = u := ⟨_, rfl⟩
          obtain ⟨xv, hxv⟩ : ∃ u, x.v = u := ⟨_, rfl⟩
          obtain ⟨zv, hzv⟩ : ∃ u, z.v = u := ⟨_, rfl⟩
          have HX := Lib.hid (show ∀ cur, Below w.heap.size w cur → cur.rangeAt lb (lo + k * 5) x.cs from fun cur h => rangeAt_on hlr hlb h)
          have HU := Lib.hid (show (∀ cur, Below w.heap.size w cur → cur.cell? ⟨lb, lo + k * 5, none⟩ = some (.int .i64 xp)) ∧ (∀ cur, Below w.heap.size w cur → cur.cell? ⟨lb, lo + k * 5 + 1, none⟩ = some (.int .i64 xv)) from ⟨fun cur h => by rw [← hxp]; exact HX.out cur h 0 _ rfl, fun cur h => by rw [← hxv]; exact HX.out cur h 1 _ rfl⟩)
          have HZ := Lib.hid (show z.cs[1]? = some (.int .i64 zv) from by rw [← hzv]; rfl)
          rw [hxp, hxv, hzv] at hstep
          have ixk := fun w => ix_x lb lo n ca k hlk w
          have ixo := fun w => ix_io b off no cb j hlt w
          clear hx hlb hlr hxp hxv hzv
          by_cases hp : xp = q
          · have dp : (xp == q) = true := by simpa using hp
            by_cases hv : zv < xv
            · have dv : decide (zv < xv) = true := by simpa using hv
              have HST := Lib.hid (show newI q zerI (l.take (k + 1)) = x from by rw [hstep, if_pos ⟨hp, hv⟩])
              clear hstep hp hv
              go_wp2_with fail
              have HK0 := Lib.hid (cell_up (w := wq) fun w' hb => (HU.out.1 _ (below_on HQ.out.1 hb)))
              have HK1 := Lib.hid (cell_up (w := wq) fun w' hb => (HU.out.2 _ (below_on HQ.out.1 hb)))
              have HK2 := Lib.hid (cell_up (w := wq) fun w' hb => (HO.out _ (below_on HQ.out.1 hb)))
              have HK3 := Lib.hid (fun d os => HQ.out.2.2.1.quiet (k := 1) HZ.out d os)
              have k0 := HK0.out
              have k1 := HK1.out
              have k2 := HK2.out
              have k3 := HK3.out
              refine wp_region_quiet_below (by kernel_rfl) (by kernel_rfl) ?_
              repeat (first | go_big_quiet_skip | (go_big_quiet_want; go_big_quiet_op; go_big_quiet_on))
              refine wpQuiet_nil ?_
              intro w7 hw7
              have H7 := Lib.hid (show Below w.heap.size w w7 ∧ RowV w7 g4 zerX ∧ RowV w7 g8 z.cs from ⟨below_on HQ.out.1 (below_of_regrown hw7), HQ.out.2.1.on (below_of_regrown hw7), HQ.out.2.2.1.on (below_of_regrown hw7)⟩)
              clear hw7 ixk ixo k0 k1 k2 k3 HK0 HK1 HK2 HK3
              go_wp2_with (first
                | ((with_reducible refine at_load_ (d := 51) ?_); refine wpList_load_mid rfl 44 (.tmp 50) rfl lb (lo + k * 5) rfl x.cs _ (HX.out _ H7.out.1) Tryd.underlying44 rfl (by rw [Im.cs_len]; exact size_x) ?_)
                | ((with_reducible refine at_store_ (i := 8) ?_); refine wpList_store_v rfl 44 (.tmp 8) (.tmp 51) rfl g8 z.cs x.cs rfl rfl H7.out.2.2 rfl (Im.cs_one _) size_x ?_; intro w8 hw hr; have H8 := Lib.hid (show Below w.heap.size w w8 ∧ RowV w8 g4 zerX ∧ RowV w8 g8 x.cs from ⟨Wr.bl H7.out.1 hw HG8.out.1, H7.out.2.1.wr hw HG8.out.2, hr⟩); clear hw hr))
              go_roundw
              case rel => exact ⟨k + 1, by omega, by first | rfl | go_num, Lib.hid ⟨x, H8.out.1, H8.out.2.1, H8.out.2.2, HST.out⟩⟩
              case measure => simp [intOf]; omega
            · have dv : decide (zv < xv) = false := by simpa using hv
              have HST := Lib.hid (show newI q zerI (l.take (k + 1)) = z from by rw [hstep, if_neg fun h => hv h.2])
              clear hstep hp hv
              go_wp2_with fail
              have HK0 := Lib.hid (cell_up (w := wq) fun w' hb => (HU.out.1 _ (below_on HQ.out.1 hb)))
              have HK1 := Lib.hid (cell_up (w := wq) fun w' hb => (HU.out.2 _ (below_on HQ.out.1 hb)))
              have HK2 := Lib.hid (cell_up (w := wq) fun w' hb => (HO.out _ (below_on HQ.out.1 hb)))
              have HK3 := Lib.hid (fun d os => HQ.out.2.2.1.quiet (k := 1) HZ.out d os)
              have k0 := HK0.out
              have k1 := HK1.out
              have k2 := HK2.out
              have k3 := HK3.out
              refine wp_region_quiet_below (by kernel_rfl) (by kernel_rfl) ?_
              repeat (first | go_big_quiet_skip | (go_big_quiet_want; go_big_quiet_op; go_big_quiet_on))
              refine wpQuiet_nil ?_
              intro w7 hw7
              have H7 := Lib.hid (show Below w.heap.size w w7 ∧ RowV w7 g4 zerX ∧ RowV w7 g8 z.cs from ⟨below_on HQ.out.1 (below_of_regrown hw7), HQ.out.2.1.on (below_of_regrown hw7), HQ.out.2.2.1.on (below_of_regrown hw7)⟩)
              clear hw7 ixk ixo k0 k1 k2 k3 HK0 HK1 HK2 HK3
              go_wp2
              go_roundw
              case rel => exact ⟨k + 1, by omega, by first | rfl | go_num, Lib.hid ⟨z, H7.out.1, H7.out.2.1, H7.out.2.2, HST.out⟩⟩
              case measure => simp [intOf]; omega
          · have dp : (xp == q) = false := by simpa using hp
            have HST := Lib.hid (show newI q zerI (l.take (k + 1)) = z from by rw [hstep, if_neg fun h => hp h.1])
            clear hstep hp
            go_wp2_with fail
            have HK0 := Lib.hid (cell_up (w := wq) fun w' hb => (HU.out.1 _ (below_on HQ.out.1 hb)))
            have HK1 := Lib.hid (cell_up (w := wq) fun w' hb => (HU.out.2 _ (below_on HQ.out.1 hb)))
            have HK2 := Lib.hid (cell_up (w := wq) fun w' hb => (HO.out _ (below_on HQ.out.1 hb)))
            have HK3 := Lib.hid (fun d os => HQ.out.2.2.1.quiet (k := 1) HZ.out d os)
            have k0 := HK0.out
            have k1 := HK1.out
            have k2 := HK2.out
            have k3 := HK3.out
            refine wp_region_quiet_below (by kernel_rfl) (by kernel_rfl) ?_
            repeat (first | go_big_quiet_skip | (go_big_quiet_want; go_big_quiet_op; go_big_quiet_on))
            refine wpQuiet_nil ?_
            intro w7 hw7
            have H7 := Lib.hid (show Below w.heap.size w w7 ∧ RowV w7 g4 zerX ∧ RowV w7 g8 z.cs from ⟨below_on HQ.out.1 (below_of_regrown hw7), HQ.out.2.1.on (below_of_regrown hw7), HQ.out.2.2.1.on (below_of_regrown hw7)⟩)
            clear hw7 ixk ixo k0 k1 k2 k3 HK0 HK1 HK2 HK3
            go_wp2
            go_roundw
            case rel => exact ⟨k + 1, by omega, by first | rfl | go_num, Lib.hid ⟨z, H7.out.1, H7.out.2.1, H7.out.2.2, HST.out⟩⟩
            case measure => simp [intOf]; omega
        · obtain rfl : k = n := by omega
          have dk : decide ((k : Int) < (k : Int)) = false := by simp
          have hall : newI q zerI l = z := by
            have := HQ.out.2.2.2
            rwa [List.take_of_length_le (by rw [HS.out.2]; exact Nat.le_refl _)] at this
          have hdr := HDR.out
          rw [hall] at hdr
          obtain ⟨zv, hzv⟩ : ∃ u, z.v = u := ⟨_, rfl⟩
          have y8 := (HQ.out.2.2.1.cell 1).trans (show z.cs[1]? = some (.int .i64 zv) from by rw [← hzv]; rfl)
          rw [hzv] at hdr
          by_cases hv : 0 < zv
          · have dv : decide (0 < zv) = true := by simpa using hv
            have HE := Lib.hid (show choI l o = (z, 0) from by rw [HCH.out, HR.out.2.2, hdr, if_pos hv])
            clear hall hdr hzv hv
            go_wp2_with (first
              | ((with_reducible refine at_load_ (d := 55) ?_); refine wpList_load_v rfl 44 (.tmp 8) rfl g8 rfl z.cs _ HQ.out.2.2.1 Tryd.underlying44 rfl (by rw [Im.cs_len]; exact size_x) ?_)
              | ((with_reducible refine at_store_ (i := 4) ?_); refine wpList_store_v rfl 44 (.tmp 4) (.tmp 55) rfl g4 zerX z.cs rfl rfl HQ.out.2.1 rfl (Im.cs_one _) size_x ?_; intro w6 hw hr; have H6 := Lib.hid (show _ ∧ _ from ⟨Wr.bl HQ.out.1 hw H2.out.2.2, hr⟩); clear hw hr))
            exact bodyPost_ret (results_v1 (u := 5) rfl _ _ g4 z.cs _ rfl H6.out.2 Tryd.underlying44 rfl size_x) rfl (ChoIs.of HE.out H6.out.1)
          · have dv : decide (0 < zv) = false := by simpa using hv
            have HE := Lib.hid (show chuI l o = chuI l (o.drop (j + 1)) from by rw [HR.out.2.2, hdr, if_neg hv])
            clear hall hdr hzv hv
            go_wp2
            go_roundw
            case rel => exact ⟨j + 1, by omega, by first | rfl | go_num, Lib.hid ⟨HQ.out.1, HQ.out.2.1, HE.out⟩⟩
            case measure => simp [intOf]; omega
    · obtain rfl : j = no := by omega
      have dj : decide ((j : Int) < (j : Int)) = false := by simp
      have HQ := Lib.hid (show choI l o = (zerI, 16) from by rw [HCH.out, HR.out.2.2, chu_end HSO.out.2])
      go_wp2_with (first
        | ((with_reducible refine at_store_ (i := 4) ?_); refine wpList_store_v rfl 44 (.tmp 4) (.tmp 56) rfl g4 zerX zerI.cs rfl rfl HR.out.2.1 rfl (Im.cs_one _) size_x ?_; intro w3 hw hr; have H3 := Lib.hid (show _ ∧ _ from ⟨Wr.bl HR.out.1 hw H2.out.2.2, hr⟩); clear hw hr))
      exact bodyPost_ret (results_v1 (u := 5) rfl _ _ g4 zerI.cs _ rfl H3.out.2 Tryd.underlying44 rfl size_x) rfl (ChoIs.of HQ.out H3.out.1)
end Go.Proofs.YtcapbojjceeapaaDoor
