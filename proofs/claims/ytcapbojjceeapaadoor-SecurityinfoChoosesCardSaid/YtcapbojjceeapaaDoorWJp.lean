/-
  What is proved here: the protocol that an identifier stands for; the numbers of an info read out of their objects.
-/
import Derived.Test.YtcapbojjceeapaaDoorWJk
import Derived.Test.YtcapbojjceeapaaDoorWG11
namespace Go.Proofs.YtcapbojjceeapaaDoor
open Go.RowKit
set_option maxRecDepth 8000
set_option linter.unusedVariables false
set_option linter.unusedSimpArgs false
theorem idL_ne : idL 2 ≠ idL 3 ∧ idL 2 ≠ idL 4 ∧ idL 2 ≠ idL 5 ∧ idL 2 ≠ idL 6 ∧ idL 3 ≠ idL 4 ∧ idL 3 ≠ idL 5 ∧ idL 3 ≠ idL 6 ∧ idL 4 ≠ idL 5 ∧ idL 4 ≠ idL 6 ∧ idL 5 ≠ idL 6 := by decide
theorem idT_at {v : List UInt8} {j : Nat} (hj : j < 5) (h : v = idL ((j : Int) + 2)) : idT v = some ((j : Int) + 2) := by
  subst h
  obtain ⟨h1, h2, h3, h4, h5, h6, h7, h8, h9, h10⟩ := idL_ne
  obtain rfl | rfl | rfl | rfl | rfl : j = 0 ∨ j = 1 ∨ j = 2 ∨ j = 3 ∨ j = 4 := by omega
  all_goals decide
theorem idT_none {v : List UInt8} (h : ∀ q : Nat, q < 5 → v ≠ idL ((q : Int) + 2)) : idT v = none := by
  have h0 : v ≠ idL 2 := h 0 (by decide)
  have h1 : v ≠ idL 3 := h 1 (by decide)
  have h2 : v ≠ idL 4 := h 2 (by decide)
  have h3 : v ≠ idL 5 := h 3 (by decide)
  have h4 : v ≠ idL 6 := h 4 (by decide)
  unfold idT
  rw [if_neg h0, if_neg h1, if_neg h2, if_neg h3, if_neg h4]
theorem idT_some {v : List UInt8} {p : Int} (h : idT v = some p) : v = idL p ∧ 2 ≤ p ∧ p ≤ 6 := by
  unfold idT at h
  split at h
  · injection h with h; subst h; exact ⟨by assumption, by decide, by decide⟩
  · split at h
    · injection h with h; subst h; exact ⟨by assumption, by decide, by decide⟩
    · split at h
      · injection h with h; subst h; exact ⟨by assumption, by decide, by decide⟩
      · split at h
        · injection h with h; subst h; exact ⟨by assumption, by decide, by decide⟩
        · split at h
          · injection h with h; subst h; exact ⟨by assumption, by decide, by decide⟩
          · cases h
theorem ix_tab {j : Nat} (hj : j < 5) (w : World) : (Instr.index 112 (.agg (Us tabI).toArray) (.int .i64 (j : Int))).run Tryd.prog w = .ok (.agg (Us (idL ((j : Int) + 2))).toArray) w := by
  obtain rfl | rfl | rfl | rfl | rfl : j = 0 ∨ j = 1 ∨ j = 2 ∨ j = 3 ∨ j = 4 := by omega
  all_goals kernel_rfl
theorem size_45 : (Tryd.prog.info? 112).map (·.size) = some 45 := by kernel_rfl
def ProIs (v : List UInt8) (w : World) (e : Ending) (w' : World) : Prop := e = .returned (.tuple #[.int .i64 ((idT v).getD 0), .bool (idT v).isSome]) ∧ Below w.heap.size w w'
set_option maxHeartbeats 1600000 in
theorem p_proto (v : List UInt8) (n : Nat) (hn : v.length = n) (A : Option Addr) (c : Nat) (w : World) (hs : SeesP w (· < w.heap.size) A (Us v)) (ht : TabX w) :
    Calls Tryd.prog 82 #[.slice A n c] w (ProIs v w) := by
  obtain ⟨tl, htl⟩ : ∃ tl, Us tabI = tl := ⟨_, rfl⟩
  have htr := ht.row
  have hix := fun (j : Nat) (hj : j < 5) w => ix_tab hj w
  have ht45 : tl.length = 45 := by rw [← htl]; kernel_rfl
  rw [htl] at htr hix
  obtain ⟨ta, hta⟩ : ∃ ta, tl.toArray = ta := ⟨_, rfl⟩
  rw [hta] at hix
  have HT := Lib.hid (show _ ∧ _ ∧ _ from ⟨htr, ht45, hta⟩)
  have HIX := Lib.hid hix
  have HS := Lib.hid (show _ ∧ _ from ⟨hs, hn⟩)
  clear htr ht45 hix htl hta hs hn ht
  go_enter Tryd.func82, Tryd.ntmps82
  go_wp2_with (first
    | ((with_reducible refine at_load_ (d := 6) ?_); go_must (refine wpList_load_mid rfl 112 (.global 0) rfl 0 0 rfl tl _ HT.out.1 Tryd.underlying112 rfl (by rw [HT.out.2.1]; exact size_45) ?_); rw [HT.out.2.2]))
  go_loopw [7] (fun i wr => ∃ (j : Nat), j ≤ 5 ∧ i = .int .i64 (j : Int) ∧ Hid (Below w.heap.size w wr ∧ ∀ q : Nat, q < j → v ≠ idL ((q : Int) + 2))) (fun i _ => 5 - (intOf i).toNat)
  case atStart => exact ⟨0, by omega, rfl, Lib.hid ⟨Below.refl _ _, fun q hq => by omega⟩⟩
  case round =>
    obtain ⟨j, hj, rfl, HR⟩ := hrel
    by_cases hlt : j < 5
    · have dj : decide ((j : Int) < 5) = true := by simp; omega
      have ix := HIX.out j hlt
      obtain ⟨us, hus⟩ : ∃ us, Us (idL ((j : Int) + 2)) = us := ⟨_, rfl⟩
      have hu9 : us.length = 9 := by rw [← hus]; exact idU_len _
      have hu1 : ∀ u ∈ us, u.oneCell' = true := by rw [← hus]; exact Us_one _
      rw [hus] at ix
      have HU := Lib.hid (show _ ∧ _ ∧ _ from ⟨hu9, hu1, hus⟩)
      obtain ⟨bb, hbb⟩ : ∃ q, sameB (idL ((j : Int) + 2)) v = q := ⟨_, rfl⟩
      have HSM : Hid (∀ g w0, Below w.heap.size w w0 → RowV w0 g us → Calls Tryd.prog 94 #[.slice (some ⟨g, 0, none⟩) 9 9, .slice A n c] w0 fun e w' => e = .returned (.bool bb) ∧ w' = w0) := Lib.hid fun g w0 hb hr => by
        have h := oct_same (some ⟨g, 0, none⟩) A 9 c 9 n (idL ((j : Int) + 2)) v w0 w0.heap.size (SeesP.iff_sees.1 (.inr ⟨g, 0, rfl, hr.lt, fun k hk => by rw [Nat.zero_add, hr.cell, ← HU.out.2.2]⟩)) (SeesP.iff_sees.1 (SeesP.on2 HS.out.1 hb)) (idL_len _).symm HS.out.2.symm
        rw [hbb] at h
        exact h
      have HBB := Lib.hid hbb
      clear hu9 hu1 hus hbb
      rcases bb with _ | _
      · have HC := Lib.hid (show ∀ q : Nat, q < j + 1 → v ≠ idL ((q : Int) + 2) from fun q hq => by
          by_cases e : q = j
          · subst e
            intro h
            have := HBB.out
            rw [h, sameB_true rfl] at this
            cases this
          · exact HR.out.2 q (by omega))
        go_wp2_with (first
          | ((with_reducible refine at_alloc_ (d := 5) ?_); refine wpList_alloc_v (op := ⟨some 5, _, _, _, _, _⟩) rfl 111 rfl zer9 info_9 ?_; intro g5 w5 hf hr; have H5 := Lib.hid (show _ ∧ _ ∧ _ from ⟨hf.bl HR.out.1, hr, hf.ge HR.out.1⟩); clear hf hr)
          | ((with_reducible refine at_store_ (i := 5) ?_); go_must (refine wpList_store_v rfl 111 (.tmp 5) (.tmp 10) rfl g5 zer9 us rfl rfl H5.out.2.1 (by rw [HU.out.1]; rfl) HU.out.2.1 (by rw [HU.out.1]; exact size_9) ?_); intro w6 hw hr; have H6 := Lib.hid (show _ ∧ _ from ⟨Wr.bl H5.out.1 hw H5.out.2.2, hr⟩); clear hw hr)
          | (go_at_call 94; ((with_reducible refine (HSM.out _ _ H6.out.1 H6.out.2).mono ?_); rintro e w7 ⟨rfl, rfl⟩)))
        go_roundw
        case rel => exact ⟨j + 1, by omega, by first | rfl | go_num, Lib.hid ⟨H6.out.1, HC.out⟩⟩
        case measure => simp [intOf]; omega
      · have HC := Lib.hid (show idT v = some ((j : Int) + 2) from idT_at hlt (by
          have := HBB.out
          unfold sameB at this
          exact (by simpa using this : idL ((j : Int) + 2) = v).symm))
        go_wp2_with (first
          | ((with_reducible refine at_alloc_ (d := 5) ?_); refine wpList_alloc_v (op := ⟨some 5, _, _, _, _, _⟩) rfl 111 rfl zer9 info_9 ?_; intro g5 w5 hf hr; have H5 := Lib.hid (show _ ∧ _ ∧ _ from ⟨hf.bl HR.out.1, hr, hf.ge HR.out.1⟩); clear hf hr)
          | ((with_reducible refine at_store_ (i := 5) ?_); go_must (refine wpList_store_v rfl 111 (.tmp 5) (.tmp 10) rfl g5 zer9 us rfl rfl H5.out.2.1 (by rw [HU.out.1]; rfl) HU.out.2.1 (by rw [HU.out.1]; exact size_9) ?_); intro w6 hw hr; have H6 := Lib.hid (show _ ∧ _ from ⟨Wr.bl H5.out.1 hw H5.out.2.2, hr⟩); clear hw hr)
          | (go_at_call 94; ((with_reducible refine (HSM.out _ _ H6.out.1 H6.out.2).mono ?_); rintro e w7 ⟨rfl, rfl⟩)))
        go_ret2
        refine ⟨?_, H6.out.1⟩
        rw [HC.out, show (j : Int) + 2 = 2 + (j : Int) by omega]
        rfl
    · obtain rfl : j = 5 := by omega
      have HC := Lib.hid (show idT v = none from idT_none HR.out.2)
      have HB := Lib.hid HR.out.1
      clear HR
      go_wp2
      go_ret2
      refine ⟨?_, HB.out⟩
      rw [HC.out]
      rfl
theorem Im.cs_put (x : Im) (n : Int) {c : Nat} (h : 1 ≤ c ∧ c < 5) : x.cs.set c (.int .i64 n) = (x.put c n).cs := by
  obtain ⟨h1, h2⟩ := h
  obtain rfl | rfl | rfl | rfl : c = 1 ∨ c = 2 ∨ c = 3 ∨ c = 4 := by omega
  all_goals rfl
theorem size_i : (Tryd.prog.info? 3).map (·.size) = some 1 := by kernel_rfl
theorem ag_u : ∀ w, (isAgg 23).run Tryd.prog w = .ok false w := fun w => by kernel_rfl
theorem fa_d1 (g : Nat) (w : World) : (Instr.fieldAt 54 (.pointer (some ⟨g, 0, none⟩)) 1).run Tryd.prog w = .ok (.pointer (some ⟨g, 1, none⟩)) w := by kernel_rfl
theorem numT_len {x y : Im} : ∀ {l : List (Int × Nat × Nat)} {f : F}, numT x l f = some y → f.len = l.length
  | [], .nil, h => rfl
  | [], .cons _ _ _ _, h => by cases h
  | (t, s, c) :: r, .nil, h => by cases h
  | (t, s, c) :: r, .cons t' v k g, h => by
    unfold numT at h
    split at h
    · rw [F.len, List.length_cons, numT_len h]
    · cases h
theorem numT_step {x : Im} {l : List (Int × Nat × Nat)} {f : F} {j : Nat} {t : Int} {s c : Nat} {t' : Int} {v : List UInt8} {k r : F} (h : l[j]? = some (t, s, c)) (hf : f.drop j = .cons t' v k r) :
    numT x (l.drop j) (f.drop j) = if t' = t ∧ v.length = s then numT (x.put c (numL v : Nat)) (l.drop (j + 1)) (f.drop (j + 1)) else none := by
  have hj := (List.getElem?_eq_some_iff.1 h).1
  have e : l[j] = (t, s, c) := (List.getElem?_eq_some_iff.1 h).2
  rw [List.drop_eq_getElem_cons hj, e, F.drop_next hf, hf]
  rfl
def OpnIs (x : Im) (l : List (Int × Nat × Nat)) (f : F) (b : Nat) (w : World) (e : Ending) (w' : World) : Prop := ∃ z : Im, e = .returned (.bool (numT x l f).isSome) ∧ RowV w' b z.cs ∧ (∀ y, numT x l f = some y → z = y) ∧ w.grownBy w' (some b)
set_option maxHeartbeats 6400000 in
set_option maxRecDepth 20000 in
theorem p_open_nums (x : Im) (l : List (Int × Nat × Nat)) (n : Nat) (hl : l.length = n) (hn3 : n ≤ 3) (hlc : ∀ t s c, (t, s, c) ∈ l → s ≤ 7 ∧ 1 ≤ c ∧ c < 5) (f : F) (m : Nat) (hm : f.len = m) (hm2 : m ≤ 140737488351232) (b : Nat) (w : World) (hb : RowV w b x.cs) (Ao An : Option Addr) (co cn : Nat)
    (ho : SeesN w (fun k => k < w.heap.size ∧ k ≠ b) Ao f) (ha : SeesP w (fun k => k < w.heap.size ∧ k ≠ b) An (Ncs b l)) :
    Calls Tryd.prog 83 #[.slice Ao m co, .slice An n cn] w (OpnIs x l f b w) := by
  by_cases hmn : m = n
  · subst hmn
    have d0 : ((m : Int) != (m : Int)) = false := by simp
    have HO := Lib.hid ho
    have HA := Lib.hid ha
    have HL := Lib.hid (show _ ∧ _ from ⟨hl, hm⟩)
    have HLC := Lib.hid hlc
    have HB := Lib.hid hb
    clear ho ha hl hm hlc hb
    go_enter Tryd.func83, Tryd.ntmps83
    go_wp2
    go_loopw [15] (fun i wr => ∃ (j : Nat), j ≤ m ∧ i = .int .i64 (j : Int) ∧ Hid (∃ z : Im, RowV wr b z.cs ∧ numT z (l.drop j) (f.drop j) = numT x l f ∧ w.grownBy wr (some b))) (fun i _ => m - (intOf i).toNat)
    case atStart => exact ⟨0, by omega, rfl, Lib.hid ⟨x, HB.out, by cases f <;> rfl, World.grownBy.refl _ _⟩⟩
    case round =>
      obtain ⟨j, hj, rfl, HR0⟩ := hrel
      obtain ⟨z, hR0⟩ := HR0.out
      have HR := Lib.hid hR0
      clear HR0 hR0
      by_cases hlt : j < m
      · have dj : decide ((j : Int) < (m : Int)) = true := by simp; omega
        obtain ⟨⟨tt, ss, cc⟩, hget⟩ : ∃ q, l[j]? = some q := ⟨_, List.getElem?_eq_getElem (by rw [HL.out.1]; exact hlt)⟩
        obtain ⟨hs7, hc1, hc5⟩ := HLC.out tt ss cc (List.mem_of_getElem? hget)
        obtain ⟨tg, vv, kk, hfo⟩ := F.drop_cons (f := f) (j := j) (by rw [HL.out.2]; exact hlt)
        obtain ⟨bo, oo, Av, cv, Ak, ck, rfl, hbo, hro, hv0, hv1, hk1, hsv, _⟩ := node_atN HO.out hfo
        have hstep := numT_step (x := z) hget hfo
        have hcs := Ncs_get (b := b) hget
        have hNl : (Ncs b l).length = 3 * m := by rw [Ncs_len, HL.out.1]
        obtain ⟨b5, o5, rfl, hb5, hc5'⟩ : ∃ b1 o1, An = some ⟨b1, o1, none⟩ ∧ (b1 < w.heap.size ∧ b1 ≠ b) ∧ ∀ j, j < (Ncs b l).length → w.cell? ⟨b1, o1 + j, none⟩ = (Ncs b l)[j]? := by
          rcases HA.out with h | ⟨b1, o1, e, hb1, hc⟩
          · rw [h] at hNl; simp at hNl; omega
          · exact ⟨b1, o1, e, hb1, hc⟩
        have hr5 : ∀ cur : World, w.grownBy cur (some b) → cur.rangeAt b5 (o5 + j * 3) [.int .i64 tt, .int .i64 (ss : Int), .pointer (some ⟨b, cc, none⟩)] := by
          intro cur hcur i u hu
          have hi : i < 3 := by
            have := (List.getElem?_eq_some_iff.1 hu).1
            simpa using this
          rw [grown_cell (p := ⟨b5, o5 + j * 3 + i, none⟩) hcur hb5.1 hb5.2, Nat.add_assoc, hc5' _ (by omega), ← hu]
          obtain rfl | rfl | rfl : i = 0 ∨ i = 1 ∨ i = 2 := by omega
          · rw [Nat.mul_comm]; exact hcs.1
          · rw [Nat.mul_comm]; exact hcs.2.1
          · rw [Nat.mul_comm]; exact hcs.2.2
        obtain ⟨nv, hnv⟩ : ∃ q, vv.length = q := ⟨_, rfl⟩
        obtain ⟨us, hus⟩ : ∃ us, nodV tg Av vv.length cv Ak kk.len ck = us := ⟨_, rfl⟩
        have hu3 : us.length = 3 := by rw [← hus]; rfl
        have hu1 : ∀ u ∈ us, u.oneCell' = true := by rw [← hus]; exact nodV_one _ _ _ _ _ _ _
        have hu : us[0]? = some (.int .i64 tg) ∧ us[1]? = some (.slice Av nv cv) := by rw [← hus, ← hnv]; exact ⟨rfl, rfl⟩
        rw [hus] at hro
        have hrn : ∀ cur : World, w.grownBy cur (some b) → cur.rangeAt bo (oo + j * 3) us := fun cur hcur i u hu => by
          rw [grown_cell (p := ⟨bo, oo + j * 3 + i, none⟩) hcur hbo.1 hbo.2]
          exact hro i u hu
        have hsv2 : ∀ cur : World, w.grownBy cur (some b) → SeesP cur (· < cur.heap.size) Av (Us vv) := fun cur hcur => (hsv.keep fun q hq => grown_cell hcur hq.1 hq.2).imp fun k hk => Nat.lt_of_lt_of_le hk.1 hcur.size
        have HRG := Lib.hid (show _ ∧ _ from ⟨hr5, hrn⟩)
        have HU := Lib.hid (show us.length = 3 ∧ (∀ u ∈ us, u.oneCell' = true) ∧ us[0]? = some (.int .i64 tg) ∧ us[1]? = some (.slice Av nv cv) from ⟨hu3, hu1, hu⟩)
        have HCC := Lib.hid (show 1 ≤ cc ∧ cc < 5 from ⟨hc1, hc5⟩)
        have HST := Lib.hid (show numT z (l.drop j) (f.drop j) = if tg = tt ∧ nv = ss then numT (z.put cc (numL vv : Nat)) (l.drop (j + 1)) (f.drop (j + 1)) else none from by rw [hstep, hnv])
        have HSV := Lib.hid hsv2
        have HNV := Lib.hid hnv
        clear hr5 hrn hu3 hu1 hu hus hro hsv hsv2 hstep hcs hNl hc5' hget hfo hbo hb5 hv0 hv1 hk1 hnv hc1 hc5
        by_cases ht : tg = tt
        · by_cases hv : nv = ss
          · have d1 : (tg != tt) = false := by simpa using ht
            have d2 : ((nv : Int) != (ss : Int)) = false := by simp; omega
            have HND := Lib.hid (show us[1]? = some (.slice Av nv cv) ∧ cc < 5 ∧ ∀ c, w.grownBy c (some b) → Calls Tryd.prog 95 #[.slice Av nv cv] c fun e w' => e = .returned (.tuple #[.int .i64 ((numL vv : Nat) : Int), .int .i64 0]) ∧ c = w' from ⟨HU.out.2.2.2, HCC.out.2, fun c hc => p_number vv nv HNV.out (by omega) Av cv c (HSV.out c hc)⟩)
            have HNX := Lib.hid (show numT (z.put cc (numL vv : Nat)) (l.drop (j + 1)) (f.drop (j + 1)) = numT x l f from by rw [← HR.out.2.1, HST.out, if_pos ⟨ht, hv⟩])
            clear ht hv
            go_wp2_with (first
              | ((with_reducible refine at_load_ (d := 19) ?_); refine wpList_load_mid rfl 98 (.tmp 18) rfl b5 (o5 + j * 3) rfl [.int .i64 tt, .int .i64 (ss : Int), .pointer (some ⟨b, cc, none⟩)] _ (HRG.out.1 _ HR.out.2.2) Tryd.underlying98 rfl size_m ?_)
              | ((with_reducible refine at_alloc_ (d := 6) ?_); refine wpList_alloc_v (op := ⟨some 6, _, _, _, _, _⟩) rfl 98 rfl zerM info_m ?_; intro g6 wa hf hr; have HG6 := Lib.hid (show RowV wa g6 zerM ∧ wr.heap.size ≤ g6 from ⟨hr, Nat.le_of_eq hf.1.symm⟩); have HF6 := Lib.hid hf; clear hf hr)
              | ((with_reducible refine at_store_ (i := 6) ?_); refine wpList_store_v rfl 98 (.tmp 6) (.tmp 19) rfl g6 zerM [.int .i64 tt, .int .i64 (ss : Int), .pointer (some ⟨b, cc, none⟩)] rfl rfl HG6.out.1 rfl (Ncs_one b [(tt, ss, cc)]) size_m ?_; intro w6 hw hr; have H6 := Lib.hid (show Below wr.heap.size wr w6 ∧ RowV w6 g6 [.int .i64 tt, .int .i64 (ss : Int), .pointer (some ⟨b, cc, none⟩)] ∧ w.grownBy w6 (some b) from ⟨HF6.out.wr_bl hw, hr, grown_trans HR.out.2.2 (grown_below (HF6.out.wr_bl hw))⟩); clear hw hr)
              | ((with_reducible refine at_load_ (d := 23) ?_); refine wpList_load_mid rfl 54 (.tmp 22) rfl bo (oo + j * 3) rfl us _ (HRG.out.2 _ H6.out.2.2) Tryd.underlying54 rfl (by rw [HU.out.1]; exact size_n) ?_)
              | ((with_reducible refine at_alloc_ (d := 7) ?_); refine wpList_alloc_v (op := ⟨some 7, _, _, _, _, _⟩) rfl 54 rfl zerN info_n ?_; intro g7 wb hf hr; have HG7 := Lib.hid (show RowV wb g7 zerN ∧ w6.heap.size ≤ g7 ∧ wr.heap.size ≤ g7 from ⟨hr, Nat.le_of_eq hf.1.symm, Nat.le_trans H6.out.1.size (Nat.le_of_eq hf.1.symm)⟩); have HF7 := Lib.hid hf; clear hf hr)
              | ((with_reducible refine at_store_ (i := 7) ?_); refine wpList_store_v rfl 54 (.tmp 7) (.tmp 23) rfl g7 zerN us rfl rfl HG7.out.1 (by rw [HU.out.1]; rfl) HU.out.2.1 (by rw [HU.out.1]; exact size_n) ?_; intro w7 hw hr; have H7 := Lib.hid (show RowV w7 g6 [.int .i64 tt, .int .i64 (ss : Int), .pointer (some ⟨b, cc, none⟩)] ∧ RowV w7 g7 us ∧ RowV w7 b z.cs ∧ w.grownBy w7 (some b) from ⟨H6.out.2.1.on (HF7.out.wr_bl hw), hr, (HR.out.1.on H6.out.1).on (HF7.out.wr_bl hw), grown_trans H6.out.2.2 (grown_below (HF7.out.wr_bl hw))⟩); have c0 := (hr.cell 0).trans HU.out.2.2.1; have c1 := (hr.cell 1).trans HU.out.2.2.2; have e0 := (H7.out.1.cell 0).trans (show [Value.int .i64 tt, .int .i64 (ss : Int), .pointer (some ⟨b, cc, none⟩)][0]? = some (.int .i64 tt) from rfl); have e1 := (H7.out.1.cell 1).trans (show [Value.int .i64 tt, .int .i64 (ss : Int), .pointer (some ⟨b, cc, none⟩)][1]? = some (.int .i64 (ss : Int)) from rfl); clear hw hr))
            have HNE := Lib.hid (show g6 ≠ b ∧ g7 ≠ b ∧ True from ⟨by have := HG6.out.2; have := HR.out.1.lt; omega, by have := HG7.out.2; have := HR.out.1.lt; omega, trivial⟩)
            refine region_facts (by kernel_rfl) _ w7 (fun c => RowV c g6 [.int .i64 tt, .int .i64 (ss : Int), .pointer (some ⟨b, cc, none⟩)] ∧ RowV c g7 us ∧ w.grownBy c (some b)) 9 (factL [fun u _ => u = .pointer (some ⟨g6, 2, none⟩), fun u _ => u = .pointer (some ⟨b, cc, none⟩), fun u _ => u = .pointer (some ⟨g7, 1, none⟩), fun u _ => u = .slice Av nv cv, fun u _ => u = .tuple #[.int .i64 ((numL vv : Nat) : Int), .int .i64 0], fun u _ => u = .tuple #[.int .i64 ((numL vv : Nat) : Int), .int .i64 0], fun u _ => u = .int .i64 ((numL vv : Nat) : Int), fun u _ => u = .int .i64 0, fun u _ => u = .pointer (some ⟨b, cc, none⟩), fun _ c => RowV c b (z.put cc ((numL vv : Nat) : Int)).cs]) (by kernel_rfl) (firm_list (by simp only [List.forall_mem_cons]; exact ⟨firm_eq _, firm_eq _, firm_eq _, firm_eq _, firm_eq _, firm_eq _, firm_eq _, firm_eq _, firm_eq _, fun u c c2 h hb => h.on hb, fun X h => by cases h⟩)) (fun c c2 h hb => ⟨h.1.on hb, h.2.1.on hb, grown_trans h.2.2 (grown_below hb)⟩) (Below.refl _ _) ⟨H7.out.1, H7.out.2.1, H7.out.2.2.2⟩ ?_ ?_
            · refine ops_all (allI.cons ?_ (allI.cons ?_ (allI.cons ?_ (allI.cons ?_ (allI.cons ?_ (allI.cons ?_ (allI.cons ?_ (allI.cons ?_ (allI.cons ?_ (allI.cons ?_ allI.nil)))))))))) <;> intro v S c a hI hw1 hX hSi hdep hS hC
              · exact o_fa _ (.tmp 6) 2 rfl (hS.old 6 rfl) (fa_n2 g6 _) (Step.still rfl)
              · exact o_ld _ (.tmp 38) rfl ((hS.get 0 (dep_at hdep 0 rfl) rfl rfl).trans (hX 0 (dep_at hdep 0 rfl))) ((hI.1.cell 2).trans rfl) ag_p (Step.still rfl)
              · exact o_fa _ (.tmp 7) 1 rfl (hS.old 7 rfl) (fa_d1 g7 _) (Step.still rfl)
              · exact o_ld _ (.tmp 40) rfl ((hS.get 2 (dep_at hdep 2 rfl) rfl rfl).trans (hX 2 (dep_at hdep 2 rfl))) ((hI.2.1.cell 1).trans HND.out.1) ag_u (Step.still rfl)
              · refine o_callV (.func 95) 95 #[.tmp 41] _ rfl rfl (ev1 ((hS.get 3 (dep_at hdep 3 rfl) rfl rfl).trans (hX 3 (dep_at hdep 3 rfl)))) (by kernel_rfl) (HND.out.2.2 c hI.2.2) (fun e w9 h => ?_)
                obtain ⟨rfl, rfl⟩ := h
                exact ⟨_, rfl, Step.still rfl⟩
              · exact o_mv (.tmp 42) rfl ((hS.get 4 (dep_at hdep 4 rfl) rfl rfl).trans (hX 4 (dep_at hdep 4 rfl))) (Step.still rfl)
              · exact o_ext (.tmp 37) 0 rfl ((hS.get 5 (dep_at hdep 5 rfl) rfl rfl).trans (hX 5 (dep_at hdep 5 rfl))) rfl (Step.still rfl)
              · exact o_ext (.tmp 37) 1 rfl ((hS.get 5 (dep_at hdep 5 rfl) rfl rfl).trans (hX 5 (dep_at hdep 5 rfl))) rfl (Step.still rfl)
              · exact o_nil (.tmp 39) rfl ((hS.get 1 (dep_at hdep 1 rfl) rfl rfl).trans (hX 1 (dep_at hdep 1 rfl))) (Step.still rfl)
              · refine o_stA 3 (.tmp 45) (.tmp 43) rfl b cc z.cs (.int .i64 ((numL vv : Nat) : Int)) ((hS.get 8 (dep_at hdep 8 rfl) rfl rfl).trans (hX 8 (dep_at hdep 8 rfl))) ((hS.get 6 (dep_at hdep 6 rfl) rfl rfl).trans (hX 6 (dep_at hdep 6 rfl))) (H7.out.2.2.1.on (hw1 hSi)) (by rw [Im.cs_len]; exact HND.out.2.1) rfl rfl size_i ?_
                intro w9 hw hr
                rw [Im.cs_put z _ HCC.out] at hr
                refine Step.turn hr rfl ⟨hI.1.wr hw HNE.out.1, hI.2.1.wr hw HNE.out.2.1, ⟨hw.1.trans hI.2.2.os, hw.2.1.trans hI.2.2.tape, hw.2.2.1.trans hI.2.2.output, Nat.le_trans hI.2.2.size (Nat.le_of_eq hw.2.2.2.1.symm), fun k hk hne => (hw.2.2.2.2 k fun e => hne (by rw [e])).trans (hI.2.2.block k hk hne)⟩⟩ ?_
                intro j hj
                match j, hj with
                | 0, hj => exact hX 0 hj
                | 1, hj => exact hX 1 hj
                | 2, hj => exact hX 2 hj
                | 3, hj => exact hX 3 hj
                | 4, hj => exact hX 4 hj
                | 5, hj => exact hX 5 hj
                | 6, hj => exact hX 6 hj
                | 7, hj => exact hX 7 hj
                | 8, hj => exact hX 8 hj
                | 9, hj => rw [hSi] at hj; cases hj
                | _ + 10, _ => trivial
            · intro v c hI hX
              simp only [putAll, Act.put]
              simp
              have HE := Lib.hid (show RowV c b (z.put cc ((numL vv : Nat) : Int)).cs ∧ w.grownBy c (some b) from ⟨hX 9 (by decide), hI.2.2⟩)
              clear hI hX
              go_wp2
              go_roundw
              case rel => exact ⟨j + 1, by omega, by first | rfl | go_num, Lib.hid ⟨_, HE.out.1, HNX.out, HE.out.2⟩⟩
              case measure => simp [intOf]; omega
          · have d1 : (tg != tt) = false := by simpa using ht
            have d2 : ((nv : Int) != (ss : Int)) = true := by simp; omega
            have HNX := Lib.hid (show numT x l f = none from by rw [← HR.out.2.1, HST.out, if_neg (fun h => hv h.2)])
            clear ht hv
            go_wp2_with (first
              | ((with_reducible refine at_load_ (d := 19) ?_); refine wpList_load_mid rfl 98 (.tmp 18) rfl b5 (o5 + j * 3) rfl [.int .i64 tt, .int .i64 (ss : Int), .pointer (some ⟨b, cc, none⟩)] _ (HRG.out.1 _ HR.out.2.2) Tryd.underlying98 rfl size_m ?_)
              | ((with_reducible refine at_alloc_ (d := 6) ?_); refine wpList_alloc_v (op := ⟨some 6, _, _, _, _, _⟩) rfl 98 rfl zerM info_m ?_; intro g6 wa hf hr; have HG6 := Lib.hid (show RowV wa g6 zerM ∧ wr.heap.size ≤ g6 from ⟨hr, Nat.le_of_eq hf.1.symm⟩); have HF6 := Lib.hid hf; clear hf hr)
              | ((with_reducible refine at_store_ (i := 6) ?_); refine wpList_store_v rfl 98 (.tmp 6) (.tmp 19) rfl g6 zerM [.int .i64 tt, .int .i64 (ss : Int), .pointer (some ⟨b, cc, none⟩)] rfl rfl HG6.out.1 rfl (Ncs_one b [(tt, ss, cc)]) size_m ?_; intro w6 hw hr; have H6 := Lib.hid (show Below wr.heap.size wr w6 ∧ RowV w6 g6 [.int .i64 tt, .int .i64 (ss : Int), .pointer (some ⟨b, cc, none⟩)] ∧ w.grownBy w6 (some b) from ⟨HF6.out.wr_bl hw, hr, grown_trans HR.out.2.2 (grown_below (HF6.out.wr_bl hw))⟩); clear hw hr)
              | ((with_reducible refine at_load_ (d := 23) ?_); refine wpList_load_mid rfl 54 (.tmp 22) rfl bo (oo + j * 3) rfl us _ (HRG.out.2 _ H6.out.2.2) Tryd.underlying54 rfl (by rw [HU.out.1]; exact size_n) ?_)
              | ((with_reducible refine at_alloc_ (d := 7) ?_); refine wpList_alloc_v (op := ⟨some 7, _, _, _, _, _⟩) rfl 54 rfl zerN info_n ?_; intro g7 wb hf hr; have HG7 := Lib.hid (show RowV wb g7 zerN ∧ w6.heap.size ≤ g7 ∧ wr.heap.size ≤ g7 from ⟨hr, Nat.le_of_eq hf.1.symm, Nat.le_trans H6.out.1.size (Nat.le_of_eq hf.1.symm)⟩); have HF7 := Lib.hid hf; clear hf hr)
              | ((with_reducible refine at_store_ (i := 7) ?_); refine wpList_store_v rfl 54 (.tmp 7) (.tmp 23) rfl g7 zerN us rfl rfl HG7.out.1 (by rw [HU.out.1]; rfl) HU.out.2.1 (by rw [HU.out.1]; exact size_n) ?_; intro w7 hw hr; have H7 := Lib.hid (show RowV w7 g6 [.int .i64 tt, .int .i64 (ss : Int), .pointer (some ⟨b, cc, none⟩)] ∧ RowV w7 g7 us ∧ RowV w7 b z.cs ∧ w.grownBy w7 (some b) from ⟨H6.out.2.1.on (HF7.out.wr_bl hw), hr, (HR.out.1.on H6.out.1).on (HF7.out.wr_bl hw), grown_trans H6.out.2.2 (grown_below (HF7.out.wr_bl hw))⟩); have c0 := (hr.cell 0).trans HU.out.2.2.1; have c1 := (hr.cell 1).trans HU.out.2.2.2; have e0 := (H7.out.1.cell 0).trans (show [Value.int .i64 tt, .int .i64 (ss : Int), .pointer (some ⟨b, cc, none⟩)][0]? = some (.int .i64 tt) from rfl); have e1 := (H7.out.1.cell 1).trans (show [Value.int .i64 tt, .int .i64 (ss : Int), .pointer (some ⟨b, cc, none⟩)][1]? = some (.int .i64 (ss : Int)) from rfl); clear hw hr))
            go_ret
            exact ⟨z, by rw [HNX.out]; rfl, H7.out.2.2.1, (fun y h => by rw [HNX.out] at h; cases h), H7.out.2.2.2⟩
        · have d1 : (tg != tt) = true := by simpa using ht
          have HNX := Lib.hid (show numT x l f = none from by rw [← HR.out.2.1, HST.out, if_neg (fun h => ht h.1)])
          clear ht
          go_wp2_with (first
              | ((with_reducible refine at_load_ (d := 19) ?_); refine wpList_load_mid rfl 98 (.tmp 18) rfl b5 (o5 + j * 3) rfl [.int .i64 tt, .int .i64 (ss : Int), .pointer (some ⟨b, cc, none⟩)] _ (HRG.out.1 _ HR.out.2.2) Tryd.underlying98 rfl size_m ?_)
              | ((with_reducible refine at_alloc_ (d := 6) ?_); refine wpList_alloc_v (op := ⟨some 6, _, _, _, _, _⟩) rfl 98 rfl zerM info_m ?_; intro g6 wa hf hr; have HG6 := Lib.hid (show RowV wa g6 zerM ∧ wr.heap.size ≤ g6 from ⟨hr, Nat.le_of_eq hf.1.symm⟩); have HF6 := Lib.hid hf; clear hf hr)
              | ((with_reducible refine at_store_ (i := 6) ?_); refine wpList_store_v rfl 98 (.tmp 6) (.tmp 19) rfl g6 zerM [.int .i64 tt, .int .i64 (ss : Int), .pointer (some ⟨b, cc, none⟩)] rfl rfl HG6.out.1 rfl (Ncs_one b [(tt, ss, cc)]) size_m ?_; intro w6 hw hr; have H6 := Lib.hid (show Below wr.heap.size wr w6 ∧ RowV w6 g6 [.int .i64 tt, .int .i64 (ss : Int), .pointer (some ⟨b, cc, none⟩)] ∧ w.grownBy w6 (some b) from ⟨HF6.out.wr_bl hw, hr, grown_trans HR.out.2.2 (grown_below (HF6.out.wr_bl hw))⟩); clear hw hr)
              | ((with_reducible refine at_load_ (d := 23) ?_); refine wpList_load_mid rfl 54 (.tmp 22) rfl bo (oo + j * 3) rfl us _ (HRG.out.2 _ H6.out.2.2) Tryd.underlying54 rfl (by rw [HU.out.1]; exact size_n) ?_)
              | ((with_reducible refine at_alloc_ (d := 7) ?_); refine wpList_alloc_v (op := ⟨some 7, _, _, _, _, _⟩) rfl 54 rfl zerN info_n ?_; intro g7 wb hf hr; have HG7 := Lib.hid (show RowV wb g7 zerN ∧ w6.heap.size ≤ g7 ∧ wr.heap.size ≤ g7 from ⟨hr, Nat.le_of_eq hf.1.symm, Nat.le_trans H6.out.1.size (Nat.le_of_eq hf.1.symm)⟩); have HF7 := Lib.hid hf; clear hf hr)
              | ((with_reducible refine at_store_ (i := 7) ?_); refine wpList_store_v rfl 54 (.tmp 7) (.tmp 23) rfl g7 zerN us rfl rfl HG7.out.1 (by rw [HU.out.1]; rfl) HU.out.2.1 (by rw [HU.out.1]; exact size_n) ?_; intro w7 hw hr; have H7 := Lib.hid (show RowV w7 g6 [.int .i64 tt, .int .i64 (ss : Int), .pointer (some ⟨b, cc, none⟩)] ∧ RowV w7 g7 us ∧ RowV w7 b z.cs ∧ w.grownBy w7 (some b) from ⟨H6.out.2.1.on (HF7.out.wr_bl hw), hr, (HR.out.1.on H6.out.1).on (HF7.out.wr_bl hw), grown_trans H6.out.2.2 (grown_below (HF7.out.wr_bl hw))⟩); have c0 := (hr.cell 0).trans HU.out.2.2.1; have c1 := (hr.cell 1).trans HU.out.2.2.2; have e0 := (H7.out.1.cell 0).trans (show [Value.int .i64 tt, .int .i64 (ss : Int), .pointer (some ⟨b, cc, none⟩)][0]? = some (.int .i64 tt) from rfl); have e1 := (H7.out.1.cell 1).trans (show [Value.int .i64 tt, .int .i64 (ss : Int), .pointer (some ⟨b, cc, none⟩)][1]? = some (.int .i64 (ss : Int)) from rfl); clear hw hr))
          go_ret
          exact ⟨z, by rw [HNX.out]; rfl, H7.out.2.2.1, (fun y h => by rw [HNX.out] at h; cases h), H7.out.2.2.2⟩
      · obtain rfl : j = m := by omega
        have dj : decide ((j : Int) < (j : Int)) = false := by simp
        have HNX := Lib.hid (show numT x l f = some z from by
          rw [← HR.out.2.1, List.drop_of_length_le (by rw [HL.out.1]; exact Nat.le_refl _), show f.drop j = .nil from by rw [← HL.out.2]; exact F.drop_all f]
          rfl)
        have HE := Lib.hid (show _ ∧ _ from ⟨HR.out.1, HR.out.2.2⟩)
        clear HR
        go_wp2
        go_ret
        exact ⟨z, by rw [HNX.out]; rfl, HE.out.1, (fun y h => by rw [HNX.out] at h; injection h), HE.out.2⟩
  · have d0 : ((m : Int) != (n : Int)) = true := by simp; omega
    have HNX := Lib.hid (show numT x l f = none from by
      rcases h : numT x l f with _ | y
      · rfl
      · have := numT_len h
        omega)
    have HB := Lib.hid hb
    clear ho ha hl hm hlc hb hmn
    go_enter Tryd.func83, Tryd.ntmps83
    go_wp2
    go_ret
    exact ⟨x, by rw [HNX.out]; rfl, HB.out, (fun y h => by rw [HNX.out] at h; cases h), World.grownBy.refl _ _⟩
end Go.Proofs.YtcapbojjceeapaaDoor
