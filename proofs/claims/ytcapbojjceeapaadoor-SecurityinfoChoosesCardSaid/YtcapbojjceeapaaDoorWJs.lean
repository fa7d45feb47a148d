/-
  What is proved here: infos read out of objects, and Decode, by the program.
-/
import Derived.Test.YtcapbojjceeapaaDoorWJq
import Derived.Test.YtcapbojjceeapaaDoorWG10
import Derived.Test.YtcapbojjceeapaaDoorWFit
namespace Go.Proofs.YtcapbojjceeapaaDoor
open Go.RowKit
set_option maxRecDepth 8000
set_option linter.unusedVariables false
set_option linter.unusedSimpArgs false
theorem info_inf : (Tryd.prog.info? 44).map (fun i => (i.zero, i.size, i.bytes)) = some (some (.agg zerX.toArray), 5, 40) := by kernel_rfl
theorem bsx (x : Im) : Tryd.prog.builtSlice 44 1 [(0, .agg x.cs.toArray)] = some x.cs.toArray := by kernel_rfl
def HeldI (w wr : World) (v : Value) (L : List Im) : Prop := wr.ownsRow w.heap.size 44 5 v L.length (Ics L)
theorem HeldI.start (w wr : World) : HeldI w wr (.slice none 0 0) [] := ⟨rfl, .inl ⟨rfl, rfl⟩⟩
theorem HeldI.on {w wr w' : World} {v : Value} {L : List Im} (h : HeldI w wr v L) (hb : Below wr.heap.size wr w') : HeldI w w' v L := own3_on h hb
theorem HeldI.slice {w wr : World} {v : Value} {L : List Im} (h : HeldI w wr v L) : ∃ A c, v = .slice A L.length c ∧ ((A = none → c = 0) ∧ L.length ≤ c) ∧ SeesP wr (newB w wr) A (Ics L) := by
  rcases h.2 with ⟨rfl, h0⟩ | ⟨g, cap, cur, rfl, hb, hh, hn, hm, hs, ht⟩
  · have : L = [] := List.eq_nil_of_length_eq_zero h0
    subst this
    exact ⟨none, 0, rfl, ⟨fun _ => rfl, Nat.le_refl _⟩, .inl rfl⟩
  · refine ⟨_, cap, rfl, ⟨fun h => (by cases h), hn⟩, .inr ⟨g, 0, rfl, ⟨hb, lt_of_block hh⟩, fun j hj => ?_⟩⟩
    have hl := h.1
    rw [Nat.zero_add, cell_of_row wr g j cur _ (0, 0) hh, ← ht, List.getElem?_take, if_pos (by omega), Array.getElem?_toList]
theorem F.drop_size : ∀ (f : F) (j : Nat), (f.drop j).size ≤ f.size
  | f, 0 => by cases f <;> exact Nat.le_refl _
  | .nil, j + 1 => Nat.le_refl _
  | .cons t v k r, j + 1 => by
    have h := F.drop_size r j
    have e : (F.cons t v k r).drop (j + 1) = r.drop j := rfl
    rw [e]
    simp only [F.size]
    omega
theorem infsT_step {k r : F} {j : Nat} {t : Int} {v : List UInt8} {kk : F} (h : k.drop j = .cons t v kk r) : infsT (k.drop j) = match infT t kk with
    | none => none
    | some x => (infsT (k.drop (j + 1))).map (x :: ·) := by
  rw [F.drop_next h, h]
  rfl
theorem lstI_no {t : Int} {v : List UInt8} {k r : F} (h : t ≠ 49 ∨ r.len ≠ 0) : lstI (.cons t v k r) = none := by
  match r with
  | .nil =>
    rcases h with h | h
    · show (if t = 49 then infsT k else none) = none
      rw [if_neg h]
    · exact absurd rfl h
  | .cons _ _ _ _ => rfl
theorem lstI_len {f : F} (h : f.len ≠ 1) : lstI f = none := by
  match f with
  | .nil => rfl
  | .cons t v k r => exact lstI_no (.inr (by simp only [F.len] at h; omega))
theorem lstI_yes {t : Int} {v : List UInt8} {k : F} (h : t = 49) : lstI (.cons t v k .nil) = infsT k := by
  show (if t = 49 then infsT k else none) = _
  rw [if_pos h]
def LiIs (o : Option (List Im)) (w : World) (e : Ending) (w' : World) : Prop := (o = none → e = .returned (.tuple #[.slice none 0 0, .bool false])) ∧ (∀ L, o = some L → ∃ A c, e = .returned (.tuple #[.slice A L.length c, .bool true]) ∧ ((A = none → c = 0) ∧ L.length ≤ c) ∧ SeesP w' (newB w w') A (Ics L)) ∧ Below w.heap.size w w'
theorem LiIs.bad {o : Option (List Im)} {w w' : World} (h : o = none) (hb : Below w.heap.size w w') : LiIs o w (.returned (.tuple #[.slice none 0 0, .bool false])) w' :=
  ⟨fun _ => rfl, fun L hL => (by rw [h] at hL; cases hL), hb⟩
set_option maxHeartbeats 6400000 in
set_option maxRecDepth 20000 in
theorem p_open_list (f : F) (n : Nat) (hn : f.len = n) (hm : f.size ≤ 256) (A : Option Addr) (c : Nat) (w : World) (hs : SeesN w (· < w.heap.size) A f) (ht : TabX w) :
    Calls Tryd.prog 33 #[.slice A n c] w (LiIs (lstI f) w) := by
  by_cases h1 : n = 1
  case neg =>
    have d1 : ((n : Int) != 1) = true := by simp; omega
    have HN := Lib.hid (lstI_len (f := f) (by omega))
    clear hs hn hm ht h1
    go_enter Tryd.func33, Tryd.ntmps33
    go_wp2
    go_ret2
    exact LiIs.bad HN.out (Below.refl _ _)
  case pos =>
  subst h1
  obtain ⟨t, v, k, rfl⟩ : ∃ t v k, f = .cons t v k .nil := by
    match f, hn with
    | .cons a b d .nil, _ => exact ⟨a, b, d, rfl⟩
    | .cons a b d (.cons _ _ _ _), h => simp [F.len] at h
  obtain ⟨lb, lo, Av, cv, Ak, ck, rfl, hlb, hlr, _, _, hkc, _, hk⟩ := node_atN (j := 0) hs rfl
  rw [Nat.zero_mul, Nat.add_zero] at hlr
  have c0 : w.cell? ⟨lb, lo, none⟩ = some (.int .i64 t) := hlr 0 _ rfl
  by_cases h49 : t = 49
  case neg =>
    have d1 : (t != 49) = true := by simpa using h49
    have HN := Lib.hid (lstI_no (t := t) (v := v) (k := k) (r := .nil) (.inl h49))
    clear hs hn hm ht h49 hlb hlr hkc hk
    go_enter Tryd.func33, Tryd.ntmps33
    go_wp2
    go_ret2
    exact LiIs.bad HN.out (Below.refl _ _)
  case pos =>
  have d1 : (t != 49) = false := by simpa using h49
  obtain ⟨m, hm2⟩ : ∃ m, k.len = m := ⟨_, rfl⟩
  have hmb : m ≤ 256 := by
    have := F.len_le_size k
    simp only [F.size] at hm
    omega
  have c2 : w.cell? ⟨lb, lo + 2, none⟩ = some (.slice Ak m ck) := by rw [← hm2]; exact hlr 2 _ rfl
  have hls := lstI_yes (v := v) (k := k) h49
  have hksz : k.size ≤ 256 := by simp only [F.size] at hm; omega
  rw [hls]
  have HK := Lib.hid (show SeesN w (· < w.heap.size) Ak k ∧ k.len = m ∧ k.size ≤ 256 from ⟨hk, hm2, hksz⟩)
  have HT := Lib.hid ht
  obtain ⟨i0, hi, hz0, hz1, hz2⟩ := info_parts info_inf
  clear hs hn hm ht h49 hlb hlr hkc hk hls hm2 hksz
  go_enter Tryd.func33, Tryd.ntmps33
  go_wp2
  go_loopw [4, 24] (fun vN i wr => ∃ (j : Nat), j ≤ m ∧ i = .int .i64 (j : Int) ∧ Hid (∃ L, L.length = j ∧ HeldI w wr vN L ∧ Below w.heap.size w wr ∧ infsT k = (infsT (k.drop j)).map (L ++ ·))) (fun _ i _ => m - (intOf i).toNat)
  case atStart => exact ⟨0, by omega, rfl, Lib.hid ⟨[], rfl, HeldI.start _ _, Below.refl _ _, by have e : k.drop 0 = k := (by cases k <;> rfl); rw [e]; cases infsT k <;> rfl⟩⟩
  case round =>
    obtain ⟨j, hj, rfl, HR0⟩ := hrel
    obtain ⟨L, hR0⟩ := HR0.out
    have HR := Lib.hid hR0
    clear HR0 hR0
    by_cases hlt : j < m
    · have dj : decide ((j : Int) < (m : Int)) = true := by simp; omega
      obtain ⟨tk, vk, kk, hfo⟩ := F.drop_cons (f := k) (j := j) (by rw [HK.out.2.1]; exact hlt)
      obtain ⟨bo, oo, A2, cv2, Ak2, ck2, rfl, hbo, hro, hv0, hv1, hk1, hsv, hkk⟩ := node_atN HK.out.1 hfo
      have hstep := infsT_step hfo
      have hkl : kk.len ≤ 256 := by
        have h1 := F.len_le_size kk
        have h2 : (k.drop j).size ≤ k.size := F.drop_size k j
        rw [hfo] at h2
        simp only [F.size] at h2
        have := HK.out.2.2
        omega
      have hopen := fun w0 (hb : Below w.heap.size w w0) => p_open_info tk A2 vk.length cv2 kk kk.len rfl (by omega) Ak2 ck2 hk1 w0 (hkk.on hb) (HT.out.on hb)
      obtain ⟨us, hus⟩ : ∃ us, nodV tk A2 vk.length cv2 Ak2 kk.len ck2 = us := ⟨_, rfl⟩
      have hu1 : ∀ u ∈ us, u.oneCell' = true := by rw [← hus]; exact nodV_one _ _ _ _ _ _ _
      have HU := Lib.hid (show us.length = 3 ∧ (∀ u ∈ us, u.oneCell' = true) from ⟨by rw [← hus]; rfl, hu1⟩)
      rw [hus] at hro hopen
      obtain ⟨o, hoo⟩ : ∃ o, infT tk kk = o := ⟨_, rfl⟩
      rw [hoo] at hstep hopen
      have HRG := Lib.hid (show (∀ cur, Below w.heap.size w cur → cur.rangeAt bo (oo + j * 3) us) ∧ _ from ⟨fun cur h => rangeAt_on hro hbo h, hopen⟩)
      have HST := Lib.hid hstep
      clear hro hopen hstep hfo hus hu1 hoo hbo hv0 hv1 hk1 hsv hkk
      rcases o with _ | x
      · have HN := Lib.hid (show infsT k = none from by rw [HR.out.2.2.2, HST.out]; rfl)
        go_wp2_with (first
          | ((with_reducible refine at_load_ (d := 27) ?_); refine wpList_load_mid rfl 54 (.tmp 26) rfl bo (oo + j * 3) rfl us _ (HRG.out.1 _ HR.out.2.2.1) Tryd.underlying54 rfl (by rw [HU.out.1]; exact size_n) ?_)
          | ((with_reducible refine at_alloc_ (d := 6) ?_); refine wpList_alloc_v (op := ⟨some 6, _, _, _, _, _⟩) rfl 54 rfl zerN info_n ?_; intro g6 wa hf hr; have HG6 := Lib.hid (show _ ∧ _ ∧ _ from ⟨hf.bl HR.out.2.2.1, hr, hf.ge HR.out.2.2.1⟩); clear hf hr)
          | ((with_reducible refine at_store_ (i := 6) ?_); refine wpList_store_v rfl 54 (.tmp 6) (.tmp 27) rfl g6 zerN us rfl rfl HG6.out.2.1 (by rw [HU.out.1]; rfl) HU.out.2 (by rw [HU.out.1]; exact size_n) ?_; intro wb hw hr; have H6 := Lib.hid (show _ ∧ _ from ⟨Wr.bl HG6.out.1 hw HG6.out.2.2, hr⟩); clear hw hr)
          | ((with_reducible refine at_load_ (d := 29) ?_); refine wpList_load_v rfl 54 (.tmp 6) rfl g6 rfl us _ H6.out.2 Tryd.underlying54 rfl (by rw [HU.out.1]; exact size_n) ?_)
          | (go_at_call 55; ((with_reducible refine (HRG.out.2 _ H6.out.1).mono ?_); rintro e wc ⟨z, rfl, hz, hb⟩); have H7 := Lib.hid (below_on H6.out.1 hb); clear hz hb)
          | ((with_reducible refine at_alloc_ (d := 7) ?_); refine wpList_alloc_v (op := ⟨some 7, _, _, _, _, _⟩) rfl 44 rfl zerX info_x ?_; intro g7 wd hf hr; have HG7 := Lib.hid (show _ ∧ _ ∧ _ from ⟨hf.bl H7.out, hr, hf.ge H7.out⟩); clear hf hr)
          | ((with_reducible refine at_store_ (i := 7) ?_); refine wpList_store_v rfl 44 (.tmp 7) (.tmp 31) rfl g7 zerX z.cs rfl rfl HG7.out.2.1 rfl (Im.cs_one _) size_x ?_; intro we hw hr; have H8 := Lib.hid (show _ ∧ _ from ⟨Wr.bl HG7.out.1 hw HG7.out.2.2, hr⟩); clear hw hr))
        go_ret2
        exact LiIs.bad HN.out H8.out.1
      · have HN := Lib.hid (show infsT k = (infsT (k.drop (j + 1))).map ((L ++ [x]) ++ ·) from by
          rw [HR.out.2.2.2, HST.out]
          cases infsT (k.drop (j + 1)) with
          | none => rfl
          | some q => simp)
        go_wp2_with (first
          | ((with_reducible refine at_load_ (d := 27) ?_); refine wpList_load_mid rfl 54 (.tmp 26) rfl bo (oo + j * 3) rfl us _ (HRG.out.1 _ HR.out.2.2.1) Tryd.underlying54 rfl (by rw [HU.out.1]; exact size_n) ?_)
          | ((with_reducible refine at_alloc_ (d := 6) ?_); refine wpList_alloc_v (op := ⟨some 6, _, _, _, _, _⟩) rfl 54 rfl zerN info_n ?_; intro g6 wa hf hr; have HG6 := Lib.hid (show _ ∧ _ from ⟨hf, hr⟩); clear hf hr)
          | ((with_reducible refine at_store_ (i := 6) ?_); refine wpList_store_v rfl 54 (.tmp 6) (.tmp 27) rfl g6 zerN us rfl rfl HG6.out.2 (by rw [HU.out.1]; rfl) HU.out.2 (by rw [HU.out.1]; exact size_n) ?_; intro wb hw hr; have H6 := Lib.hid (show Below wr.heap.size wr wb ∧ _ from ⟨HG6.out.1.wr_bl hw, hr⟩); clear hw hr)
          | ((with_reducible refine at_load_ (d := 29) ?_); refine wpList_load_v rfl 54 (.tmp 6) rfl g6 rfl us _ H6.out.2 Tryd.underlying54 rfl (by rw [HU.out.1]; exact size_n) ?_)
          | (go_at_call 55; ((with_reducible refine (HRG.out.2 _ (below_on HR.out.2.2.1 H6.out.1)).mono ?_); rintro e wc ⟨z, rfl, hz, hb⟩); have HZ := hz x rfl; subst HZ; have H7 := Lib.hid (below_on H6.out.1 hb); clear hz hb)
          | ((with_reducible refine at_alloc_ (d := 7) ?_); refine wpList_alloc_v (op := ⟨some 7, _, _, _, _, _⟩) rfl 44 rfl zerX info_x ?_; intro g7 wd hf hr; have HG7 := Lib.hid (show _ ∧ _ ∧ _ from ⟨hf.bl H7.out, hr, hf.ge H7.out⟩); clear hf hr)
          | ((with_reducible refine at_store_ (i := 7) ?_); refine wpList_store_v rfl 44 (.tmp 7) (.tmp 31) rfl g7 zerX z.cs rfl rfl HG7.out.2.1 rfl (Im.cs_one _) size_x ?_; intro we hw hr; have H8 := Lib.hid (show Below wr.heap.size wr we ∧ RowV we g7 z.cs from ⟨Wr.bl HG7.out.1 hw HG7.out.2.2, hr⟩); clear hw hr)
          | ((with_reducible refine at_load_ (d := 36) ?_); refine wpList_load_v rfl 44 (.tmp 7) rfl g7 rfl z.cs _ H8.out.2 Tryd.underlying44 rfl (by rw [Im.cs_len]; exact size_x) ?_)
          | ((with_reducible refine at_any_ (d := 37) ?_); go_must (refine wpList_bslV rfl 22 44 1 _ rfl Tryd.underlying22 (pe1 rfl) (bsx _) ?_); intro g9 wf hf hr; have H9 := Lib.hid (show Below wr.heap.size wr wf ∧ RowV wf g9 z.cs from ⟨below_on H8.out.1 hf.bw, hr⟩); clear hf hr)
          | ((with_reducible refine at_call_ (d := 38) ?_); have HO := HR.out.2.1; unfold HeldI at HO; rw [HR.out.1] at HO; go_must (refine wpList_append_lies _ rfl (.tmp 35) (.tmp 37) 22 rfl w.heap.size 44 i0 _ 5 40 Tryd.underlying22 hi hz0 hz1 hz2 rfl (by decide) u4 j (Ics L) rfl (own3_on HO H9.out.1) ⟨g9, 0, none⟩ 1 1 z.cs rfl rfl (RowV.src H9.out.2) (Im.cs_one _) (by decide) (by unfold maxLen; omega) (by omega) (Nat.le_trans HR.out.2.2.1.size H9.out.1.size) _ rfl ?_); intro g10 c10 wg ho hg hl hltg; have H10 := Lib.hid (show wg.ownsRow w.heap.size 44 5 (.slice (some ⟨g10, 0, none⟩) (j + 1) c10) (j + 1) (Ics (L ++ [z])) ∧ Below w.heap.size w wg from ⟨by rw [Ics_snoc]; exact ho, row_below (below_on HR.out.2.2.1 H9.out.1) hg fun k e => (own_lt3 HO k e).1⟩); clear ho hg hl hltg HO))
        go_roundw
        case rel => exact ⟨j + 1, by omega, by first | rfl | go_num, Lib.hid ⟨L ++ [z], by rw [List.length_append, HR.out.1]; rfl, by unfold HeldI; rw [List.length_append, HR.out.1]; exact H10.out.1, H10.out.2, HN.out⟩⟩
        case measure => simp [intOf]; omega
    · obtain rfl : j = m := by omega
      have dj : decide ((j : Int) < (j : Int)) = false := by simp
      have hall : infsT k = some L := by
        rw [HR.out.2.2.2, show k.drop j = .nil from by rw [← HK.out.2.1]; exact F.drop_all k]
        show some (L ++ []) = _
        rw [List.append_nil]
      obtain ⟨Al, cl, rfl, hcl, hsl⟩ := HeldI.slice HR.out.2.1
      have HD := Lib.hid (show LiIs (infsT k) w (.returned (.tuple #[.slice Al L.length cl, .bool true])) wr from ⟨fun h => (by rw [hall] at h; cases h), fun L' h => (by rw [hall] at h; injection h with h; subst h; exact ⟨Al, cl, rfl, hcl, hsl⟩), HR.out.2.2.1⟩)
      clear hall hcl hsl HR
      go_wp2
      go_ret2
      exact HD.out
def DeIs (r : Except Int (F × Nat)) (w : World) (e : Ending) (w' : World) : Prop := ∃ A c, e = .returned (.tuple #[.slice A (deL r).length c, .int .i64 (deE r)]) ∧ ((A = none → c = 0) ∧ (deL r).length ≤ c) ∧ SeesP w' (newB w w') A (Ics (deL r)) ∧ Below w.heap.size w w'
theorem DeIs.bad {r : Except Int (F × Nat)} {w w' : World} {x : Int} (h1 : deL r = []) (h2 : deE r = x) (hb : Below w.heap.size w w') : DeIs r w (.returned (.tuple #[.slice none 0 0, .int .i64 x])) w' :=
  ⟨none, 0, by rw [h1, h2]; rfl, ⟨fun _ => rfl, by rw [h1]; exact Nat.le_refl _⟩, by rw [h1]; exact .inl rfl, hb⟩
set_option maxHeartbeats 3200000 in
theorem p_decode (b : List UInt8) (n : Nat) (hn : b.length = n) (hm : n ≤ 140737488351232) (A : Option Addr) (c : Nat) (hc : n ≤ c) (w : World) (hs : SeesP w (· < w.heap.size) A (Us b)) (ht : TabX w) :
    Calls Tryd.prog 10 #[.slice A n c] w (DeIs (parse true b) w) := by
  have hp := tlv_parseC true b A c w (by omega) (by omega) hs
  rw [hn] at hp
  have hfit := fun (f : F) (q : Nat) (h : parse true b = .ok (f, q)) => parse_fits h
  obtain ⟨r, hr⟩ : ∃ r, parse true b = r := ⟨_, rfl⟩
  rw [hr] at hp hfit ⊢
  have HP := Lib.hid hp
  have HT := Lib.hid ht
  clear hp hr hs hn hc ht
  go_enter Tryd.func10, Tryd.ntmps10
  go_wp2_with fail
  refine HP.out.mono ?_
  rintro e w1 ⟨hb, hres⟩
  cases r with
  | error x =>
    obtain ⟨rfl, hx⟩ := hres
    have d0 : (x != 0) = true := by simpa using hx
    have HD := Lib.hid (show DeIs (.error x) w (.returned (.tuple #[.slice none 0 0, .int .i64 x])) w1 from DeIs.bad rfl rfl hb)
    clear hx hb
    go_wp2_with fail
    go_ret2
    exact HD.out
  | ok q =>
    obtain ⟨f, q2⟩ := q
    obtain ⟨A2, c2, rfl, hcs⟩ := hres
    have hsz := (hfit f q2 rfl).2
    obtain ⟨n2, hn2⟩ : ∃ n, f.len = n := ⟨_, rfl⟩
    rw [hn2]
    have HL := Lib.hid (p_open_list f n2 hn2 hsz A2 c2 w1 (hcs.2.imp fun b hb => hb.2) (HT.out.on hb))
    have HB := Lib.hid hb
    obtain ⟨o, ho⟩ : ∃ o, lstI f = o := ⟨_, rfl⟩
    have HE := Lib.hid (show (o = none → deL (.ok (f, q2)) = [] ∧ deE (.ok (f, q2)) = 1) ∧ (∀ L, o = some L → deL (.ok (f, q2)) = (if vaE L = 0 then L else []) ∧ deE (.ok (f, q2)) = vaE L ∧ L.length ≤ 256) from by
      have e1 : deL (.ok (f, q2)) = match lstI f with
        | none => []
        | some l => if vaE l = 0 then l else [] := rfl
      have e2 : deE (.ok (f, q2)) = match lstI f with
        | none => 1
        | some l => vaE l := rfl
      rw [e1, e2, ho]
      refine ⟨fun h => (by subst h; exact ⟨rfl, rfl⟩), fun L h => ?_⟩
      subst h
      refine ⟨rfl, rfl, ?_⟩
      match f, ho with
      | .cons t v k .nil, ho =>
        have ho : (if t = 49 then infsT k else none) = some L := ho
        split at ho
        · have h1 := infsT_len ho
          have h2 := F.len_le_size k
          simp only [F.size] at hsz
          omega
        · cases ho)
    rw [ho] at HL
    clear hcs hsz hn2 hb hfit ho
    go_wp2_with fail
    refine HL.out.mono ?_
    rintro e w2 ⟨k1, k2, hb2⟩
    rcases o with _ | L
    · have e1 := k1 rfl
      subst e1
      have HD := Lib.hid (show DeIs (.ok (f, q2)) w (.returned (.tuple #[.slice none 0 0, .int .i64 1])) w2 from DeIs.bad (HE.out.1 rfl).1 (HE.out.1 rfl).2 (below_on HB.out hb2))
      clear k1 k2 hb2
      go_wp2_with fail
      go_ret2
      exact HD.out
    · obtain ⟨A3, c3, rfl, k3, k4⟩ := k2 L rfl
      obtain ⟨e1, e2, e3⟩ := HE.out.2 L rfl
      obtain ⟨m, hm3⟩ : ∃ m, L.length = m := ⟨_, rfl⟩
      have hval := p_valid L m hm3 (by omega) A3 c3 w2 (k4.imp fun b hb => hb.2)
      obtain ⟨v, hv⟩ : ∃ v, vaE L = v := ⟨_, rfl⟩
      rw [hv] at hval e1 e2
      have HV := Lib.hid hval
      by_cases h0 : v = 0
      · rw [if_pos h0] at e1
        have HD := Lib.hid (show ∀ w3, Below w2.heap.size w2 w3 → DeIs (.ok (f, q2)) w (.returned (.tuple #[.slice A3 m c3, .int .i64 0])) w3 from fun w3 hb3 => by
          unfold DeIs
          rw [e1, e2, h0, hm3]
          exact ⟨A3, c3, rfl, by rw [← hm3]; exact k3, (k4.newOn hb3).imp fun b hb => newB_imp hb HB.out.size (Nat.le_refl _), below_on (below_on HB.out hb2) hb3⟩)
        rw [hm3]
        subst h0
        clear k1 k2 hb2 e1 e2 e3 hm3 hval hv k3 k4
        go_wp2_with (go_at_call 13; ((with_reducible refine HV.out.mono ?_); rintro e w3 ⟨rfl, hb⟩); have H3 := Lib.hid hb; clear hb)
        go_ret2
        exact HD.out _ H3.out
      · rw [if_neg h0] at e1
        have d0 : (v != 0) = true := by simpa using h0
        have HD := Lib.hid (show ∀ w3, Below w2.heap.size w2 w3 → DeIs (.ok (f, q2)) w (.returned (.tuple #[.slice none 0 0, .int .i64 v])) w3 from fun w3 hb3 => DeIs.bad e1 e2 (below_on (below_on HB.out hb2) hb3))
        rw [hm3]
        clear k1 k2 hb2 e1 e2 e3 hm3 hval hv k3 k4 h0
        go_wp2_with (go_at_call 13; ((with_reducible refine HV.out.mono ?_); rintro e w3 ⟨rfl, hb⟩); have H3 := Lib.hid hb; clear hb)
        go_ret2
        exact HD.out _ H3.out
end Go.Proofs.YtcapbojjceeapaaDoor
