/-
  What is proved here: what the reference's list, Parse, Size and Canonical return, and the program's Canonical, for bytes that lie in memory.
-/
import Derived.Test.YtmkggpgpiepjfaaDoorZRLs
import Derived.Test.YtmkggpgpiepjfaaDoorZFit
import Derived.Test.YtmkggpgpiepjfaaDoorZG9
import Derived.Test.YtmkggpgpiepjfaaDoorZG4
import Derived.Test.YtmkggpgpiepjfaaDoorZJt
namespace Go.Proofs.YtmkggpgpiepjfaaDoor
open Go.RowKit
set_option maxRecDepth 8000
set_option linter.unusedVariables false
theorem ref_list_all (st : Bool) : ∀ k, k ≤ 8 → RAll st k
  | 0, _ => ref_list_step st 0 (by decide) (fun j h => by omega)
  | k + 1, hk => ref_list_step st (k + 1) hk (fun j h => by
    have : j = k := by omega
    subst this
    exact ref_list_all st j (by omega))
theorem ref_parse (st : Bool) (l : List UInt8) (A : Option Addr) (cap : Nat) (w : World) (hl : l.length ≤ 140737488351232) (hcap : l.length ≤ cap) (hs : SeesP w (· < w.heap.size) A (Us l)) :
    Calls Tryd.prog 34 #[.slice A l.length cap, .bool st] w (ParIs w (parse st l)) := by
  by_cases h : 4096 < l.length
  · have e : parse st l = .error 2 := by unfold parse; rw [if_pos h]
    rw [e]
    have d : decide ((4096 : Int) < (l.length : Int)) = true := by simp; omega
    clear h hs e
    go_enter Tryd.func34, Tryd.ntmps34
    go_wp2_with fail
    go_ret2
    exact ⟨Below.refl _ _, rfl, by decide⟩
  · have d : decide ((4096 : Int) < (l.length : Int)) = false := by simp; omega
    have hR := ref_list_all st 8 (Nat.le_refl _) false 1 0 l A cap w _ (by decide) (fun x hx => hx) (by decide) (by omega) hcap hs
    have e : parse st l = loopL (pObj st 8) l.length 0 l := by unfold parse; rw [if_neg h]
    have e2 : loopU false (pObj st 8) l.length 0 l = match parse st l with | .error e => .error e | .ok (f, c') => .ok (f, [], c') := by
      unfold loopU
      rw [if_neg (by decide), e]
      cases loopL (pObj st 8) l.length 0 l with
      | error e => rfl
      | ok q => rfl
    rw [e2] at hR
    obtain ⟨r, hrr⟩ : ∃ r, r = parse st l := ⟨_, rfl⟩
    rw [← hrr] at hR ⊢
    clear e e2 h hs hrr
    cases r with
    | error x =>
      have HR := Lib.hid hR
      clear hR
      go_enter Tryd.func34, Tryd.ntmps34
      go_wp2_with fail
      refine HR.out.mono ?_
      rintro e w1 ⟨hb, rfl, hx⟩
      have HF := Lib.hid (show _ ∧ _ from ⟨hb, hx⟩)
      clear hb hx HR
      go_wp2_with fail
      go_ret2
      exact ⟨HF.out.1, rfl, HF.out.2⟩
    | ok q =>
      obtain ⟨f, n⟩ := q
      have HR := Lib.hid hR
      clear hR
      go_enter Tryd.func34, Tryd.ntmps34
      go_wp2_with fail
      refine HR.out.mono ?_
      rintro e w1 ⟨hb, A1, c1, rfl, s1⟩
      have HF := Lib.hid (show _ ∧ _ from ⟨hb, s1⟩)
      clear hb s1 HR
      go_wp2_with fail
      go_ret2
      exact ⟨HF.out.1, A1, c1, rfl, HF.out.2⟩
set_option maxRecDepth 8000
set_option linter.unusedVariables false
set_option linter.unusedSimpArgs false
theorem F.fit_drop {m : Nat} : ∀ {f : F} (j : Nat), f.fit m → (f.drop j).fit m
  | f, 0, h => by cases f <;> exact h
  | .nil, j + 1, h => h
  | .cons _ _ _ r, j + 1, h => F.fit_drop (f := r) j (F.fit_rest h)
theorem deL_list {f : F} {q : Nat} {L : List Im} (h : lstI f = some L) : deL (.ok (f, q)) = (if vaE L = 0 then L else []) ∧ deE (.ok (f, q)) = vaE L := by
  have e1 : deL (.ok (f, q)) = match lstI f with
    | none => []
    | some l => if vaE l = 0 then l else [] := rfl
  have e2 : deE (.ok (f, q)) = match lstI f with
    | none => 1
    | some l => vaE l := rfl
  rw [e1, e2, h]
  exact ⟨rfl, rfl⟩
theorem deL_no {f : F} {q : Nat} (h : lstI f = none) : deL (.ok (f, q)) = [] ∧ deE (.ok (f, q)) = 1 := by
  have e1 : deL (.ok (f, q)) = match lstI f with
    | none => []
    | some l => if vaE l = 0 then l else [] := rfl
  have e2 : deE (.ok (f, q)) = match lstI f with
    | none => 1
    | some l => vaE l := rfl
  rw [e1, e2, h]
  exact ⟨rfl, rfl⟩
set_option maxHeartbeats 6400000 in
theorem r_idecode (b : List UInt8) (n : Nat) (hn : b.length = n) (hm : n ≤ 140737488351232) (A : Option Addr) (c : Nat) (hc : n ≤ c) (w : World) (hs : SeesP w (· < w.heap.size) A (Us b)) :
    Calls Tryd.prog 11 #[.slice A n c] w (DeIs (parse true b) w) := by
  have hp := ref_parse true b A c w (by omega) (by omega) hs
  rw [hn] at hp
  have hfit := fun (f : F) (q : Nat) (h : parse true b = .ok (f, q)) => parse_fits h
  obtain ⟨r, hr⟩ : ∃ r, parse true b = r := ⟨_, rfl⟩
  rw [hr] at hp hfit ⊢
  have HP := Lib.hid hp
  clear hp hr hs hn hc
  go_enter Tryd.func11, Tryd.ntmps11
  go_wp2_with fail
  refine HP.out.mono ?_
  rintro e w1 ⟨hb, hres⟩
  cases r with
  | error x =>
    obtain ⟨rfl, hx⟩ := hres
    have d0 : (x != 0) = true := by simpa using hx
    have HD := Lib.hid (show DeIs (.error x) w (.returned (.tuple #[.slice none 0 0, .int .i64 x])) w1 from DeIs.bad rfl rfl hb)
    clear hx hb
    go_wp2_with fail
    go_ret2
    exact HD.out
  | ok q =>
    obtain ⟨f, q2⟩ := q
    obtain ⟨A2, c2, rfl, hcs⟩ := hres
    obtain ⟨hft, hsz⟩ := hfit f q2 rfl
    obtain ⟨n2, hn2⟩ : ∃ n, f.len = n := ⟨_, rfl⟩
    rw [hn2]
    have HB := Lib.hid hb
    have HS := Lib.hid (hcs.imp fun b hb => hb.2)
    clear hfit hcs hb
    by_cases h1 : n2 = 1
    case neg =>
      have d1 : ((n2 : Int) != 1) = true := by simp; omega
      have hno : lstI f = none := lstI_len (f := f) (by omega)
      have HD := Lib.hid (show DeIs (.ok (f, q2)) w (.returned (.tuple #[.slice none 0 0, .int .i64 1])) w1 from DeIs.bad (deL_no hno).1 (deL_no hno).2 HB.out)
      clear hft hsz hn2 h1 hno
      go_wp2_with fail
      go_ret2
      exact HD.out
    case pos =>
    subst h1
    obtain ⟨t, v, k, rfl⟩ : ∃ t v k, f = .cons t v k .nil := by
      match f, hn2 with
      | .cons a b d .nil, _ => exact ⟨a, b, d, rfl⟩
      | .cons a b d (.cons _ _ _ _), h => simp [F.len] at h
    obtain ⟨lb, lo, Av, cv, Ak, ck, rfl, hlb, hlr, _, _, hk⟩ := node_atF (j := 0) HS.out rfl
    rw [Nat.zero_mul, Nat.add_zero] at hlr
    have hco := fun w => r13_cons t Av v.length cv Ak k.len ck 49 (-1) w
    have hco2 : rPrim t k.len v.length 49 (-1) = decide (t = 49) := by
      by_cases h : t = 49
      · have : v = [] := F.fit_cons hft (by rw [h]; decide)
        have : v.length = 0 := by rw [this]; rfl
        rw [decide_eq_true h]
        exact rcons_iff.2 ⟨h, this⟩
      · rw [decide_eq_false h]
        rcases h2 : rPrim t k.len v.length 49 (-1) with _ | _
        · rfl
        · exact absurd (rcons_iff.1 h2).1 h
    rw [hco2] at hco
    obtain ⟨ns, hns⟩ : ∃ ns, nodV t Av v.length cv Ak k.len ck = ns := ⟨_, rfl⟩
    obtain ⟨m, hm2⟩ : ∃ m, k.len = m := ⟨_, rfl⟩
    have HL := Lib.hid (show ns.length = 3 ∧ (∀ cur, Below w1.heap.size w1 cur → cur.rangeAt lb lo ns) ∧ (∀ cur, Below w1.heap.size w1 cur → cur.cell? ⟨lb, lo + 2, none⟩ = some (.slice Ak m ck)) from ⟨by rw [← hns]; rfl, fun cur h => by rw [← hns]; exact rangeAt_on hlr hlb h, fun cur h => by
      rw [← hm2]
      exact rangeAt_on hlr hlb h 2 _ rfl⟩)
    rw [hns] at hco
    clear hns hco2 hlr hlb hn2
    have y2 := HL.out.2.2 w1 (Below.refl _ _)
    by_cases h49 : t = 49
    case neg =>
      rw [decide_eq_false h49] at hco
      have HCO := Lib.hid hco
      have hno : lstI (.cons t v k .nil) = none := lstI_no (t := t) (v := v) (k := k) (r := .nil) (.inl h49)
      have HD := Lib.hid (show ∀ w3, Below w1.heap.size w1 w3 → DeIs (.ok (.cons t v k .nil, q2)) w (.returned (.tuple #[.slice none 0 0, .int .i64 1])) w3 from fun w3 h => DeIs.bad (deL_no hno).1 (deL_no hno).2 (below_on HB.out h))
      clear hft hsz h49 hno hco hk hm2
      go_wp2_with (first
        | ((with_reducible refine at_load_ (d := 25) ?_); refine wpList_load_midg (by rfl) 54 (.tmp 24) rfl lb lo rfl ns _ (HL.out.2.1 _ (Below.refl _ _)) Tryd.underlying54 rfl (by rw [HL.out.1]; exact size_n) ?_)
        | (go_at_call 35; ((with_reducible refine (HCO.out _).mono ?_); rintro e w3 ⟨rfl, hb⟩); have H3 := Lib.hid hb; clear hb))
      go_ret2
      exact HD.out _ H3.out
    case pos =>
    rw [decide_eq_true h49] at hco
    have HCO := Lib.hid hco
    have hmb : m ≤ 256 := by
      have := F.len_le_size k
      simp only [F.size] at hsz
      omega
    have hls := lstI_yes (v := v) (k := k) h49
    have hksz : k.size ≤ 256 := by simp only [F.size] at hsz; omega
    have HLS := Lib.hid (show ∀ L, infsT k = some L → deL (.ok (.cons t v k .nil, q2)) = (if vaE L = 0 then L else []) ∧ deE (.ok (.cons t v k .nil, q2)) = vaE L from fun L h => deL_list (by rw [hls, h]))
    have HNO := Lib.hid (show infsT k = none → ∀ w3, Below w1.heap.size w1 w3 → DeIs (.ok (.cons t v k .nil, q2)) w (.returned (.tuple #[.slice none 0 0, .int .i64 1])) w3 from fun h w3 h3 => DeIs.bad (deL_no (by rw [hls, h])).1 (deL_no (by rw [hls, h])).2 (below_on HB.out h3))
    have HK := Lib.hid (show SeesF w1 (· < w1.heap.size) Ak k ∧ k.len = m ∧ k.size ≤ 256 ∧ k.fit 7 from ⟨hk, hm2, hksz, F.fit_kids hft⟩)
    obtain ⟨i0, hi, hz0, hz1, hz2⟩ := info_parts info_inf
    clear hco hk hm2 hls hksz hsz hft h49
    go_wp2_with (first
      | ((with_reducible refine at_load_ (d := 25) ?_); refine wpList_load_midg (by rfl) 54 (.tmp 24) rfl lb lo rfl ns _ (HL.out.2.1 _ (Below.refl _ _)) Tryd.underlying54 rfl (by rw [HL.out.1]; exact size_n) ?_)
      | (go_at_call 35; ((with_reducible refine (HCO.out _).mono ?_); rintro e w3 ⟨rfl, hb⟩); have H3 := Lib.hid hb; clear hb))
    go_loopw [6, 7] (fun vN i wr => ∃ (j : Nat), j ≤ m ∧ i = .int .i64 (j : Int) ∧ Hid (∃ L, L.length = j ∧ HeldI w1 wr vN L ∧ Below w1.heap.size w1 wr ∧ infsT k = (infsT (k.drop j)).map (L ++ ·))) (fun _ i _ => m - (intOf i).toNat)
    case atStart => exact ⟨0, by omega, rfl, Lib.hid ⟨[], rfl, HeldI.start _ _, H3.out, by have e : k.drop 0 = k := (by cases k <;> rfl); rw [e]; cases infsT k <;> rfl⟩⟩
    case round =>
      obtain ⟨j, hj, rfl, HR0⟩ := hrel
      obtain ⟨L, hR0⟩ := HR0.out
      have HR := Lib.hid hR0
      clear HR0 hR0 y2
      have y2 := HL.out.2.2 _ HR.out.2.2.1
      by_cases hlt : j < m
      · have dj : decide ((j : Int) < (m : Int)) = true := by simp; omega
        obtain ⟨tk, vk, kk, hfo⟩ := F.drop_cons (f := k) (j := j) (by rw [HK.out.2.1]; exact hlt)
        obtain ⟨bo, oo, A3, cv3, Ak3, ck3, rfl, hbo, hro, hv0, hsv, hkk⟩ := node_atF HK.out.1 hfo
        have hstep := infsT_step hfo
        have hff := F.fit_drop j HK.out.2.2.2
        rw [hfo] at hff
        have hkl : kk.len ≤ 256 := by
          have h1 := F.len_le_size kk
          have h2 : (k.drop j).size ≤ k.size := F.drop_size k j
          rw [hfo] at h2
          simp only [F.size] at h2
          have := HK.out.2.2.1
          omega
        have hopen := fun w0 (hb : Below w1.heap.size w1 w0) => r_info tk vk kk _ _ hff vk.length rfl kk.len rfl (by omega) A3 cv3 Ak3 ck3 w0 (hkk.on hb)
        obtain ⟨us, hus⟩ : ∃ us, nodV tk A3 vk.length cv3 Ak3 kk.len ck3 = us := ⟨_, rfl⟩
        have HU := Lib.hid (show us.length = 3 from by rw [← hus]; rfl)
        rw [hus] at hro hopen
        obtain ⟨o, hoo⟩ : ∃ o, infT tk kk = o := ⟨_, rfl⟩
        rw [hoo] at hstep hopen
        have HRG := Lib.hid (show (∀ cur, Below w1.heap.size w1 cur → cur.rangeAt bo (oo + j * 3) us) ∧ _ from ⟨fun cur h => rangeAt_on hro hbo h, hopen⟩)
        have HST := Lib.hid hstep
        clear hro hopen hstep hfo hus hoo hbo hv0 hsv hkk hff
        rcases o with _ | x
        · have HN := Lib.hid (show infsT k = none from by rw [HR.out.2.2.2, HST.out]; rfl)
          go_wp2_with (first
            | ((with_reducible refine at_load_ (d := 45) ?_); refine wpList_load_mid rfl 54 (.tmp 44) rfl bo (oo + j * 3) rfl us _ (HRG.out.1 _ HR.out.2.2.1) Tryd.underlying54 rfl (by rw [HU.out]; exact size_n) ?_)
            | (go_at_call 36; ((with_reducible refine (HRG.out.2 _ HR.out.2.2.1).mono ?_); rintro e wc ⟨z, rfl, hz, hb⟩); have H7 := Lib.hid (below_on HR.out.2.2.1 hb); clear hz hb)
            | ((with_reducible refine at_alloc_ (d := 8) ?_); refine wpList_alloc_v (op := ⟨some 8, _, _, _, _, _⟩) rfl 44 rfl zerX info_x ?_; intro g7 wd hf hr; have HG7 := Lib.hid (show _ ∧ _ ∧ _ from ⟨hf.bl H7.out, hr, hf.ge H7.out⟩); clear hf hr)
            | ((with_reducible refine at_store_ (i := 8) ?_); refine wpList_store_v rfl 44 (.tmp 8) (.tmp 47) rfl g7 zerX z.cs rfl rfl HG7.out.2.1 rfl (Im.cs_one _) size_x ?_; intro we hw hr; have H8 := Lib.hid (show _ ∧ _ from ⟨Wr.bl HG7.out.1 hw HG7.out.2.2, hr⟩); clear hw hr))
          go_ret2
          exact HNO.out HN.out _ H8.out.1
        · have HN := Lib.hid (show infsT k = (infsT (k.drop (j + 1))).map ((L ++ [x]) ++ ·) from by
            rw [HR.out.2.2.2, HST.out]
            cases infsT (k.drop (j + 1)) with
            | none => rfl
            | some q => simp)
          go_wp2_with (first
            | ((with_reducible refine at_load_ (d := 45) ?_); refine wpList_load_mid rfl 54 (.tmp 44) rfl bo (oo + j * 3) rfl us _ (HRG.out.1 _ HR.out.2.2.1) Tryd.underlying54 rfl (by rw [HU.out]; exact size_n) ?_)
            | (go_at_call 36; ((with_reducible refine (HRG.out.2 _ HR.out.2.2.1).mono ?_); rintro e wc ⟨z, rfl, hz, hb⟩); have HZ := hz x rfl; subst HZ; have H7 := Lib.hid (show Below wr.heap.size wr wc from hb); clear hz hb)
            | ((with_reducible refine at_alloc_ (d := 8) ?_); refine wpList_alloc_v (op := ⟨some 8, _, _, _, _, _⟩) rfl 44 rfl zerX info_x ?_; intro g7 wd hf hr; have HG7 := Lib.hid (show _ ∧ _ ∧ _ from ⟨hf.bl H7.out, hr, hf.ge H7.out⟩); clear hf hr)
            | ((with_reducible refine at_store_ (i := 8) ?_); refine wpList_store_v rfl 44 (.tmp 8) (.tmp 47) rfl g7 zerX z.cs rfl rfl HG7.out.2.1 rfl (Im.cs_one _) size_x ?_; intro we hw hr; have H8 := Lib.hid (show Below wr.heap.size wr we ∧ RowV we g7 z.cs from ⟨Wr.bl HG7.out.1 hw HG7.out.2.2, hr⟩); clear hw hr)
            | ((with_reducible refine at_load_ (d := 52) ?_); refine wpList_load_v rfl 44 (.tmp 8) rfl g7 rfl z.cs _ H8.out.2 Tryd.underlying44 rfl (by rw [Im.cs_len]; exact size_x) ?_)
            | ((with_reducible refine at_any_ (d := 53) ?_); go_must (refine wpList_bslV rfl 22 44 1 _ rfl Tryd.underlying22 (pe1 rfl) (bsx _) ?_); intro g9 wf hf hr; have H9 := Lib.hid (show Below wr.heap.size wr wf ∧ RowV wf g9 z.cs from ⟨below_on H8.out.1 hf.bw, hr⟩); clear hf hr)
            | ((with_reducible refine at_call_ (d := 54) ?_); have HO := HR.out.2.1; unfold HeldI at HO; rw [HR.out.1] at HO; go_must (refine wpList_append_lies _ rfl (.tmp 51) (.tmp 53) 22 rfl w1.heap.size 44 i0 _ 5 40 Tryd.underlying22 hi hz0 hz1 hz2 rfl (by decide) u6 j (Ics L) rfl (own3_on HO H9.out.1) ⟨g9, 0, none⟩ 1 1 z.cs rfl rfl (RowV.src H9.out.2) (Im.cs_one _) (by decide) (by unfold maxLen; omega) (by omega) (Nat.le_trans HR.out.2.2.1.size H9.out.1.size) _ rfl ?_); intro g10 c10 wg ho hg hl hltg; have H10 := Lib.hid (show wg.ownsRow w1.heap.size 44 5 (.slice (some ⟨g10, 0, none⟩) (j + 1) c10) (j + 1) (Ics (L ++ [z])) ∧ Below w1.heap.size w1 wg from ⟨by rw [Ics_snoc]; exact ho, row_below (below_on HR.out.2.2.1 H9.out.1) hg fun k e => (own_lt3 HO k e).1⟩); clear ho hg hl hltg HO))
          go_roundw
          case rel => exact ⟨j + 1, by omega, by first | rfl | go_num, Lib.hid ⟨L ++ [z], by rw [List.length_append, HR.out.1]; rfl, by unfold HeldI; rw [List.length_append, HR.out.1]; exact H10.out.1, H10.out.2, HN.out⟩⟩
          case measure => simp [intOf]; omega
      · obtain rfl : j = m := by omega
        have dj : decide ((j : Int) < (j : Int)) = false := by simp
        have hall : infsT k = some L := by
          rw [HR.out.2.2.2, show k.drop j = .nil from by rw [← HK.out.2.1]; exact F.drop_all k]
          show some (L ++ []) = _
          rw [List.append_nil]
        obtain ⟨Al, cl, rfl, hcl, hsl⟩ := HeldI.slice HR.out.2.1
        obtain ⟨e1, e2⟩ := HLS.out L hall
        have hlen := HR.out.1
        have hval := r_ivalid L j hlen (by omega) Al cl wr (hsl.imp fun b hb => hb.2)
        rw [hlen] at hcl ⊢
        obtain ⟨z, hz⟩ : ∃ z, vaE L = z := ⟨_, rfl⟩
        rw [hz] at hval e1 e2
        have HV := Lib.hid hval
        have HR3 := Lib.hid HR.out.2.2.1
        by_cases h0 : z = 0
        · rw [if_pos h0] at e1
          have HD := Lib.hid (show ∀ w3, Below wr.heap.size wr w3 → DeIs (.ok (.cons t v k .nil, q2)) w (.returned (.tuple #[.slice Al j cl, .int .i64 0])) w3 from fun w3 hb3 => by
            unfold DeIs
            rw [e1, e2, h0, hlen]
            exact ⟨Al, cl, rfl, hcl, (hsl.newOn hb3).imp fun b hb => newB_imp hb HB.out.size (Nat.le_refl _), below_on (below_on HB.out HR3.out) hb3⟩)
          subst h0
          clear e1 e2 hlen hval hcl hsl hall hz HR
          go_wp2_with (go_at_call 14; ((with_reducible refine HV.out.mono ?_); rintro e w3 ⟨rfl, hb⟩); have H3 := Lib.hid hb; clear hb)
          go_ret2
          exact HD.out _ H3.out
        · rw [if_neg h0] at e1
          have d0 : (z != 0) = true := by simpa using h0
          have HD := Lib.hid (show ∀ w3, Below wr.heap.size wr w3 → DeIs (.ok (.cons t v k .nil, q2)) w (.returned (.tuple #[.slice none 0 0, .int .i64 z])) w3 from fun w3 hb3 => DeIs.bad e1 e2 (below_on (below_on HB.out HR3.out) hb3))
          clear e1 e2 hlen hval hcl hsl hall hz h0 HR
          go_wp2_with (go_at_call 14; ((with_reducible refine HV.out.mono ?_); rintro e w3 ⟨rfl, hb⟩); have H3 := Lib.hid hb; clear hb)
          go_ret2
          exact HD.out _ H3.out
end Go.Proofs.YtmkggpgpiepjfaaDoor
