/-
  What is proved here: Groups of the program; the law's awake; what the program's functions of this layer hand back, as the laws want it.
-/
import Derived.Test.YtkgfdbbdmchmeaaDoorZ36
import Derived.Test.YtkgfdbbdmchmeaaDoorZ37
import Derived.Test.YtkgfdbbdmchmeaaDoorZ39
namespace Go.Proofs.YtkgfdbbdmchmeaaDoor
open Go.RowKit
set_option maxRecDepth 8000
set_option linter.unusedVariables false
set_option linter.unusedSimpArgs false
def gnB (x : UInt8) : Int := (ggR (x.toNat : Int)).1
def geB (x : UInt8) : Int := (ggR (x.toNat : Int)).2
def gsE (last : Int) : List UInt8 → Int
  | [] => 0
  | x :: r => if geB x ≠ 0 ∨ 16 < gnB x then 4 else if gnB x ≤ last then 17 else gsE (gnB x) r
def gkX : Option (List UInt8) → List Int × Int
  | none => ([], 1)
  | some v => if gsE 0 v = 0 then (v.map gnB, 0) else ([], gsE 0 v)
def grX (l : List UInt8) : List Int × Int := if (obX l 17 17).2.2 ≠ 0 then ([], (obX l 17 17).2.2) else gkX (coV (obX l 17 17).2.1)
theorem gsE_at {v : List UInt8} {j : Nat} {x : UInt8} (h : v[j]? = some x) (last : Int) : gsE last (v.drop j) = if geB x ≠ 0 ∨ 16 < gnB x then 4 else if gnB x ≤ last then 17 else gsE (gnB x) (v.drop (j + 1)) := by
  have hj : j < v.length := (List.getElem?_eq_some_iff.1 h).1
  have e : v.drop j = x :: v.drop (j + 1) := by
    rw [List.drop_eq_getElem_cons hj]
    rw [List.getElem?_eq_getElem hj] at h
    injection h with h
    rw [h]
  rw [e]
  rfl
theorem ggF_pos {t : Int} : ∀ (l : List Int) (i : Int), 0 ≤ i → (ggF t l i).2 = 0 → 1 ≤ (ggF t l i).1
  | [], i, _, h => by cases h
  | x :: r, i, h0, h => by
    unfold ggF at h ⊢
    split at h
    · rw [if_pos (by assumption)]
      show 1 ≤ i + 1
      omega
    · rw [if_neg (by assumption)]
      exact ggF_pos r (i + 1) (by omega) h
theorem gnB_pos {x : UInt8} (h : geB x = 0) : 1 ≤ gnB x := ggF_pos tagsG 0 (by decide) h
theorem opG_sm {f : F} (h : f.sm) : (opG f).2.1.sm := by
  match f, h with
  | .nil, _ => exact trivial
  | .cons t v k .nil, h =>
    by_cases hq : (ggR t).2 = 0
    · have e : opG (.cons t v k .nil) = ((ggR t).1, k, 0) := if_pos hq
      rw [e]
      exact h.2.1
    · have e : opG (.cons t v k .nil) = (0, .nil, (ggR t).2) := if_neg hq
      rw [e]
      exact trivial
  | .cons _ _ _ (.cons _ _ _ _), _ => exact trivial
theorem F.fit_sm15 : ∀ {f : F} {m : Nat}, f.fit m → f.sm
  | .nil, _, _ => trivial
  | .cons t v k r, m, ⟨h1, h2, h3, h4, h5, h6, h7⟩ => ⟨h5, F.fit_sm15 h6, F.fit_sm15 h7⟩
theorem opX_sm (l : List UInt8) : (opX l).2.1.sm := by
  unfold opX
  rcases hr : parse false l with x | ⟨f, q⟩
  · exact trivial
  · exact opG_sm (F.fit_sm15 (parse_fits hr).1)
theorem obX_sm (l : List UInt8) (lo hi : Int) : (obX l lo hi).2.1.sm := by
  unfold obX
  split
  · exact trivial
  · split
    · exact trivial
    · exact opX_sm l
theorem coV_sm {f : F} {v : List UInt8} (h : f.sm) (hv : coV f = some v) : v.length ≤ 4096 := by
  match f, h with
  | .nil, _ => cases hv
  | .cons _ _ _ .nil, _ => cases hv
  | .cons _ _ _ (.cons _ _ _ .nil), _ => cases hv
  | .cons t1 v1 k1 (.cons t2 v2 k2 (.cons t3 v3 k3 .nil)), h =>
    have hv : (if t1 = 24321 ∧ v1 = t0108 ∧ t2 = 24374 ∧ v2 = t0400 ∧ t3 = 92 then some v3 else none) = some v := hv
    split at hv
    · injection hv with hv
      subst hv
      exact h.2.2.2.2.1
    · cases hv
  | .cons _ _ _ (.cons _ _ _ (.cons _ _ _ (.cons _ _ _ _))), _ => cases hv
def gcs (v : List UInt8) (n j : Nat) : List Value := (v.take j).map (fun x => .int .i64 (gnB x)) ++ List.replicate (n - j) (.int .i64 0)
theorem gcs_len {v : List UInt8} {n j : Nat} (hn : v.length = n) (hj : j ≤ n) : (gcs v n j).length = n := by
  unfold gcs
  rw [List.length_append, List.length_map, List.length_take, List.length_replicate]
  omega
theorem gcs_set {v : List UInt8} {n j : Nat} {x : UInt8} (hn : v.length = n) (hx : v[j]? = some x) : (gcs v n j).set j (.int .i64 (gnB x)) = gcs v n (j + 1) := by
  have hj : j < v.length := (List.getElem?_eq_some_iff.1 hx).1
  unfold gcs
  rw [List.take_add_one, hx, show n - j = (n - (j + 1)) + 1 by omega, List.replicate_succ]
  rw [List.set_append, if_neg (by rw [List.length_map, List.length_take]; omega), List.length_map, List.length_take, show j - min j v.length = 0 by omega]
  simp
theorem gcs_at {v : List UInt8} {n j k : Nat} {x : UInt8} (hx : v[k]? = some x) (hk : k < j) : (gcs v n j)[k]? = some (.int .i64 (gnB x)) := by
  have hj : k < v.length := (List.getElem?_eq_some_iff.1 hx).1
  unfold gcs
  rw [List.getElem?_append_left (by rw [List.length_map, List.length_take]; omega), List.getElem?_map, List.getElem?_take, if_pos hk, hx]
  rfl
theorem gcs_end {v : List UInt8} {n : Nat} (hn : v.length = n) : gcs v n n = (v.map gnB).map (Value.int .i64) := by
  unfold gcs
  rw [List.take_of_length_le (by omega), Nat.sub_self, List.map_map]
  simp
theorem info_i3 : (Tryd.prog.info? 3).map (fun i => (i.zero, i.size, i.bytes)) = some (some (.int .i64 0), 1, 8) := by kernel_rfl
theorem mk_int15 (n : Nat) (h : n ≤ 4096) (w : World) : (Instr.makeSlice 29 (.int .i64 (n : Int)) (.int .i64 (n : Int))).run Tryd.prog w = .ok (.slice (some ⟨w.heap.size, 0, none⟩) n n) (w.alloc (.cells (List.replicate n (Value.int .i64 0)).toArray 3)) := by
  rw [← toList_madeCells_one (Value.int .i64 0) n]
  exact run_make_row' 29 3 (.int .i64 0) 8 Tryd.underlying29 info_i3 rfl .i64 .i64 n (by omega) (by omega) w
theorem at_mk15 {P : Program} {ops : Array Oper} {rest : List Oper} {a : Act} {w : World} {Q : Exit → Act → World → Prop} {d : Nat} {x y : Operand} {ty t : TypeId} {ps : String} {af : Array Edge} {gd : Option (Nat × Bool)} (h : wpList P ops Q (⟨some d, .makeSlice ty x y, t, ps, af, gd⟩ :: rest) a w) : wpList P ops Q (⟨some d, .makeSlice ty x y, t, ps, af, gd⟩ :: rest) a w := h
theorem cv_int15 (x : UInt8) (w : World) : (convert 5 3 (U x)).run Tryd.prog w = .ok (.int .i64 (x.toNat : Int)) w := by
  have hx : x.toNat < 256 := x.toNat_lt
  have h : IntKind.i64.wrap (x.toNat : Int) = (x.toNat : Int) := wrap_small _ (by omega) (by omega)
  have e : (convert 5 3 (U x)).run Tryd.prog w = .ok (.int .i64 (IntKind.i64.wrap (x.toNat : Int))) w := by kernel_rfl
  rw [e, h]
def GrsIs (r : List Int × Int) (w : World) (e : Ending) (w' : World) : Prop := ∃ A c, e = .returned (.tuple #[.slice A r.1.length c, .int .i64 r.2]) ∧ SeesP w' (· < w'.heap.size) A (r.1.map (Value.int .i64)) ∧ Below w.heap.size w w'
theorem GrsIs.bad {r : List Int × Int} {w u : World} (x : Int) (h : r = ([], x)) (hb : Below w.heap.size w u) : GrsIs r w (.returned (.tuple #[.slice none 0 0, .int .i64 x])) u := by
  subst h
  exact ⟨none, 0, rfl, .inl rfl, hb⟩
theorem u8_atV {w : World} {p : Nat → Prop} {A : Option Addr} {v : List UInt8} {j : Nat} {q : UInt8} (h : SeesP w p A (Us v)) (hq : v[j]? = some q) : ∃ b off, A = some ⟨b, off, none⟩ ∧ p b ∧ w.cell? ⟨b, off + j, none⟩ = some (U q) := by
  have hj : j < v.length := (List.getElem?_eq_some_iff.1 hq).1
  rcases h with h | ⟨b, off, rfl, hp, hc⟩
  · have := congrArg List.length h
    rw [Us_length] at this
    simp only [List.length_nil] at this
    omega
  · refine ⟨b, off, rfl, hp, ?_⟩
    rw [hc j (by rw [Us_length]; exact hj)]
    unfold Us
    rw [List.getElem?_map, hq]
    rfl
set_option maxHeartbeats 6400000 in
set_option maxRecDepth 20000 in
theorem p_groups15 (l : List UInt8) (n : Nat) (hn : l.length = n) (hm : n ≤ 140737488351232) (A : Option Addr) (cap : Nat) (hcap : n ≤ cap) (w : World) (ht : TabT w) (hs : SeesP w (· < w.heap.size) A (Us l)) :
    Calls Tryd.prog 24 #[.slice A n cap] w (GrsIs (grX l) w) := by
  have hsm := obX_sm l 17 17
  have hP := p_opena l n hn hm A cap hcap 17 w ht hs
  have HT := Lib.hid ht
  have hx : grX l = if (obX l 17 17).2.2 ≠ 0 then ([], (obX l 17 17).2.2) else gkX (coV (obX l 17 17).2.1) := rfl
  obtain ⟨⟨gv, f, er⟩, hr⟩ : ∃ r, obX l 17 17 = r := ⟨_, rfl⟩
  rw [hr] at hP hsm hx
  unfold OasIs at hP
  simp only at hP hsm hx
  have hC := fun (A : Option Addr) (c : Nat) (u : World) (h1 : f.len ≤ c) (h2 : SeesN u (· < u.heap.size) A f) => p_openc f f.len rfl A c h1 u h2
  obtain ⟨lk, hlk⟩ : ∃ z, f.len = z := ⟨_, rfl⟩
  rw [hlk] at hP hC
  have HP := Lib.hid hP
  rw [hx]
  clear hr hx hs ht hcap hm hn hlk hP
  by_cases h0 : er = 0
  case neg =>
    rw [if_pos h0]
    have d0 : (er != 0) = true := by simpa using h0
    have HQ := Lib.hid (show ∀ u, Below w.heap.size w u → GrsIs ([], er) w (.returned (.tuple #[.slice none 0 0, .int .i64 er])) u from fun u hb => GrsIs.bad er rfl hb)
    obtain ⟨RR, hRR⟩ : ∃ z, (([], er) : List Int × Int) = z := ⟨_, rfl⟩
    rw [hRR] at HQ ⊢
    clear h0 hC hsm hRR
    go_enter Tryd.func24, Tryd.ntmps24
    go_wp2_with (first
      | (go_at_call 38; ((with_reducible refine HP.out.mono ?_); rintro e w1 ⟨A1, c1, rfl, hc, hk, hb⟩); have HX := Lib.hid hb; clear hb hc hk))
    refine bodyPost_ret (results_tmp2 rfl _ _ _) rfl ?_
    exact HQ.out _ HX.out
  case pos =>
  rw [if_neg (by simpa using h0)]
  subst h0
  have hbd := fun v (h : coV f = some v) => coV_sm hsm h
  obtain ⟨o, ho⟩ : ∃ z, coV f = z := ⟨_, rfl⟩
  rw [ho] at hC hbd ⊢
  unfold OncIs at hC
  have HC := Lib.hid hC
  clear hC ho hsm
  rcases o with _ | v
  · clear hbd
    go_enter Tryd.func24, Tryd.ntmps24
    go_wp2_with (first
      | (go_at_call 38; ((with_reducible refine HP.out.mono ?_); rintro e w1 ⟨A1, c1, rfl, hc, hk, hb⟩); have HX := Lib.hid (show Below w.heap.size w w1 ∧ lk ≤ c1 ∧ SeesN w1 (· < w1.heap.size) A1 f from ⟨hb, hc, hk.imp fun b h => h.2⟩); clear hb hc hk)
      | (go_at_call 39; ((with_reducible refine (HC.out A1 c1 _ HX.out.2.1 HX.out.2.2).mono ?_); rintro e w2 ⟨hb, h1, h2⟩); have e1 := h1 (by first | rfl | exact trivial); subst e1; have HY := Lib.hid (below_on HX.out.1 hb); clear hb h1 h2))
    go_ret2
    exact GrsIs.bad 1 rfl HY.out
  have hv := hbd v rfl
  have HG0 := Lib.hid (show ∀ x, gsE 0 v = x → x ≠ 0 → ∀ u, Below w.heap.size w u → GrsIs (gkX (some v)) w (.returned (.tuple #[.slice none 0 0, .int .i64 x])) u from fun x hx h0 u hb => GrsIs.bad x (by
    show (if gsE 0 v = 0 then (v.map gnB, 0) else ([], gsE 0 v)) = _
    rw [hx, if_neg h0]) hb)
  have HGE := Lib.hid (show gsE 0 v = 0 → gkX (some v) = (v.map gnB, 0) from fun h => if_pos h)
  obtain ⟨R, hR⟩ : ∃ z, gkX (some v) = z := ⟨_, rfl⟩
  rw [hR] at HG0 HGE ⊢
  obtain ⟨n, hn⟩ : ∃ z, v.length = z := ⟨_, rfl⟩
  rw [hn] at hv
  have HN := Lib.hid (show _ ∧ _ from ⟨hn, hv⟩)
  clear hbd hR hn
  go_enter Tryd.func24, Tryd.ntmps24
  go_wp2_with (first
    | (go_at_call 38; ((with_reducible refine HP.out.mono ?_); rintro e w1 ⟨A1, c1, rfl, hc, hk, hb⟩); have HX := Lib.hid (show Below w.heap.size w w1 ∧ lk ≤ c1 ∧ SeesN w1 (· < w1.heap.size) A1 f from ⟨hb, hc, hk.imp fun b h => h.2⟩); clear hb hc hk)
    | (go_at_call 39; ((with_reducible refine (HC.out A1 c1 _ HX.out.2.1 HX.out.2.2).mono ?_); rintro e w2 ⟨hb, h1, h2⟩); obtain ⟨A2, c2, e2, h3, _⟩ := h2 v rfl; rw [HN.out.1] at e2; subst e2; have HY := Lib.hid (show Below w.heap.size w w2 ∧ SeesP w2 (· < w2.heap.size) A2 (Us v) from ⟨below_on HX.out.1 hb, h3⟩); clear hb h1 h2 h3)
    | ((with_reducible refine at_mk15 (d := 30) ?_); go_must (refine wpList_make_v rfl _ _ _ rfl _ _ rfl rfl (List.replicate n (Value.int .i64 0)) n _ (mk_int15 n HN.out.2 _) ?_); intro g8 w3 hf hr; have HZ := Lib.hid (show Below w.heap.size w w3 ∧ SeesP w3 (· < w3.heap.size) A2 (Us v) ∧ RowV w3 g8 (gcs v n 0) ∧ w.heap.size ≤ g8 ∧ w2.heap.size ≤ g8 ∧ Below w2.heap.size w2 w3 from ⟨below_on HY.out.1 hf.bw, SeesP.on2 HY.out.2 hf.bw, hr, Nat.le_trans HY.out.1.size (Nat.le_of_eq hf.1.symm), Nat.le_of_eq hf.1.symm, hf.bw⟩); clear hf hr))
  go_loopw [33] (fun i wr => ∃ (j : Nat) (lv : Int), j ≤ n ∧ i = .int .i64 (j : Int) ∧ Hid (Below w.heap.size w wr ∧ SeesP wr (fun b => b < w2.heap.size) A2 (Us v) ∧ RowV wr g8 (gcs v n j) ∧ gsE 0 v = gsE lv (v.drop j) ∧ (j = 0 → lv = 0) ∧ ∀ k, j = k + 1 → ∃ x, v[k]? = some x ∧ gnB x = lv)) (fun i _ => n - (intOf i).toNat)
  case atStart => exact ⟨0, 0, by omega, rfl, Lib.hid ⟨HZ.out.1, HY.out.2.keep fun q hq => HZ.out.2.2.2.2.2.cell hq, HZ.out.2.2.1, rfl, fun _ => rfl, fun k hk => by omega⟩⟩
  case round =>
    obtain ⟨j, lv, hj, rfl, HR⟩ := hrel
    by_cases hlt : j < n
    · have dj : decide ((j : Int) < (n : Int)) = true := by simp; omega
      obtain ⟨x, hx⟩ : ∃ x, v[j]? = some x := ⟨_, List.getElem?_eq_getElem (by rw [HN.out.1]; exact hlt)⟩
      obtain ⟨b, off, rfl, hb, hc⟩ := u8_atV HR.out.2.1 hx
      have hst := gsE_at hx lv
      rw [← HR.out.2.2.2.1] at hst
      have hset := gcs_set (n := n) HN.out.1 hx
      have hgp := gnB_pos (x := x)
      have hG := p_group (x.toNat : Int) wr (HT.out.on HR.out.1)
      have HI := Lib.hid (fun u => p_isdata (gnB x) u)
      have HGX := Lib.hid (show ∃ y, v[j]? = some y ∧ gnB y = gnB x from ⟨x, hx, rfl⟩)
      obtain ⟨gn, hgn⟩ : ∃ z, gnB x = z := ⟨_, rfl⟩
      obtain ⟨ge, hge⟩ : ∃ z, geB x = z := ⟨_, rfl⟩
      rw [show (ggR (x.toNat : Int)).1 = gn from hgn, show (ggR (x.toNat : Int)).2 = ge from hge] at hG
      rw [hgn] at hst hset hgp HI HGX
      rw [hge] at hst hgp
      have HG := Lib.hid hG
      clear hG hgn hge hx hb
      by_cases h0 : ge = 0
      case neg =>
        have d0 : (ge != 0) = true := by simpa using h0
        rw [if_pos (.inl h0)] at hst
        have HD := Lib.hid (HG0.out 4 hst (by decide) _ HR.out.1)
        clear hst hset hgp h0
        go_wp2_with (first
          | ((with_reducible refine at_any_ (d := 40) ?_); go_must (refine wpList_cvP rfl 5 3 (.tmp 39) rfl rfl (cv_int15 x _) ?_))
          | (go_at_call 7; ((with_reducible refine HG.out.mono ?_); rintro e w2 ⟨rfl, hw1⟩); (have hw2 := hw1.symm; clear hw1; subst hw2)))
        go_ret2
        exact HD.out
      case pos =>
      subst h0
      have hg1 := hgp rfl
      by_cases h2 : 16 < gn
      · rw [if_pos (.inr h2)] at hst
        rw [isd_no (by omega)] at HI
        have HD := Lib.hid (HG0.out 4 hst (by decide) _ HR.out.1)
        clear hst hset hgp h2 hg1
        go_wp2_with (first
          | ((with_reducible refine at_any_ (d := 40) ?_); go_must (refine wpList_cvP rfl 5 3 (.tmp 39) rfl rfl (cv_int15 x _) ?_))
          | (go_at_call 7; ((with_reducible refine HG.out.mono ?_); rintro e w2 ⟨rfl, hw1⟩); (have hw2 := hw1.symm; clear hw1; subst hw2))
          | (go_at_call 23; ((with_reducible refine (HI.out _).mono ?_); rintro e w1 ⟨rfl, hw1⟩); (have hw2 := hw1.symm; clear hw1; subst hw2)))
        go_ret2
        exact HD.out
      rw [if_neg (by intro h; rcases h with h | h; exact h rfl; exact h2 h)] at hst
      rw [isd_yes (by omega)] at HI
      have hcase : (j = 0 ∧ lv = 0) ∨ ∃ k0, j = k0 + 1 ∧ wr.cell? ⟨g8, k0, none⟩ = some (.int .i64 lv) := by
        rcases j with _ | k0
        · exact .inl ⟨rfl, HR.out.2.2.2.2.1 rfl⟩
        · refine .inr ⟨k0, rfl, ?_⟩
          obtain ⟨y, hy, hy2⟩ := HR.out.2.2.2.2.2 k0 rfl
          rw [HR.out.2.2.1.cell, gcs_at hy (by omega), hy2]
      by_cases h3 : gn ≤ lv
      · have d3 : decide (gn ≤ lv) = true := by simpa using h3
        rw [if_pos h3] at hst
        have HD := Lib.hid (HG0.out 17 hst (by decide) _ HR.out.1)
        rcases hcase with ⟨e1, e2⟩ | ⟨k0, e1, c2⟩
        · omega
        have dp : 0 < j := by omega
        have hjn : ¬ j = 0 := by omega
        have c3 := c2
        rw [show k0 = j - 1 by omega] at c3
        have es : wrap64 ((j : Int) - 1) = (k0 : Int) := by have := HN.out.2; unfold wrap64; omega
        have hkn : k0 < n := by omega
        clear hst hset hgp h2 h3 e1 hg1
        go_wp2_with (first
          | ((with_reducible refine at_any_ (d := 40) ?_); go_must (refine wpList_cvP rfl 5 3 (.tmp 39) rfl rfl (cv_int15 x _) ?_))
          | (go_at_call 7; ((with_reducible refine HG.out.mono ?_); rintro e w2 ⟨rfl, hw1⟩); (have hw2 := hw1.symm; clear hw1; subst hw2))
          | (go_at_call 23; ((with_reducible refine (HI.out _).mono ?_); rintro e w1 ⟨rfl, hw1⟩); (have hw2 := hw1.symm; clear hw1; subst hw2)))
        go_ret2
        exact HD.out
      have d3 : decide (gn ≤ lv) = false := by simpa using h3
      rw [if_neg h3] at hst
      have HST := Lib.hid (show gsE 0 v = gsE gn (v.drop (j + 1)) ∧ (j + 1 = 0 → gn = 0) ∧ ∀ k, j + 1 = k + 1 → ∃ x, v[k]? = some x ∧ gnB x = gn from ⟨hst, fun h => by omega, fun k hk => by injection hk with hk; subst hk; exact HGX.out⟩)
      have hlen := gcs_len HN.out.1 hj
      have HSET := Lib.hid (show _ ∧ _ from ⟨hset, hlen⟩)
      rcases hcase with ⟨e1, e2⟩ | ⟨k0, e1, c2⟩
      · have dp : ¬ 0 < j := by omega
        clear hst hset hgp h2 h3 hg1 hlen e1 e2
        go_wp2_with (first
          | ((with_reducible refine at_any_ (d := 40) ?_); go_must (refine wpList_cvP rfl 5 3 (.tmp 39) rfl rfl (cv_int15 x _) ?_))
          | (go_at_call 7; ((with_reducible refine HG.out.mono ?_); rintro e w2 ⟨rfl, hw1⟩); (have hw2 := hw1.symm; clear hw1; subst hw2))
          | (go_at_call 23; ((with_reducible refine (HI.out _).mono ?_); rintro e w1 ⟨rfl, hw1⟩); (have hw2 := hw1.symm; clear hw1; subst hw2))
          | ((with_reducible refine at_store_ (i := 65) ?_); go_must (refine wpList_store_at rfl 3 (.tmp 65) (.tmp 64) rfl g8 j (gcs v n j) (.int .i64 gn) rfl rfl HR.out.2.2.1 (by rw [HSET.out.2]; exact hlt) rfl rfl size_i ?_); intro w9 hw hr; rw [HSET.out.1] at hr; have H9 := Lib.hid (show Below w.heap.size w w9 ∧ SeesP w9 (fun b => b < w2.heap.size) (some ⟨b, off, none⟩) (Us v) ∧ RowV w9 g8 (gcs v n (j + 1)) from ⟨Wr.bl HR.out.1 hw HZ.out.2.2.2.1, HR.out.2.1.keep fun q hq => (World.cell?_of_block (hw.2.2.2.2 q.block (by have := HZ.out.2.2.2.2.1; omega))), hr⟩); clear hw hr))
        go_roundw
        case rel => exact ⟨j + 1, gn, by omega, by first | rfl | go_num, Lib.hid ⟨H9.out.1, H9.out.2.1, H9.out.2.2, HST.out⟩⟩
        case measure => simp [intOf]; omega
      · have dp : 0 < j := by omega
        have hjn : ¬ j = 0 := by omega
        have c3 := c2
        rw [show k0 = j - 1 by omega] at c3
        have es : wrap64 ((j : Int) - 1) = (k0 : Int) := by have := HN.out.2; unfold wrap64; omega
        have hkn : k0 < n := by omega
        clear hst hset hgp h2 h3 e1 hg1 hlen
        go_wp2_with (first
          | ((with_reducible refine at_any_ (d := 40) ?_); go_must (refine wpList_cvP rfl 5 3 (.tmp 39) rfl rfl (cv_int15 x _) ?_))
          | (go_at_call 7; ((with_reducible refine HG.out.mono ?_); rintro e w2 ⟨rfl, hw1⟩); (have hw2 := hw1.symm; clear hw1; subst hw2))
          | (go_at_call 23; ((with_reducible refine (HI.out _).mono ?_); rintro e w1 ⟨rfl, hw1⟩); (have hw2 := hw1.symm; clear hw1; subst hw2))
          | ((with_reducible refine at_store_ (i := 65) ?_); go_must (refine wpList_store_at rfl 3 (.tmp 65) (.tmp 64) rfl g8 j (gcs v n j) (.int .i64 gn) rfl rfl HR.out.2.2.1 (by rw [HSET.out.2]; exact hlt) rfl rfl size_i ?_); intro w9 hw hr; rw [HSET.out.1] at hr; have H9 := Lib.hid (show Below w.heap.size w w9 ∧ SeesP w9 (fun b => b < w2.heap.size) (some ⟨b, off, none⟩) (Us v) ∧ RowV w9 g8 (gcs v n (j + 1)) from ⟨Wr.bl HR.out.1 hw HZ.out.2.2.2.1, HR.out.2.1.keep fun q hq => (World.cell?_of_block (hw.2.2.2.2 q.block (by have := HZ.out.2.2.2.2.1; omega))), hr⟩); clear hw hr))
        go_roundw
        case rel => exact ⟨j + 1, gn, by omega, by first | rfl | go_num, Lib.hid ⟨H9.out.1, H9.out.2.1, H9.out.2.2, HST.out⟩⟩
        case measure => simp [intOf]; omega
    · obtain rfl : j = n := by omega
      have dj : decide ((j : Int) < (j : Int)) = false := by simp
      have h0 : gsE 0 v = 0 := by
        rw [HR.out.2.2.2.1, List.drop_eq_nil_of_le (by rw [HN.out.1]; exact Nat.le_refl _)]
        rfl
      have HE := Lib.hid (show GrsIs R w (.returned (.tuple #[.slice (some ⟨g8, 0, none⟩) j j, .int .i64 0])) wr from by
        rw [HGE.out h0]
        refine ⟨some ⟨g8, 0, none⟩, j, ?_, ?_, HR.out.1⟩
        · show _ = Ending.returned (.tuple #[.slice (some ⟨g8, 0, none⟩) (v.map gnB).length j, .int .i64 0])
          rw [List.length_map, HN.out.1]
        · show SeesP wr _ _ ((v.map gnB).map (Value.int .i64))
          rw [← gcs_end HN.out.1]
          exact .inr ⟨g8, 0, rfl, HR.out.2.2.1.lt, fun i hi => by rw [Nat.zero_add, HR.out.2.2.1.cell]⟩)
      clear HR h0
      go_wp2_with fail
      go_ret2
      exact HE.out
def aw3 : List Int := [1, 2, 14]
theorem awk15_e : cmE aw3 = 0 := by kernel_rfl
theorem awk15_l : (cmB aw3).length = 23 := by kernel_rfl
theorem awk15_h : (Us (cmB aw3))[0]? = some (.int .u8 96) := by kernel_rfl
theorem awk15_g : grX (cmB aw3) = (aw3, 0) := by kernel_rfl
theorem bs3i : Tryd.prog.builtSlice 3 3 [(0, .int .i64 1), (1, .int .i64 2), (2, .int .i64 14)] = some (aw3.map (Value.int .i64)).toArray := by kernel_rfl
set_option maxHeartbeats 1600000 in
set_option maxRecDepth 20000 in
theorem law_awake15 (w : World) (ht : TabT w) : Calls Tryd.prog 11 #[] w fun e w' => e = .returned (.bool true) ∧ Below w.heap.size w w' := by
  have HT := Lib.hid ht
  have HCM : Hid (∀ A c w, SeesP w (· < w.heap.size) A (aw3.map (Value.int .i64)) → TabT w → Calls Tryd.prog 17 #[.slice A 3 c] w fun e w' => ∃ b o c', e = .returned (.tuple #[.slice (some ⟨b, o, none⟩) 23 c', .int .i64 0]) ∧ SeesP w' (· < w'.heap.size) (some ⟨b, o, none⟩) (Us (cmB aw3)) ∧ Below w.heap.size w w' ∧ 23 ≤ c') := Lib.hid fun A c w hs ht => by
    refine (p_common aw3 3 rfl (by decide) A c w ht (by decide) hs).mono fun e w' h => ?_
    obtain ⟨A', c', h1, h2, h3, h4⟩ := h
    rw [awk15_l, awk15_e] at h1
    rw [awk15_l] at h4
    rcases h2 with h2 | ⟨b, o, rfl, h5, h6⟩
    · have := congrArg List.length h2
      rw [Us_length, awk15_l] at this
      cases this
    · exact ⟨b, o, c', h1, .inr ⟨b, o, rfl, h5, h6⟩, h3, h4⟩
  have HGP : Hid (∀ A c w, 23 ≤ c → SeesP w (· < w.heap.size) A (Us (cmB aw3)) → TabT w → Calls Tryd.prog 24 #[.slice A 23 c] w fun e w' => ∃ b o c', e = .returned (.tuple #[.slice (some ⟨b, o, none⟩) 3 c', .int .i64 0]) ∧ w'.cell? ⟨b, o + 2, none⟩ = some (.int .i64 14) ∧ Below w.heap.size w w') := Lib.hid fun A c w hc hs ht => by
    refine (p_groups15 (cmB aw3) 23 awk15_l (by decide) A c hc w ht hs).mono fun e w' h => ?_
    obtain ⟨A', c', h1, h2, h3⟩ := h
    rw [awk15_g] at h1 h2
    rcases h2 with h2 | ⟨b, o, rfl, h5, h6⟩
    · cases h2
    · exact ⟨b, o, c', h1, h6 2 (by decide), h3⟩
  clear ht
  go_enter Tryd.func11, Tryd.ntmps11
  go_wp2_with (first
    | ((with_reducible refine at_any_ (d := 6) ?_); go_must (refine wpList_bslV rfl 29 3 3 _ rfl Tryd.underlying29 (pvv3 rfl rfl rfl) bs3i ?_); intro g1 w1 hf hr; have H1 := Lib.hid (show Below w.heap.size w w1 ∧ SeesP w1 (· < w1.heap.size) (some ⟨g1, 0, none⟩) (aw3.map (Value.int .i64)) from ⟨hf.bw, .inr ⟨g1, 0, rfl, hr.lt, fun j hj => by rw [Nat.zero_add, hr.cell]⟩⟩); clear hf hr)
    | (go_at_call 17; ((with_reducible refine (HCM.out _ _ _ H1.out.2 (HT.out.on H1.out.1)).mono ?_); rintro e w2 ⟨b2, o2, c2, rfl, hs, hb, hc⟩); have H2 := Lib.hid (show Below w.heap.size w w2 ∧ SeesP w2 (· < w2.heap.size) (some ⟨b2, o2, none⟩) (Us (cmB aw3)) ∧ 23 ≤ c2 from ⟨below_on H1.out.1 hb, hs, hc⟩); clear hs hb hc)
    | (go_at_call 24; ((with_reducible refine (HGP.out _ _ _ H2.out.2.2 H2.out.2.1 (HT.out.on H2.out.1)).mono ?_); rintro e w3 ⟨b3, o3, c3, rfl, y1, hb⟩); have H3 := Lib.hid (below_on H2.out.1 hb); have y0 : w3.cell? ⟨b2, o2, none⟩ = some (.int .u8 96) := ((SeesP.on2 H2.out.2.1 hb).src _ rfl 0 _ awk15_h); clear hb))
  go_ret
  exact ⟨rfl, H3.out⟩
def own15 : Own15 where
  T := TabT
  on := fun h hb => h.on hb
  tag := fun n w ht lo hi => (p_tag n w ht lo hi).mono fun _ _ ⟨h1, h2⟩ => ⟨h1, by rw [h2]; exact Below.refl _ _⟩
  group := fun n w ht _ _ => (p_group n w ht).mono fun _ _ ⟨h1, h2⟩ => ⟨h1, by rw [h2]; exact Below.refl _ _⟩
  file := fun n w _ lo hi => (p_file n w lo hi).mono fun _ _ ⟨h1, h2⟩ => ⟨h1, by rw [h2]; exact Below.refl _ _⟩
  wrap := fun n f lk h A c w ht lo hi hsz hok _ hs => (p_wrap n f lk h A c w ht lo hi hsz hok hs).mono fun _ _ h => h.wide
  common := fun o n h hm A c w ht hr hs => (p_common o n h hm A c w ht hr hs).mono fun _ _ h => h.wide
  active := fun x w ht => (p_active x w ht).mono fun _ _ h => h.wide
  aw := fun w ht _ => law_awake15 w ht
end Go.Proofs.YtkgfdbbdmchmeaaDoor
