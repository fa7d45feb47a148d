/-
  What is proved here: an info read out of its object, by the reference.
-/
import Derived.Test.YtmkggpgpiepjfaaDoorZJn
namespace Go.Proofs.YtmkggpgpiepjfaaDoor
open Go.RowKit
set_option maxRecDepth 8000
set_option linter.unusedVariables false
set_option linter.unusedSimpArgs false
theorem rcons_n {t : Int} {lk lv m : Nat} {tag : Int} : rPrim t lk lv tag (m : Int) = true ↔ t = tag ∧ lv = 0 ∧ lk = m := by
  unfold rPrim
  have h : ¬ ((m : Int) < 0) := by omega
  simp [h]
  intro _ _
  omega
theorem HoldsP.tail {w : World} {p : Nat → Prop} {t : Int} {v : List UInt8} {k r : F} {cs : List Value} (h : HoldsP w p (.cons t v k r) cs) : HoldsP w p r (cs.drop 3) := by
  obtain ⟨Av, cv, Ak, ck, ks, cs', e, _, _, _, _, h4⟩ := h
  rw [e]; exact h4
theorem HoldsP.drop {w : World} {p : Nat → Prop} : ∀ {f : F} {cs : List Value} (j : Nat), HoldsP w p f cs → HoldsP w p (f.drop j) (cs.drop (3 * j))
  | f, cs, 0, h => by cases f <;> simpa [F.drop] using h
  | .nil, cs, j + 1, h => by
    have h : cs = [] := h
    subst h
    simp [F.drop, HoldsP]
  | .cons _ _ _ r, cs, j + 1, h => by
    have h2 := HoldsP.drop j h.tail
    rw [List.drop_drop, show 3 + 3 * j = 3 * (j + 1) by omega] at h2
    exact h2
theorem node_atF {w : World} {p : Nat → Prop} {A : Option Addr} {f : F} {j : Nat} {t : Int} {v : List UInt8} {k r : F} (h : SeesF w p A f) (hg : f.drop j = .cons t v k r) :
    ∃ b off Av cv Ak ck, A = some ⟨b, off, none⟩ ∧ p b ∧ w.rangeAt b (off + j * 3) (nodV t Av v.length cv Ak k.len ck) ∧ (Av = none → cv = 0) ∧ SeesP w p Av (Us v) ∧ SeesF w p Ak k := by
  obtain ⟨cs, h1, h2⟩ := h
  have h3 := h2.drop j
  rw [hg] at h3
  obtain ⟨Av, cv, Ak, ck, ks, cs', e, h0, g1, g2, g3, g4⟩ := h3
  have hl : 3 * j + 2 < cs.length := by
    have := congrArg List.length e
    simp only [List.length_drop, List.length_cons] at this
    omega
  rcases h1 with h1 | ⟨b, off, rfl, hb, hc⟩
  · subst h1; simp at hl
  · refine ⟨b, off, Av, cv, Ak, ck, rfl, hb, fun i u hu => ?_, h0, g1, ks, g2, g3⟩
    have hi : i < 3 := by
      have := (List.getElem?_eq_some_iff.1 hu).1
      simpa [nodV] using this
    rw [show off + j * 3 + i = off + (3 * j + i) by omega, hc _ (by omega), ← List.getElem?_drop, e, ← hu]
    obtain rfl | rfl | rfl : i = 0 ∨ i = 1 ∨ i = 2 := by omega
    all_goals rfl
theorem fa_do1 (g o : Nat) (w : World) : (Instr.fieldAt 54 (.pointer (some ⟨g, o, none⟩)) 1).run Tryd.prog w = .ok (.pointer (some ⟨g, o + 1, none⟩)) w := by kernel_rfl
theorem ix_nod1 (g o n c : Nat) (hk : 1 < n) (w : World) : (Instr.indexAt 52 (.slice (some ⟨g, o, none⟩) n c) (.int .i64 1)).run Tryd.prog w = .ok (.pointer (some ⟨g, o + 3, none⟩)) w := by
  have h := ix_nod g o n c 1 hk w
  exact h
theorem ix_nod2 (g o n c : Nat) (hk : 2 < n) (w : World) : (Instr.indexAt 52 (.slice (some ⟨g, o, none⟩) n c) (.int .i64 2)).run Tryd.prog w = .ok (.pointer (some ⟨g, o + 6, none⟩)) w := by
  have h := ix_nod g o n c 2 hk w
  exact h
theorem ix_nod3 (g o n c : Nat) (hk : 3 < n) (w : World) : (Instr.indexAt 52 (.slice (some ⟨g, o, none⟩) n c) (.int .i64 3)).run Tryd.prog w = .ok (.pointer (some ⟨g, o + 9, none⟩)) w := by
  have h := ix_nod g o n c 3 hk w
  exact h
theorem o_len {P : Program} {a : Act} {w : World} {K : Act → World → Prop} {Q : Exit → Act → World → Prop} {o : Oper} (x : Operand) (t : TypeId) (ho : o.op = .call { callee := .builtin .len, args := #[x], argTypes := #[t] }) {e : TypeId} (hu : Sem.run P (underlying t) w = .ok (.slice e) w) {A : Option Addr} {n c : Nat} (hx : a.eval x = .slice A n c) (hK : K (a.put o.dst (.int .i64 (n : Int))) w) : o.wp P a w K Q := by
  unfold Oper.wp
  simp [execOp, ho, resolve, invoke, builtin, Builtin.len_, hx, hu, Sem.run_pure, Result.andThen]
  exact hK
theorem wpList_bldI {P : Program} {ops : Array Oper} {rest : List Oper} {o : Oper} {a : Act} {w : World} {Q : Exit → Act → World → Prop} (hgd : o.guard = none) (t : TypeId) (parts : Array (Nat × Operand)) (ho : o.op = .build t parts) {ps : List (Nat × Value)} (hp : (parts.map fun (i, x) => (i, a.eval x)).toList = ps) {vs : List Value} (hb : P.built t ps = some vs.toArray)
    (hK : wpList P ops Q rest (a.put o.dst (.agg vs.toArray)) w) : wpList P ops Q (o :: rest) a w :=
  wpList_plain hgd fun _ hK2 => o_bld t parts ho hp hb (hK2 _ _ hK)
theorem peb1 {a : Act} {x0 : Operand} {u0 : Value} (h0 : a.eval x0 = u0) : ((#[(1, x0)] : Array (Nat × Operand)).map fun (i, x) => (i, a.eval x)).toList = [(1, u0)] := by simp [h0]
theorem bldI1 (n : Int) : Tryd.prog.built 44 [(1, .int .i64 n)] = some (⟨0, n, 0, 0, 0⟩ : Im).cs.toArray := by kernel_rfl
theorem numT_a0 {x : Im} {c : Nat} {r : F} (h : r.len ≠ 1) : numT x [(2, 1, c)] r = none := by
  match r, h with
  | .nil, _ => rfl
  | .cons t v k .nil, h => exact absurd rfl h
  | .cons t v k (.cons _ _ _ _), _ =>
    unfold numT
    split <;> rfl
theorem numT_a {x : Im} {c : Nat} {t : Int} {v : List UInt8} {k : F} : numT x [(2, 1, c)] (.cons t v k .nil) = if t = 2 ∧ v.length = 1 then some (x.put c (numL v : Nat)) else none := by
  unfold numT
  split <;> rfl
theorem numT_b0 {x : Im} {c d : Nat} {r : F} (h : r.len ≠ 2) : numT x [(4, 4, c), (2, 1, d)] r = none := by
  match r, h with
  | .nil, _ => rfl
  | .cons t v k r, h =>
    unfold numT
    split
    · exact numT_a0 fun e => h (by simp [F.len, e])
    · rfl
theorem numT_b {x : Im} {c d : Nat} {t t2 : Int} {v v2 : List UInt8} {k k2 : F} : numT x [(4, 4, c), (2, 1, d)] (.cons t v k (.cons t2 v2 k2 .nil)) = if t = 4 ∧ v.length = 4 then (if t2 = 2 ∧ v2.length = 1 then some ((x.put c (numL v : Nat)).put d (numL v2 : Nat)) else none) else none := by
  unfold numT
  rw [numT_a]
theorem numT_c {x : Im} {r : F} : numT x [] r = if r.len = 0 then some x else none := by
  match r with
  | .nil => rfl
  | .cons t v k r =>
    rw [if_neg (by simp [F.len])]
    rfl
theorem infT_one {t : Int} {k : F} (h : k.len < 2) : infT t k = none := by
  match k, h with
  | .nil, _ => rfl
  | .cons t0 v0 k0 .nil, _ =>
    by_cases h48 : t = 48
    · rw [infT_cons h48]
      by_cases h6 : t0 = 6
      · rw [if_pos h6]
        rcases h : idT v0 with _ | p
        · rfl
        · show numT ⟨p, 0, 0, 0, 0⟩ (numsI p) .nil = none
          unfold numsI
          rfl
      · rw [if_neg h6]
    · exact infT_no (.inl h48)
  | .cons _ _ _ (.cons _ _ _ _), h => simp [F.len] at h; omega
theorem infT_two {t t0 t1 : Int} {v0 v1 : List UInt8} {k0 k1 r : F} (h48 : t = 48) (h : ¬ (t0 = 6 ∧ v0.length = 9) ∨ ¬ (t1 = 2 ∧ v1.length = 1)) : infT t (.cons t0 v0 k0 (.cons t1 v1 k1 r)) = none := by
  rw [infT_cons h48]
  by_cases h6 : t0 = 6
  · rw [if_pos h6]
    rcases h2 : idT v0 with _ | p
    · rfl
    · have h9 : v0.length = 9 := by rw [(idT_some h2).1, idL_len]
      have h3 : ¬ (t1 = 2 ∧ v1.length = 1) := by
        rcases h with h | h
        · exact absurd ⟨h6, h9⟩ h
        · exact h
      show numT _ (numsI p) _ = none
      unfold numsI numT
      rw [if_neg h3]
  · rw [if_neg h6]
theorem infT_go {t t0 t1 : Int} {v0 v1 : List UInt8} {k0 k1 r : F} {p : Int} (h48 : t = 48) (h6 : t0 = 6) (h1 : t1 = 2) (hv : v1.length = 1) (hp : idT v0 = some p) :
    infT t (.cons t0 v0 k0 (.cons t1 v1 k1 r)) = numT ⟨p, (numL v1 : Nat), 0, 0, 0⟩ (numsI p).tail r := by
  rw [infT_cons h48, if_pos h6, hp]
  show numT _ (numsI p) _ = _
  unfold numsI
  show (if t1 = 2 ∧ v1.length = 1 then _ else none) = _
  rw [if_pos ⟨h1, hv⟩]
  rfl
theorem F.fit_prim {t : Int} {v : List UInt8} {k r : F} {m : Nat} (h : (F.cons t v k r).fit m) (hc : consB t = false) : k = .nil := h.2.2.2.1 hc
theorem F.fit_rest {t : Int} {v : List UInt8} {k r : F} {m : Nat} (h : (F.cons t v k r).fit m) : r.fit m := h.2.2.2.2.2.2
theorem F.fit_kids {t : Int} {v : List UInt8} {k r : F} {m : Nat} (h : (F.cons t v k r).fit m) : k.fit (m - 1) := h.2.2.2.2.2.1
theorem F.fit_cons {t : Int} {v : List UInt8} {k r : F} {m : Nat} (h : (F.cons t v k r).fit m) (hc : consB t = true) : v = [] := h.2.2.1 hc
theorem prim_fit {t tag : Int} {v : List UInt8} {k r : F} {m n : Nat} (h : (F.cons t v k r).fit m) (hc : consB tag = false) : rPrim t v.length k.len tag (n : Int) = true ↔ t = tag ∧ v.length = n := by
  rw [rcons_n]
  constructor
  · exact fun h => ⟨h.1, h.2.2⟩
  · rintro ⟨h1, h2⟩
    subst h1
    rw [F.fit_prim h hc]
    exact ⟨rfl, rfl, h2⟩
def KidAt (w : World) (kb ko : Nat) (tag sz : Int) (g : Bool) (us : List Value) (A : Option Addr) (n c : Nat) : Prop :=
  us.length = 3 ∧ (∀ cur, Below w.heap.size w cur → cur.rangeAt kb ko us) ∧ (∀ w, Calls Tryd.prog 57 #[.agg us.toArray, .int .i64 tag, .int .i64 sz] w fun e w' => e = .returned (.bool g) ∧ Below w.heap.size w w') ∧ us[1]? = some (.slice A n c)
theorem kid_at {w : World} {kb ko : Nat} {t : Int} {v : List UInt8} {k r : F} {m n : Nat} {A : Option Addr} {c : Nat} {B : Option Addr} {d : Nat} (hr : w.rangeAt kb ko (nodV t A v.length c B k.len d)) (hb : kb < w.heap.size) (tag sz : Int) (hsz : sz = (n : Int)) (hf : (F.cons t v k r).fit m) (hc : consB tag = false) :
    ∃ us g, Hid (KidAt w kb ko tag sz g us A v.length c) ∧ (g = true ↔ t = tag ∧ v.length = n) ∧ nodV t A v.length c B k.len d = us :=
  by
  subst hsz
  exact ⟨_, rPrim t v.length k.len tag (n : Int), Lib.hid ⟨rfl, fun cur h => rangeAt_on hr hb h, fun w => r13_prim t A v.length c B k.len d tag (n : Int) w, rfl⟩, prim_fit hf hc, rfl⟩
theorem one_byte {w : World} {p : Nat → Prop} {A : Option Addr} {v : List UInt8} (h : SeesP w p A (Us v)) (hv : v.length = 1) : ∃ b o, A = some ⟨b, o, none⟩ ∧ p b ∧ w.cell? ⟨b, o, none⟩ = some (.int .u8 ((numL v : Nat) : Int)) := by
  obtain ⟨a, rfl⟩ : ∃ a, v = [a] := List.length_eq_one_iff.1 hv
  rcases h with h | ⟨b, o, e, hb, hc⟩
  · simp [Us] at h
  · refine ⟨b, o, e, hb, (hc 0 (by simp [Us])).trans ?_⟩
    simp [Us, U, numL]
set_option maxHeartbeats 12800000 in
set_option maxRecDepth 20000 in
theorem r_info (t : Int) (v : List UInt8) (k r : F) (m0 : Nat) (hfit : (F.cons t v k r).fit m0) (lv : Nat) (hlv : v.length = lv) (lk : Nat) (hlk : k.len = lk) (hlm : lk ≤ 140737488351232) (Av : Option Addr) (cv : Nat) (Ak : Option Addr) (ck : Nat) (w : World) (hk : SeesF w (· < w.heap.size) Ak k) :
    Calls Tryd.prog 36 #[.agg (nodV t Av lv cv Ak lk ck).toArray] w (InfIs (infT t k) w) := by
  obtain ⟨ns, hns⟩ : ∃ ns, nodV t Av lv cv Ak lk ck = ns := ⟨_, rfl⟩
  have HT := Lib.hid (show ns.length = 3 ∧ ns[0]? = some (.int .i64 t) ∧ ns[2]? = some (.slice Ak lk ck) from by rw [← hns]; exact ⟨rfl, rfl, rfl⟩)
  have hco := fun w => r13_cons t Av lv cv Ak lk ck 48 (-1) w
  have hco2 : rPrim t lk lv 48 (-1) = decide (t = 48) := by
    by_cases h : t = 48
    · have : v = [] := F.fit_cons hfit (by rw [h]; decide)
      have : lv = 0 := by rw [← hlv, this]; rfl
      rw [decide_eq_true h]
      exact rcons_iff.2 ⟨h, this⟩
    · rw [decide_eq_false h]
      rcases h2 : rPrim t lk lv 48 (-1) with _ | _
      · rfl
      · exact absurd (rcons_iff.1 h2).1 h
  rw [hco2] at hco
  rw [hns] at hco ⊢
  have hkf := F.fit_kids hfit
  have HB := Lib.hid (Below.refl w.heap.size w)
  clear hns hco2 hfit hlv
  by_cases h48 : t = 48
  case neg =>
    rw [decide_eq_false h48] at hco
    have HCO := Lib.hid hco
    have HN := Lib.hid (show infT t k = none from infT_no (.inl h48))
    clear h48 hk hlk hco hkf
    go_enter Tryd.func36, Tryd.ntmps36
    go_wp2_with (first
      | ((with_reducible refine at_box_ (d := 1) ?_); refine wpList_box_v (op := ⟨some 1, _, _, _, _, _⟩) rfl 54 _ rfl ns rfl ?_; intro g1 w1 hf hr; have H1 := Lib.hid (show _ ∧ _ ∧ _ from ⟨hf.bl HB.out, hr, hf.ge HB.out⟩); clear hf hr)
      | ((with_reducible refine at_alloc_ (d := 2) ?_); refine wpList_alloc_v (op := ⟨some 2, _, _, _, _, _⟩) rfl 44 rfl zerX info_x ?_; intro g2 w2 hf hr; have H2 := Lib.hid (show Below w.heap.size w w2 ∧ RowV w2 g1 ns ∧ RowV w2 g2 zerX ∧ w.heap.size ≤ g2 ∧ g1 ≠ g2 from ⟨hf.bl H1.out.1, H1.out.2.1.fresh hf, hr, hf.ge H1.out.1, H1.out.2.1.ne hf⟩); clear hf hr)
      | ((with_reducible refine at_load_ (d := 6) ?_); refine wpList_load_v rfl 54 (.tmp 1) rfl g1 rfl ns _ H2.out.2.1 Tryd.underlying54 rfl (by rw [HT.out.1]; exact size_n) ?_)
      | (go_at_call 35; ((with_reducible refine (HCO.out _).mono ?_); rintro e w3 ⟨rfl, hb⟩); have H3 := Lib.hid (show Below w.heap.size w w3 ∧ RowV w3 g1 ns ∧ RowV w3 g2 zerX from ⟨below_on H2.out.1 hb, H2.out.2.1.on hb, H2.out.2.2.1.on hb⟩); have q2 := ((H2.out.2.1.on hb).cell 2).trans HT.out.2.2; clear hb)
      | ((with_reducible refine at_store_ (i := 2) ?_); refine wpList_store_v rfl 44 (.tmp 2) (.tmp 31) rfl g2 zerX zerI.cs rfl rfl (H3.out.2.2) rfl (Im.cs_one _) size_x ?_; intro wz hw hr; have HZ := Lib.hid (show _ ∧ _ from ⟨Wr.bl H3.out.1 hw H2.out.2.2.2.1, hr⟩); clear hw hr))
    exact bodyPost_ret (results_v1 rfl _ _ g2 zerI.cs _ rfl HZ.out.2 Tryd.underlying44 rfl size_x) rfl ⟨zerI, by rw [HN.out]; rfl, fun y h => (by rw [HN.out] at h; cases h), HZ.out.1⟩
  case pos =>
  rw [decide_eq_true h48] at hco
  have HCO := Lib.hid hco
  clear hco
  by_cases h0 : lk < 2
  · have HN := Lib.hid (show infT t k = none from infT_one (by omega))
    have d0 : decide ((lk : Int) < 2) = true := by simp; omega
    clear h48 hk hlk hkf h0
    go_enter Tryd.func36, Tryd.ntmps36
    go_wp2_with (first
      | ((with_reducible refine at_box_ (d := 1) ?_); refine wpList_box_v (op := ⟨some 1, _, _, _, _, _⟩) rfl 54 _ rfl ns rfl ?_; intro g1 w1 hf hr; have H1 := Lib.hid (show _ ∧ _ ∧ _ from ⟨hf.bl HB.out, hr, hf.ge HB.out⟩); clear hf hr)
      | ((with_reducible refine at_alloc_ (d := 2) ?_); refine wpList_alloc_v (op := ⟨some 2, _, _, _, _, _⟩) rfl 44 rfl zerX info_x ?_; intro g2 w2 hf hr; have H2 := Lib.hid (show Below w.heap.size w w2 ∧ RowV w2 g1 ns ∧ RowV w2 g2 zerX ∧ w.heap.size ≤ g2 ∧ g1 ≠ g2 from ⟨hf.bl H1.out.1, H1.out.2.1.fresh hf, hr, hf.ge H1.out.1, H1.out.2.1.ne hf⟩); clear hf hr)
      | ((with_reducible refine at_load_ (d := 6) ?_); refine wpList_load_v rfl 54 (.tmp 1) rfl g1 rfl ns _ H2.out.2.1 Tryd.underlying54 rfl (by rw [HT.out.1]; exact size_n) ?_)
      | (go_at_call 35; ((with_reducible refine (HCO.out _).mono ?_); rintro e w3 ⟨rfl, hb⟩); have H3 := Lib.hid (show Below w.heap.size w w3 ∧ RowV w3 g1 ns ∧ RowV w3 g2 zerX from ⟨below_on H2.out.1 hb, H2.out.2.1.on hb, H2.out.2.2.1.on hb⟩); have q2 := ((H2.out.2.1.on hb).cell 2).trans HT.out.2.2; clear hb)
      | ((with_reducible refine at_store_ (i := 2) ?_); refine wpList_store_v rfl 44 (.tmp 2) (.tmp 31) rfl g2 zerX zerI.cs rfl rfl (H3.out.2.2) rfl (Im.cs_one _) size_x ?_; intro wz hw hr; have HZ := Lib.hid (show _ ∧ _ from ⟨Wr.bl H3.out.1 hw H2.out.2.2.2.1, hr⟩); clear hw hr))
    exact bodyPost_ret (results_v1 rfl _ _ g2 zerI.cs _ rfl HZ.out.2 Tryd.underlying44 rfl size_x) rfl ⟨zerI, by rw [HN.out]; rfl, fun y h => (by rw [HN.out] at h; cases h), HZ.out.1⟩
  have d0 : decide ((lk : Int) < 2) = false := by simp; omega
  obtain ⟨t0, v0, k0, t1, v1, k1, r1, rfl⟩ : ∃ t0 v0 k0 t1 v1 k1 r1, k = .cons t0 v0 k0 (.cons t1 v1 k1 r1) := by
    match k, hlk with
    | .nil, hlk => simp [F.len] at hlk; omega
    | .cons _ _ _ .nil, hlk => simp [F.len] at hlk; omega
    | .cons a b c (.cons d e f g), _ => exact ⟨a, b, c, d, e, f, g, rfl⟩
  obtain ⟨kb, ko, A0, c0, B0, dd0, rfl, hkb, hkr0, _, hs0, _⟩ := node_atF (j := 0) hk rfl
  obtain ⟨kb', ko', A1, c1, B1, dd1, e1, _, hkr1, _, hs1, _⟩ := node_atF (j := 1) hk rfl
  cases e1
  rw [Nat.zero_mul, Nat.add_zero] at hkr0
  rw [Nat.one_mul] at hkr1
  obtain ⟨us0, g0, HU0, hg0, hus0⟩ := kid_at (n := 9) hkr0 hkb 6 9 rfl hkf (by decide)
  obtain ⟨us1, g1, HU1, hg1, hus1⟩ := kid_at (n := 1) hkr1 hkb 2 1 rfl (F.fit_rest hkf) (by decide)
  unfold KidAt at HU0 HU1
  have hkf2 := F.fit_rest (F.fit_rest hkf)
  have ix0 := fun w => ix_nod0 kb ko lk ck (by omega) w
  have ix1 := fun w => ix_nod1 kb ko lk ck (by omega) w
  clear hus0 hus1
  rcases g0 with _ | _
  · have HN := Lib.hid (show infT t (.cons t0 v0 k0 (.cons t1 v1 k1 r1)) = none from infT_two h48 (.inl fun h => Bool.noConfusion (hg0.2 h)))
    clear h48 hk hlk hkf h0 hkr0 hkr1 hg0 hg1 hkf2 hs0 hs1 hkb
    go_enter Tryd.func36, Tryd.ntmps36
    go_wp2_with (first
      | ((with_reducible refine at_box_ (d := 1) ?_); refine wpList_box_v (op := ⟨some 1, _, _, _, _, _⟩) rfl 54 _ rfl ns rfl ?_; intro g1 w1 hf hr; have H1 := Lib.hid (show _ ∧ _ ∧ _ from ⟨hf.bl HB.out, hr, hf.ge HB.out⟩); clear hf hr)
      | ((with_reducible refine at_alloc_ (d := 2) ?_); refine wpList_alloc_v (op := ⟨some 2, _, _, _, _, _⟩) rfl 44 rfl zerX info_x ?_; intro g2 w2 hf hr; have H2 := Lib.hid (show Below w.heap.size w w2 ∧ RowV w2 g1 ns ∧ RowV w2 g2 zerX ∧ w.heap.size ≤ g2 ∧ g1 ≠ g2 from ⟨hf.bl H1.out.1, H1.out.2.1.fresh hf, hr, hf.ge H1.out.1, H1.out.2.1.ne hf⟩); clear hf hr)
      | ((with_reducible refine at_load_ (d := 6) ?_); refine wpList_load_v rfl 54 (.tmp 1) rfl g1 rfl ns _ H2.out.2.1 Tryd.underlying54 rfl (by rw [HT.out.1]; exact size_n) ?_)
      | (go_at_call 35; ((with_reducible refine (HCO.out _).mono ?_); rintro e w3 ⟨rfl, hb⟩); have H3 := Lib.hid (show Below w.heap.size w w3 ∧ RowV w3 g1 ns ∧ RowV w3 g2 zerX from ⟨below_on H2.out.1 hb, H2.out.2.1.on hb, H2.out.2.2.1.on hb⟩); have q2 := ((H2.out.2.1.on hb).cell 2).trans HT.out.2.2; clear hb)
      | ((with_reducible refine at_load_ (d := 19) ?_); refine wpList_load_midg (by rfl) 54 (.tmp 18) rfl kb ko rfl us0 _ (HU0.out.2.1 _ H3.out.1) Tryd.underlying54 rfl (by rw [HU0.out.1]; exact size_n) ?_)
      | (go_at_call 57; ((with_reducible refine (HU0.out.2.2.1 _).mono ?_); rintro e w4 ⟨rfl, hb⟩); have H4 := Lib.hid (show Below w.heap.size w w4 ∧ RowV w4 g1 ns ∧ RowV w4 g2 zerX from ⟨below_on H3.out.1 hb, H3.out.2.1.on hb, H3.out.2.2.on hb⟩); have q2 := ((H3.out.2.1.on hb).cell 2).trans HT.out.2.2; clear hb)
      | ((with_reducible refine at_store_ (i := 2) ?_); refine wpList_store_v rfl 44 (.tmp 2) (.tmp 31) rfl g2 zerX zerI.cs rfl rfl (H4.out.2.2) rfl (Im.cs_one _) size_x ?_; intro wz hw hr; have HZ := Lib.hid (show _ ∧ _ from ⟨Wr.bl H4.out.1 hw H2.out.2.2.2.1, hr⟩); clear hw hr))
    exact bodyPost_ret (results_v1 rfl _ _ g2 zerI.cs _ rfl HZ.out.2 Tryd.underlying44 rfl size_x) rfl ⟨zerI, by rw [HN.out]; rfl, fun y h => (by rw [HN.out] at h; cases h), HZ.out.1⟩
  rcases g1 with _ | _
  · have HN := Lib.hid (show infT t (.cons t0 v0 k0 (.cons t1 v1 k1 r1)) = none from infT_two h48 (.inr fun h => Bool.noConfusion (hg1.2 h)))
    clear h48 hk hlk hkf h0 hkr0 hkr1 hg0 hg1 hkf2 hs0 hs1 hkb
    go_enter Tryd.func36, Tryd.ntmps36
    go_wp2_with (first
      | ((with_reducible refine at_box_ (d := 1) ?_); refine wpList_box_v (op := ⟨some 1, _, _, _, _, _⟩) rfl 54 _ rfl ns rfl ?_; intro g1 w1 hf hr; have H1 := Lib.hid (show _ ∧ _ ∧ _ from ⟨hf.bl HB.out, hr, hf.ge HB.out⟩); clear hf hr)
      | ((with_reducible refine at_alloc_ (d := 2) ?_); refine wpList_alloc_v (op := ⟨some 2, _, _, _, _, _⟩) rfl 44 rfl zerX info_x ?_; intro g2 w2 hf hr; have H2 := Lib.hid (show Below w.heap.size w w2 ∧ RowV w2 g1 ns ∧ RowV w2 g2 zerX ∧ w.heap.size ≤ g2 ∧ g1 ≠ g2 from ⟨hf.bl H1.out.1, H1.out.2.1.fresh hf, hr, hf.ge H1.out.1, H1.out.2.1.ne hf⟩); clear hf hr)
      | ((with_reducible refine at_load_ (d := 6) ?_); refine wpList_load_v rfl 54 (.tmp 1) rfl g1 rfl ns _ H2.out.2.1 Tryd.underlying54 rfl (by rw [HT.out.1]; exact size_n) ?_)
      | (go_at_call 35; ((with_reducible refine (HCO.out _).mono ?_); rintro e w3 ⟨rfl, hb⟩); have H3 := Lib.hid (show Below w.heap.size w w3 ∧ RowV w3 g1 ns ∧ RowV w3 g2 zerX from ⟨below_on H2.out.1 hb, H2.out.2.1.on hb, H2.out.2.2.1.on hb⟩); have q2 := ((H2.out.2.1.on hb).cell 2).trans HT.out.2.2; clear hb)
      | ((with_reducible refine at_load_ (d := 19) ?_); refine wpList_load_midg (by rfl) 54 (.tmp 18) rfl kb ko rfl us0 _ (HU0.out.2.1 _ H3.out.1) Tryd.underlying54 rfl (by rw [HU0.out.1]; exact size_n) ?_)
      | (go_at_call 57; ((with_reducible refine (HU0.out.2.2.1 _).mono ?_); rintro e w4 ⟨rfl, hb⟩); have H4 := Lib.hid (show Below w.heap.size w w4 ∧ RowV w4 g1 ns ∧ RowV w4 g2 zerX from ⟨below_on H3.out.1 hb, H3.out.2.1.on hb, H3.out.2.2.on hb⟩); have q2 := ((H3.out.2.1.on hb).cell 2).trans HT.out.2.2; clear hb)
      | ((with_reducible refine at_load_ (d := 27) ?_); refine wpList_load_midg (by rfl) 54 (.tmp 26) rfl kb (ko + 3) rfl us1 _ (HU1.out.2.1 _ H4.out.1) Tryd.underlying54 rfl (by rw [HU1.out.1]; exact size_n) ?_)
      | (go_at_call 57; ((with_reducible refine (HU1.out.2.2.1 _).mono ?_); rintro e w5 ⟨rfl, hb⟩); have H5 := Lib.hid (show Below w.heap.size w w5 ∧ RowV w5 g1 ns ∧ RowV w5 g2 zerX from ⟨below_on H4.out.1 hb, H4.out.2.1.on hb, H4.out.2.2.on hb⟩); have q2 := ((H4.out.2.1.on hb).cell 2).trans HT.out.2.2; clear hb)
      | ((with_reducible refine at_store_ (i := 2) ?_); refine wpList_store_v rfl 44 (.tmp 2) (.tmp 31) rfl g2 zerX zerI.cs rfl rfl (H5.out.2.2) rfl (Im.cs_one _) size_x ?_; intro wz hw hr; have HZ := Lib.hid (show _ ∧ _ from ⟨Wr.bl H5.out.1 hw H2.out.2.2.2.1, hr⟩); clear hw hr))
    exact bodyPost_ret (results_v1 rfl _ _ g2 zerI.cs _ rfl HZ.out.2 Tryd.underlying44 rfl size_x) rfl ⟨zerI, by rw [HN.out]; rfl, fun y h => (by rw [HN.out] at h; cases h), HZ.out.1⟩
  obtain ⟨ht0, hv0⟩ := hg0.1 rfl
  obtain ⟨ht1, hv1⟩ := hg1.1 rfl
  obtain ⟨b1, o1, rfl, hb1, hcell1⟩ := one_byte hs1 hv1
  obtain ⟨vb, hvb⟩ : ∃ q, numL v1 = q := ⟨_, rfl⟩
  have hgo : ∀ p, idT v0 = some p → infT t (.cons t0 v0 k0 (.cons t1 v1 k1 r1)) = numT ⟨p, (vb : Int), 0, 0, 0⟩ (numsI p).tail r1 := fun p hp => by rw [infT_go h48 ht0 ht1 hv1 hp, hvb]
  have hno : idT v0 = none → infT t (.cons t0 v0 k0 (.cons t1 v1 k1 r1)) = none := fun h => by rw [infT_cons h48, h]; split <;> rfl
  have hvw : wrap64 (vb : Int) = (vb : Int) := by
    have : vb < 256 := by
      rw [← hvb]
      obtain ⟨a, rfl⟩ := List.length_eq_one_iff.1 hv1
      simp only [numL, List.foldl]
      have := a.toNat_lt
      simp
      omega
    unfold wrap64
    omega
  have HK1 := Lib.hid (show (∀ cur, Below w.heap.size w cur → cur.cell? ⟨kb, ko + 3 + 1, none⟩ = some (.slice (some ⟨b1, o1, none⟩) 1 c1)) ∧ (∀ cur, Below w.heap.size w cur → cur.cell? ⟨b1, o1, none⟩ = some (.int .u8 (vb : Int))) from ⟨fun cur h => by
    have := HU1.out.2.1 cur h 1 _ HU1.out.2.2.2
    rw [hv1] at this
    exact this, fun cur h => (h.cell hb1).trans (by rw [← hvb]; exact hcell1)⟩)
  have HK := Lib.hid (show 0 < lk ∧ (∀ cur, Below w.heap.size w cur → cur.cell? ⟨kb, ko + 1, none⟩ = some (.slice A0 9 c0)) ∧ (∀ c, Below w.heap.size w c → ∀ A2 c2 (p : Int), SeesP c (· < c.heap.size) A2 (Us (idL p)) → Calls Tryd.prog 15 #[.slice A0 9 c0, .slice A2 9 c2] c fun e w' => e = .returned (.bool (sameB v0 (idL p))) ∧ Below c.heap.size c w') from ⟨by omega, fun cur h => by
    have := HU0.out.2.1 cur h 1 _ HU0.out.2.2.2
    rw [hv0] at this
    exact this, fun c h A2 c2 p h2 => by
    have := ref_same_b A0 A2 c0 c2 v0 (idL p) c (SeesP.iff_sees.1 (SeesP.on2 hs0 h)) (SeesP.iff_sees.1 h2) (by rw [hv0]; decide)
    rw [hv0, idL_len] at this
    exact this⟩)
  have hlr : r1.len + 2 = lk := by rw [← hlk]; rfl
  subst h48
  have HGO := Lib.hid (show _ ∧ _ from ⟨hgo, hno⟩)
  have HHK := Lib.hid (show SeesF w (· < w.heap.size) (some ⟨kb, ko, none⟩) (.cons t0 v0 k0 (.cons t1 v1 k1 r1)) ∧ r1.fit (m0 - 1) ∧ r1.len + 2 = lk from ⟨hk, hkf2, hlr⟩)
  have h02 : 2 ≤ lk := by omega
  clear hk hlk hkf h0 hkr0 hkr1 hg0 hg1 hs0 hs1 hkb hgo hno hcell1 hb1 hvb hv1 hv0 ht0 ht1 hkf2 hlr
  go_enter Tryd.func36, Tryd.ntmps36
  go_wp2_with (first
      | ((with_reducible refine at_box_ (d := 1) ?_); refine wpList_box_v (op := ⟨some 1, _, _, _, _, _⟩) rfl 54 _ rfl ns rfl ?_; intro g1 w1 hf hr; have H1 := Lib.hid (show _ ∧ _ ∧ _ from ⟨hf.bl HB.out, hr, hf.ge HB.out⟩); clear hf hr)
      | ((with_reducible refine at_alloc_ (d := 2) ?_); refine wpList_alloc_v (op := ⟨some 2, _, _, _, _, _⟩) rfl 44 rfl zerX info_x ?_; intro g2 w2 hf hr; have H2 := Lib.hid (show Below w.heap.size w w2 ∧ RowV w2 g1 ns ∧ RowV w2 g2 zerX ∧ w.heap.size ≤ g2 ∧ g1 ≠ g2 from ⟨hf.bl H1.out.1, H1.out.2.1.fresh hf, hr, hf.ge H1.out.1, H1.out.2.1.ne hf⟩); clear hf hr)
      | ((with_reducible refine at_load_ (d := 6) ?_); refine wpList_load_v rfl 54 (.tmp 1) rfl g1 rfl ns _ H2.out.2.1 Tryd.underlying54 rfl (by rw [HT.out.1]; exact size_n) ?_)
      | (go_at_call 35; ((with_reducible refine (HCO.out _).mono ?_); rintro e w3 ⟨rfl, hb⟩); have H3 := Lib.hid (show Below w.heap.size w w3 ∧ RowV w3 g1 ns ∧ RowV w3 g2 zerX from ⟨below_on H2.out.1 hb, H2.out.2.1.on hb, H2.out.2.2.1.on hb⟩); have q2 := ((H2.out.2.1.on hb).cell 2).trans HT.out.2.2; clear hb)
      | ((with_reducible refine at_load_ (d := 19) ?_); refine wpList_load_midg (by rfl) 54 (.tmp 18) rfl kb ko rfl us0 _ (HU0.out.2.1 _ H3.out.1) Tryd.underlying54 rfl (by rw [HU0.out.1]; exact size_n) ?_)
      | (go_at_call 57; ((with_reducible refine (HU0.out.2.2.1 _).mono ?_); rintro e w4 ⟨rfl, hb⟩); have H4 := Lib.hid (show Below w.heap.size w w4 ∧ RowV w4 g1 ns ∧ RowV w4 g2 zerX from ⟨below_on H3.out.1 hb, H3.out.2.1.on hb, H3.out.2.2.on hb⟩); have q2 := ((H3.out.2.1.on hb).cell 2).trans HT.out.2.2; clear hb)
      | ((with_reducible refine at_load_ (d := 27) ?_); refine wpList_load_midg (by rfl) 54 (.tmp 26) rfl kb (ko + 3) rfl us1 _ (HU1.out.2.1 _ H4.out.1) Tryd.underlying54 rfl (by rw [HU1.out.1]; exact size_n) ?_)
      | (go_at_call 57; ((with_reducible refine (HU1.out.2.2.1 _).mono ?_); rintro e w5 ⟨rfl, hb⟩); have H5 := Lib.hid (show Below w.heap.size w w5 ∧ RowV w5 g1 ns ∧ RowV w5 g2 zerX from ⟨below_on H4.out.1 hb, H4.out.2.1.on hb, H4.out.2.2.on hb⟩); have q2 := ((H4.out.2.1.on hb).cell 2).trans HT.out.2.2; have m2 := HK1.out.1 _ (below_on H4.out.1 hb); have m3 := HK1.out.2 _ (below_on H4.out.1 hb); clear hb)
      | ((with_reducible refine at_any_ (d := 40) ?_); go_must (refine wpList_bldI rfl 44 _ rfl (peb1 rfl) (bldI1 _) ?_))
      | ((with_reducible refine at_alloc_ (d := 4) ?_); refine wpList_alloc_v (op := ⟨some 4, _, _, _, _, _⟩) rfl 44 rfl zerX info_x ?_; intro g4 w6 hf hr; have H6 := Lib.hid (show Below w.heap.size w w6 ∧ RowV w6 g1 ns ∧ RowV w6 g2 zerX ∧ RowV w6 g4 zerX ∧ w.heap.size ≤ g4 ∧ g1 ≠ g4 ∧ g2 ≠ g4 from ⟨hf.bl H5.out.1, H5.out.2.1.fresh hf, H5.out.2.2.fresh hf, hr, hf.ge H5.out.1, H5.out.2.1.ne hf, H5.out.2.2.ne hf⟩); clear hf hr)
      | ((with_reducible refine at_store_ (i := 4) ?_); refine wpList_store_v rfl 44 (.tmp 4) (.tmp 40) rfl g4 zerX (⟨0, (vb : Int), 0, 0, 0⟩ : Im).cs rfl (by first | rfl | exact congrArg (fun z : Int => Value.agg (⟨0, z, 0, 0, 0⟩ : Im).cs.toArray) hvw) H6.out.2.2.2.1 rfl (Im.cs_one _) size_x ?_; intro w7 hw hr; have H7 := Lib.hid (show RowV w7 g4 (⟨0, (vb : Int), 0, 0, 0⟩ : Im).cs ∧ Below w.heap.size w w7 ∧ RowV w7 g1 ns ∧ RowV w7 g2 zerX from ⟨hr, Wr.bl H6.out.1 hw H6.out.2.2.2.2.1, H6.out.2.1.wr hw H6.out.2.2.2.2.2.1, H6.out.2.2.1.wr hw H6.out.2.2.2.2.2.2⟩); clear hw hr))
  go_loopw [5] (fun i wr => ∃ (pp : Nat), pp ≤ 7 ∧ 2 ≤ pp ∧ i = .int .i64 (pp : Int) ∧ Hid (∃ q : Int, RowV wr g4 (⟨q, (vb : Int), 0, 0, 0⟩ : Im).cs ∧ Below w.heap.size w wr ∧ RowV wr g1 ns ∧ RowV wr g2 zerX ∧ ((q = 0 ∧ ∀ j : Nat, j + 2 < pp → v0 ≠ idL ((j : Int) + 2)) ∨ idT v0 = some q))) (fun i _ => 7 - (intOf i).toNat)
  case atStart => exact ⟨2, by omega, by omega, rfl, Lib.hid ⟨0, H7.out.1, H7.out.2.1, H7.out.2.2.1, H7.out.2.2.2, .inl ⟨rfl, fun j h => by omega⟩⟩⟩
  case round =>
    obtain ⟨pp, hp7, hp2, rfl, HRx⟩ := hrel
    obtain ⟨q, hq⟩ := HRx.out
    have HR := Lib.hid hq
    clear HRx hq
    by_cases hlt : pp < 7
    · have dj : decide ((pp : Int) ≤ 6) = true := by simp; omega
      obtain ⟨bb, hbb⟩ : ∃ z, sameB v0 (idL (pp : Int)) = z := ⟨_, rfl⟩
      have HBB := Lib.hid hbb
      clear hbb
      go_wp2
      refine region_facts (by kernel_rfl) _ wr (fun c => Below wr.heap.size wr c ∧ RowV c g1 ns ∧ RowV c g4 (⟨q, (vb : Int), 0, 0, 0⟩ : Im).cs ∧ RowV c g2 zerX) 100 (factL [fun u _ => u = .pointer (some ⟨g1, 2, none⟩), fun u _ => u = .slice (some ⟨kb, ko, none⟩) lk ck, fun u _ => u = .pointer (some ⟨kb, ko, none⟩), fun u _ => u = .pointer (some ⟨kb, ko + 1, none⟩), fun u _ => u = .slice A0 9 c0, fun u _ => u = .int .i64 (pp : Int), OctS wr (idL (pp : Int)) 9, fun u _ => u = .bool bb]) (by kernel_rfl) (firm_list (by simp only [List.forall_mem_cons]; exact ⟨firm_eq _, firm_eq _, firm_eq _, firm_eq _, firm_eq _, firm_eq _, OctS.firm _ _ _, firm_eq _, fun X h => by cases h⟩)) (fun c c2 h hb => ⟨below_on h.1 hb, h.2.1.on hb, h.2.2.1.on hb, h.2.2.2.on hb⟩) (Below.refl _ _) ⟨Below.refl _ _, HR.out.2.2.1, HR.out.1, HR.out.2.2.2.1⟩ ?_ ?_
      · refine ops_all (allI.cons ?_ (allI.cons ?_ (allI.cons ?_ (allI.cons ?_ (allI.cons ?_ (allI.cons ?_ (allI.cons ?_ (allI.cons ?_ allI.nil)))))))) <;> intro v S c a hI hw1 hX hSi hdep hS hC
        · exact o_fa _ (.tmp 1) 2 rfl (hS.old 1 rfl) (fa_d2 g1 _) (Step.still rfl)
        · exact o_ld _ (.tmp 45) rfl ((hS.get 0 (dep_at hdep 0 rfl) rfl rfl).trans (hX 0 (dep_at hdep 0 rfl))) ((hI.2.1.cell 2).trans HT.out.2.2) ag_n (Step.still rfl)
        · exact o_ix _ (.tmp 46) (.const (.int .i64 0)) rfl ((hS.get 1 (dep_at hdep 1 rfl) rfl rfl).trans (hX 1 (dep_at hdep 1 rfl))) rfl (ix_nod0 kb ko lk ck HK.out.1 _) (Step.still rfl)
        · exact o_fa _ (.tmp 47) 1 rfl ((hS.get 2 (dep_at hdep 2 rfl) rfl rfl).trans (hX 2 (dep_at hdep 2 rfl))) (fa_do1 kb ko _) (Step.still rfl)
        · exact o_ld _ (.tmp 48) rfl ((hS.get 3 (dep_at hdep 3 rfl) rfl rfl).trans (hX 3 (dep_at hdep 3 rfl))) (HK.out.2.1 _ (below_on HR.out.2.1 hI.1)) ag_u (Step.still rfl)
        · exact o_mv _ rfl (hS.old 5 rfl) (Step.still rfl)
        · refine o_callV (.func 58) 58 #[.tmp 50] _ rfl rfl (ev1 ((hS.get 5 (dep_at hdep 5 rfl) rfl rfl).trans (hX 5 (dep_at hdep 5 rfl)))) (by kernel_rfl) (r_ident (pp : Int) c) (fun e w9 h => ?_)
          obtain ⟨A2, c2, rfl, h2, h3, h4⟩ := h
          exact ⟨_, rfl, Step.new ⟨A2, c2, rfl, h2, h3.imp fun b hb => newB_imp (w := wr) hb hI.1.size (Nat.le_refl _)⟩ h4⟩
        · obtain ⟨A2, c2, e2, h2, h3⟩ := (hX 6 (dep_at hdep 6 rfl))
          refine o_callV (.func 15) 15 #[.tmp 49, .tmp 51] _ rfl rfl (ev2 ((hS.get 4 (dep_at hdep 4 rfl) rfl rfl).trans (hX 4 (dep_at hdep 4 rfl))) ((hS.get 6 (dep_at hdep 6 rfl) rfl rfl).trans e2)) (by kernel_rfl) (HK.out.2.2 _ (below_on HR.out.2.1 hI.1) A2 c2 (pp : Int) (h3.imp fun b hb => hb.2)) (fun e w9 h => ?_)
          obtain ⟨rfl, hb⟩ := h
          exact ⟨_, rfl, Step.new (congrArg Value.bool HBB.out) hb⟩
      · intro v wq hI hX
        have e7 : v 7 = .bool bb := hX 7 (by decide)
        have HQ := Lib.hid (show RowV wq g4 (⟨q, (vb : Int), 0, 0, 0⟩ : Im).cs ∧ Below w.heap.size w wq ∧ RowV wq g1 ns ∧ RowV wq g2 zerX from ⟨hI.2.2.1, below_on HR.out.2.1 hI.1, hI.2.1, hI.2.2.2⟩)
        clear hI hX
        simp only [putAll, Act.put]
        simp
        rw [e7]
        clear e7
        rcases bb with _ | _
        · go_wp2
          go_roundw
          case rel => exact ⟨pp + 1, by omega, by omega, by first | rfl | go_num, Lib.hid ⟨q, HQ.out.1, HQ.out.2.1, HQ.out.2.2.1, HQ.out.2.2.2, by
            rcases HR.out.2.2.2.2 with ⟨h0, h1⟩ | h
            · refine .inl ⟨h0, fun j hj => ?_⟩
              by_cases e : j + 2 = pp
              · intro hh
                have := HBB.out
                rw [hh, show ((j : Int) + 2) = (pp : Int) by omega, sameB_true rfl] at this
                cases this
              · exact h1 j (by omega)
            · exact .inr h⟩⟩
          case measure => simp [intOf]; omega
        · go_wp2_with (first
            | ((with_reducible refine at_store_ (i := 54) ?_); go_must (refine wpList_store_at rfl 3 (.tmp 54) (.tmp 53) rfl g4 0 (⟨q, (vb : Int), 0, 0, 0⟩ : Im).cs (.int .i64 (pp : Int)) rfl rfl HQ.out.1 (by rw [Im.cs_len]; decide) rfl rfl size_i ?_); intro w8 hw hr; have H8 := Lib.hid (show RowV w8 g4 (⟨(pp : Int), (vb : Int), 0, 0, 0⟩ : Im).cs ∧ Below w.heap.size w w8 ∧ RowV w8 g1 ns ∧ RowV w8 g2 zerX from ⟨hr, Wr.bl HQ.out.2.1 hw H6.out.2.2.2.2.1, HQ.out.2.2.1.wr hw H6.out.2.2.2.2.2.1, HQ.out.2.2.2.wr hw H6.out.2.2.2.2.2.2⟩); clear hw hr))
          go_roundw
          case rel => exact ⟨pp + 1, by omega, by omega, by first | rfl | go_num, Lib.hid ⟨(pp : Int), H8.out.1, H8.out.2.1, H8.out.2.2.1, H8.out.2.2.2, .inr (by
            have hv : v0 = idL (pp : Int) := by
              have := HBB.out
              unfold sameB at this
              simpa using this
            have h := idT_at (v := v0) (j := pp - 2) (by omega) (by rw [hv]; congr 1; omega)
            rw [h]
            congr 1
            omega)⟩⟩
          case measure => simp [intOf]; omega
    · obtain rfl : pp = 7 := by omega
      have dj : decide (((7 : Nat) : Int) ≤ 6) = false := by decide
      rcases HR.out.2.2.2.2 with ⟨rfl, h1⟩ | hid
      · have HN := Lib.hid (show infT 48 (.cons t0 v0 k0 (.cons t1 v1 k1 r1)) = none from HGO.out.2 (idT_none fun q hq => h1 q (by omega)))
        have HE := Lib.hid (show _ ∧ _ ∧ _ ∧ _ from ⟨HR.out.1, HR.out.2.1, HR.out.2.2.1, HR.out.2.2.2.1⟩)
        have y0 : wr.cell? ⟨g4, 0, none⟩ = some (.int .i64 0) := (HE.out.1.cell 0).trans rfl
        clear h1
        go_wp2_with (first
          | ((with_reducible refine at_store_ (i := 2) ?_); refine wpList_store_v rfl 44 (.tmp 2) (.tmp 64) rfl g2 zerX zerI.cs rfl rfl HE.out.2.2.2 rfl (Im.cs_one _) size_x ?_; intro wz hw hr; have HZ := Lib.hid (show _ ∧ _ from ⟨Wr.bl HE.out.2.1 hw H2.out.2.2.2.1, hr⟩); clear hw hr))
        exact bodyPost_ret (results_v1 rfl _ _ g2 zerI.cs _ rfl HZ.out.2 Tryd.underlying44 rfl size_x) rfl ⟨zerI, by rw [HN.out]; rfl, fun y h => (by rw [HN.out] at h; cases h), HZ.out.1⟩
      have hq26 := idT_some hid
      have HQN := Lib.hid (HGO.out.1 q hid)
      have hq5 : q = 2 ∨ q = 3 ∨ q = 4 ∨ q = 5 ∨ q = 6 := by omega
      clear hid hq26
      have y2 := (HR.out.2.2.1.cell 2).trans HT.out.2.2
      rcases hq5 with rfl | rfl | rfl | rfl | rfl
      · have HE := Lib.hid (show _ ∧ _ ∧ _ ∧ _ from ⟨HR.out.1, HR.out.2.1, HR.out.2.2.1, HR.out.2.2.2.1⟩)
        have y0 : wr.cell? ⟨g4, 0, none⟩ = some (.int .i64 2) := (HE.out.1.cell 0).trans rfl
        by_cases h3 : lk = 3
        case neg =>
          have d3 : ((lk : Int) != 3) = true := by simp; omega
          have HN := Lib.hid (show infT 48 (.cons t0 v0 k0 (.cons t1 v1 k1 r1)) = none from HQN.out.trans (numT_a0 (by have := HHK.out.2.2; omega)))
          go_wp2_with (first
            | ((with_reducible refine at_store_ (i := 2) ?_); refine wpList_store_v rfl 44 (.tmp 2) (.tmp 80) rfl g2 zerX zerI.cs rfl rfl HE.out.2.2.2 rfl (Im.cs_one _) size_x ?_; intro wz hw hr; have HZ := Lib.hid (show _ ∧ _ from ⟨Wr.bl HE.out.2.1 hw H2.out.2.2.2.1, hr⟩); clear hw hr))
          exact bodyPost_ret (results_v1 rfl _ _ g2 zerI.cs _ rfl HZ.out.2 Tryd.underlying44 rfl size_x) rfl ⟨zerI, by rw [HN.out]; rfl, fun y h => (by rw [HN.out] at h; cases h), HZ.out.1⟩
        case pos =>
        subst h3
        have ix2 := fun w => ix_nod2 kb ko 3 ck (by decide) w
        obtain ⟨t2, v2, k2, rfl⟩ : ∃ t2 v2 k2, r1 = .cons t2 v2 k2 .nil := by
          have := HHK.out.2.2
          match r1, this with
          | .nil, h => simp [F.len] at h
          | .cons a b c .nil, _ => exact ⟨a, b, c, rfl⟩
          | .cons a b c (.cons _ _ _ _), h => (simp [F.len] at h) <;> omega
        obtain ⟨kb2, ko2, A2, c2, B2, dd2, e2, hkb2, hkr2, _, hs2, _⟩ := node_atF (j := 2) HHK.out.1 rfl
        cases e2
        rw [show 2 * 3 = 6 from rfl] at hkr2
        obtain ⟨us2, bb2, HU2, hg2, hus2⟩ := kid_at (n := 1) hkr2 hkb2 2 1 rfl HHK.out.2.1 (by decide)
        unfold KidAt at HU2
        clear hus2 hkr2
        rcases bb2 with _ | _
        · have HN := Lib.hid (show infT 48 (.cons t0 v0 k0 (.cons t1 v1 k1 (.cons t2 v2 k2 .nil))) = none from HQN.out.trans (numT_a.trans (if_neg fun h => Bool.noConfusion (hg2.2 h))))
          clear hg2 hs2 hkb2
          go_wp2_with (first
            | ((with_reducible refine at_load_ (d := 76) ?_); refine wpList_load_midg (by rfl) 54 (.tmp 75) rfl kb (ko + 6) rfl us2 _ (HU2.out.2.1 _ HE.out.2.1) Tryd.underlying54 rfl (by rw [HU2.out.1]; exact size_n) ?_)
            | (go_at_call 57; ((with_reducible refine (HU2.out.2.2.1 _).mono ?_); rintro e w8 ⟨rfl, hb⟩); have H8 := Lib.hid (show RowV w8 g4 (⟨2, (vb : Int), 0, 0, 0⟩ : Im).cs ∧ Below w.heap.size w w8 ∧ RowV w8 g1 ns ∧ RowV w8 g2 zerX from ⟨HE.out.1.on hb, below_on HE.out.2.1 hb, HE.out.2.2.1.on hb, HE.out.2.2.2.on hb⟩); have q2 := ((HE.out.2.2.1.on hb).cell 2).trans HT.out.2.2; clear hb)
            | ((with_reducible refine at_store_ (i := 2) ?_); refine wpList_store_v rfl 44 (.tmp 2) (.tmp 80) rfl g2 zerX zerI.cs rfl rfl H8.out.2.2.2 rfl (Im.cs_one _) size_x ?_; intro wz hw hr; have HZ := Lib.hid (show _ ∧ _ from ⟨Wr.bl H8.out.2.1 hw H2.out.2.2.2.1, hr⟩); clear hw hr))
          exact bodyPost_ret (results_v1 rfl _ _ g2 zerI.cs _ rfl HZ.out.2 Tryd.underlying44 rfl size_x) rfl ⟨zerI, by rw [HN.out]; rfl, fun y h => (by rw [HN.out] at h; cases h), HZ.out.1⟩
        obtain ⟨ht2, hv2⟩ := hg2.1 rfl
        obtain ⟨b2, o2, rfl, hb2, hc2⟩ := one_byte hs2 hv2
        obtain ⟨n2, hn2⟩ : ∃ q, numL v2 = q := ⟨_, rfl⟩
        have hvw2 : wrap64 (n2 : Int) = (n2 : Int) := by
          have : n2 < 256 := by
            rw [← hn2]
            obtain ⟨a, rfl⟩ := List.length_eq_one_iff.1 hv2
            simp only [numL, List.foldl]
            have := a.toNat_lt
            simp
            omega
          unfold wrap64
          omega
        have HK9 := Lib.hid (show (∀ cur, Below w.heap.size w cur → cur.cell? ⟨kb, ko + 6 + 1, none⟩ = some (.slice (some ⟨b2, o2, none⟩) 1 c2)) ∧ (∀ cur, Below w.heap.size w cur → cur.cell? ⟨b2, o2, none⟩ = some (.int .u8 (n2 : Int))) from ⟨fun cur h => by
          have := HU2.out.2.1 cur h 1 _ HU2.out.2.2.2
          rw [hv2] at this
          exact this, fun cur h => (h.cell hb2).trans (by rw [← hn2]; exact hc2)⟩)
        have HN := Lib.hid (show infT 48 (.cons t0 v0 k0 (.cons t1 v1 k1 (.cons t2 v2 k2 .nil))) = some (⟨2, (vb : Int), (n2 : Nat), 0, 0⟩ : Im) from HQN.out.trans (numT_a.trans ((if_pos ⟨ht2, hv2⟩).trans (by rw [hn2]; rfl))))
        clear hg2 hs2 hkb2 ht2 hv2 hb2 hc2 hn2
        go_wp2_with (first
          | ((with_reducible refine at_load_ (d := 76) ?_); refine wpList_load_midg (by rfl) 54 (.tmp 75) rfl kb (ko + 6) rfl us2 _ (HU2.out.2.1 _ HE.out.2.1) Tryd.underlying54 rfl (by rw [HU2.out.1]; exact size_n) ?_)
          | (go_at_call 57; ((with_reducible refine (HU2.out.2.2.1 _).mono ?_); rintro e w8 ⟨rfl, hb⟩); have H8 := Lib.hid (show RowV w8 g4 (⟨2, (vb : Int), 0, 0, 0⟩ : Im).cs ∧ Below w.heap.size w w8 ∧ RowV w8 g1 ns ∧ RowV w8 g2 zerX from ⟨HE.out.1.on hb, below_on HE.out.2.1 hb, HE.out.2.2.1.on hb, HE.out.2.2.2.on hb⟩); have q2 := ((HE.out.2.2.1.on hb).cell 2).trans HT.out.2.2; have m2 := HK9.out.1 _ (below_on HR.out.2.1 hb); have m3 := HK9.out.2 _ (below_on HR.out.2.1 hb); clear hb)
          | ((with_reducible refine at_store_ (i := 89) ?_); go_must (refine wpList_store_at rfl 3 (.tmp 89) (.tmp 88) rfl g4 2 (⟨2, (vb : Int), 0, 0, 0⟩ : Im).cs (.int .i64 ((n2 : Nat))) rfl (by first | rfl | exact congrArg (Value.int .i64) hvw2) H8.out.1 (by rw [Im.cs_len]; decide) rfl rfl size_i ?_); intro w9 hw hr; have H9 := Lib.hid (show RowV w9 g4 (⟨2, (vb : Int), (n2 : Nat), 0, 0⟩ : Im).cs ∧ Below w.heap.size w w9 ∧ RowV w9 g1 ns ∧ RowV w9 g2 zerX from ⟨hr, Wr.bl H8.out.2.1 hw H6.out.2.2.2.2.1, H8.out.2.2.1.wr hw H6.out.2.2.2.2.2.1, H8.out.2.2.2.wr hw H6.out.2.2.2.2.2.2⟩); have q2 := ((H8.out.2.2.1.wr hw H6.out.2.2.2.2.2.1).cell 2).trans HT.out.2.2; have q3 := (Wr.bl H8.out.2.1 hw H6.out.2.2.2.2.1); have m2 := HK9.out.1 _ q3; have m3 := HK9.out.2 _ q3; clear hw hr q3)
          | ((with_reducible refine at_load_ (d := 132) ?_); refine wpList_load_v rfl 44 (.tmp 4) rfl g4 rfl (⟨2, (vb : Int), (n2 : Nat), 0, 0⟩ : Im).cs _ H9.out.1 Tryd.underlying44 rfl size_x ?_)
          | ((with_reducible refine at_store_ (i := 2) ?_); refine wpList_store_v rfl 44 (.tmp 2) (.tmp 132) rfl g2 zerX (⟨2, (vb : Int), (n2 : Nat), 0, 0⟩ : Im).cs rfl rfl H9.out.2.2.2 rfl (Im.cs_one _) size_x ?_; intro wz hw hr; have HZ := Lib.hid (show _ ∧ _ from ⟨Wr.bl H9.out.2.1 hw H2.out.2.2.2.1, hr⟩); clear hw hr))
        exact bodyPost_ret (results_v1 rfl _ _ g2 (⟨2, (vb : Int), (n2 : Nat), 0, 0⟩ : Im).cs _ rfl HZ.out.2 Tryd.underlying44 rfl size_x) rfl ⟨(⟨2, (vb : Int), (n2 : Nat), 0, 0⟩ : Im), by rw [HN.out]; rfl, fun y h => (by rw [HN.out] at h; injection h), HZ.out.1⟩
      · have HE := Lib.hid (show _ ∧ _ ∧ _ ∧ _ from ⟨HR.out.1, HR.out.2.1, HR.out.2.2.1, HR.out.2.2.2.1⟩)
        have y0 : wr.cell? ⟨g4, 0, none⟩ = some (.int .i64 3) := (HE.out.1.cell 0).trans rfl
        by_cases h3 : lk = 3
        case neg =>
          have d3 : ((lk : Int) != 3) = true := by simp; omega
          have HN := Lib.hid (show infT 48 (.cons t0 v0 k0 (.cons t1 v1 k1 r1)) = none from HQN.out.trans (numT_a0 (by have := HHK.out.2.2; omega)))
          go_wp2_with (first
            | ((with_reducible refine at_store_ (i := 2) ?_); refine wpList_store_v rfl 44 (.tmp 2) (.tmp 80) rfl g2 zerX zerI.cs rfl rfl HE.out.2.2.2 rfl (Im.cs_one _) size_x ?_; intro wz hw hr; have HZ := Lib.hid (show _ ∧ _ from ⟨Wr.bl HE.out.2.1 hw H2.out.2.2.2.1, hr⟩); clear hw hr))
          exact bodyPost_ret (results_v1 rfl _ _ g2 zerI.cs _ rfl HZ.out.2 Tryd.underlying44 rfl size_x) rfl ⟨zerI, by rw [HN.out]; rfl, fun y h => (by rw [HN.out] at h; cases h), HZ.out.1⟩
        case pos =>
        subst h3
        have ix2 := fun w => ix_nod2 kb ko 3 ck (by decide) w
        obtain ⟨t2, v2, k2, rfl⟩ : ∃ t2 v2 k2, r1 = .cons t2 v2 k2 .nil := by
          have := HHK.out.2.2
          match r1, this with
          | .nil, h => simp [F.len] at h
          | .cons a b c .nil, _ => exact ⟨a, b, c, rfl⟩
          | .cons a b c (.cons _ _ _ _), h => (simp [F.len] at h) <;> omega
        obtain ⟨kb2, ko2, A2, c2, B2, dd2, e2, hkb2, hkr2, _, hs2, _⟩ := node_atF (j := 2) HHK.out.1 rfl
        cases e2
        rw [show 2 * 3 = 6 from rfl] at hkr2
        obtain ⟨us2, bb2, HU2, hg2, hus2⟩ := kid_at (n := 1) hkr2 hkb2 2 1 rfl HHK.out.2.1 (by decide)
        unfold KidAt at HU2
        clear hus2 hkr2
        rcases bb2 with _ | _
        · have HN := Lib.hid (show infT 48 (.cons t0 v0 k0 (.cons t1 v1 k1 (.cons t2 v2 k2 .nil))) = none from HQN.out.trans (numT_a.trans (if_neg fun h => Bool.noConfusion (hg2.2 h))))
          clear hg2 hs2 hkb2
          go_wp2_with (first
            | ((with_reducible refine at_load_ (d := 76) ?_); refine wpList_load_midg (by rfl) 54 (.tmp 75) rfl kb (ko + 6) rfl us2 _ (HU2.out.2.1 _ HE.out.2.1) Tryd.underlying54 rfl (by rw [HU2.out.1]; exact size_n) ?_)
            | (go_at_call 57; ((with_reducible refine (HU2.out.2.2.1 _).mono ?_); rintro e w8 ⟨rfl, hb⟩); have H8 := Lib.hid (show RowV w8 g4 (⟨3, (vb : Int), 0, 0, 0⟩ : Im).cs ∧ Below w.heap.size w w8 ∧ RowV w8 g1 ns ∧ RowV w8 g2 zerX from ⟨HE.out.1.on hb, below_on HE.out.2.1 hb, HE.out.2.2.1.on hb, HE.out.2.2.2.on hb⟩); have q2 := ((HE.out.2.2.1.on hb).cell 2).trans HT.out.2.2; clear hb)
            | ((with_reducible refine at_store_ (i := 2) ?_); refine wpList_store_v rfl 44 (.tmp 2) (.tmp 80) rfl g2 zerX zerI.cs rfl rfl H8.out.2.2.2 rfl (Im.cs_one _) size_x ?_; intro wz hw hr; have HZ := Lib.hid (show _ ∧ _ from ⟨Wr.bl H8.out.2.1 hw H2.out.2.2.2.1, hr⟩); clear hw hr))
          exact bodyPost_ret (results_v1 rfl _ _ g2 zerI.cs _ rfl HZ.out.2 Tryd.underlying44 rfl size_x) rfl ⟨zerI, by rw [HN.out]; rfl, fun y h => (by rw [HN.out] at h; cases h), HZ.out.1⟩
        obtain ⟨ht2, hv2⟩ := hg2.1 rfl
        obtain ⟨b2, o2, rfl, hb2, hc2⟩ := one_byte hs2 hv2
        obtain ⟨n2, hn2⟩ : ∃ q, numL v2 = q := ⟨_, rfl⟩
        have hvw2 : wrap64 (n2 : Int) = (n2 : Int) := by
          have : n2 < 256 := by
            rw [← hn2]
            obtain ⟨a, rfl⟩ := List.length_eq_one_iff.1 hv2
            simp only [numL, List.foldl]
            have := a.toNat_lt
            simp
            omega
          unfold wrap64
          omega
        have HK9 := Lib.hid (show (∀ cur, Below w.heap.size w cur → cur.cell? ⟨kb, ko + 6 + 1, none⟩ = some (.slice (some ⟨b2, o2, none⟩) 1 c2)) ∧ (∀ cur, Below w.heap.size w cur → cur.cell? ⟨b2, o2, none⟩ = some (.int .u8 (n2 : Int))) from ⟨fun cur h => by
          have := HU2.out.2.1 cur h 1 _ HU2.out.2.2.2
          rw [hv2] at this
          exact this, fun cur h => (h.cell hb2).trans (by rw [← hn2]; exact hc2)⟩)
        have HN := Lib.hid (show infT 48 (.cons t0 v0 k0 (.cons t1 v1 k1 (.cons t2 v2 k2 .nil))) = some (⟨3, (vb : Int), (n2 : Nat), 0, 0⟩ : Im) from HQN.out.trans (numT_a.trans ((if_pos ⟨ht2, hv2⟩).trans (by rw [hn2]; rfl))))
        clear hg2 hs2 hkb2 ht2 hv2 hb2 hc2 hn2
        go_wp2_with (first
          | ((with_reducible refine at_load_ (d := 76) ?_); refine wpList_load_midg (by rfl) 54 (.tmp 75) rfl kb (ko + 6) rfl us2 _ (HU2.out.2.1 _ HE.out.2.1) Tryd.underlying54 rfl (by rw [HU2.out.1]; exact size_n) ?_)
          | (go_at_call 57; ((with_reducible refine (HU2.out.2.2.1 _).mono ?_); rintro e w8 ⟨rfl, hb⟩); have H8 := Lib.hid (show RowV w8 g4 (⟨3, (vb : Int), 0, 0, 0⟩ : Im).cs ∧ Below w.heap.size w w8 ∧ RowV w8 g1 ns ∧ RowV w8 g2 zerX from ⟨HE.out.1.on hb, below_on HE.out.2.1 hb, HE.out.2.2.1.on hb, HE.out.2.2.2.on hb⟩); have q2 := ((HE.out.2.2.1.on hb).cell 2).trans HT.out.2.2; have m2 := HK9.out.1 _ (below_on HR.out.2.1 hb); have m3 := HK9.out.2 _ (below_on HR.out.2.1 hb); clear hb)
          | ((with_reducible refine at_store_ (i := 89) ?_); go_must (refine wpList_store_at rfl 3 (.tmp 89) (.tmp 88) rfl g4 2 (⟨3, (vb : Int), 0, 0, 0⟩ : Im).cs (.int .i64 ((n2 : Nat))) rfl (by first | rfl | exact congrArg (Value.int .i64) hvw2) H8.out.1 (by rw [Im.cs_len]; decide) rfl rfl size_i ?_); intro w9 hw hr; have H9 := Lib.hid (show RowV w9 g4 (⟨3, (vb : Int), (n2 : Nat), 0, 0⟩ : Im).cs ∧ Below w.heap.size w w9 ∧ RowV w9 g1 ns ∧ RowV w9 g2 zerX from ⟨hr, Wr.bl H8.out.2.1 hw H6.out.2.2.2.2.1, H8.out.2.2.1.wr hw H6.out.2.2.2.2.2.1, H8.out.2.2.2.wr hw H6.out.2.2.2.2.2.2⟩); have q2 := ((H8.out.2.2.1.wr hw H6.out.2.2.2.2.2.1).cell 2).trans HT.out.2.2; have q3 := (Wr.bl H8.out.2.1 hw H6.out.2.2.2.2.1); have m2 := HK9.out.1 _ q3; have m3 := HK9.out.2 _ q3; clear hw hr q3)
          | ((with_reducible refine at_load_ (d := 132) ?_); refine wpList_load_v rfl 44 (.tmp 4) rfl g4 rfl (⟨3, (vb : Int), (n2 : Nat), 0, 0⟩ : Im).cs _ H9.out.1 Tryd.underlying44 rfl size_x ?_)
          | ((with_reducible refine at_store_ (i := 2) ?_); refine wpList_store_v rfl 44 (.tmp 2) (.tmp 132) rfl g2 zerX (⟨3, (vb : Int), (n2 : Nat), 0, 0⟩ : Im).cs rfl rfl H9.out.2.2.2 rfl (Im.cs_one _) size_x ?_; intro wz hw hr; have HZ := Lib.hid (show _ ∧ _ from ⟨Wr.bl H9.out.2.1 hw H2.out.2.2.2.1, hr⟩); clear hw hr))
        exact bodyPost_ret (results_v1 rfl _ _ g2 (⟨3, (vb : Int), (n2 : Nat), 0, 0⟩ : Im).cs _ rfl HZ.out.2 Tryd.underlying44 rfl size_x) rfl ⟨(⟨3, (vb : Int), (n2 : Nat), 0, 0⟩ : Im), by rw [HN.out]; rfl, fun y h => (by rw [HN.out] at h; injection h), HZ.out.1⟩
      · have HE := Lib.hid (show _ ∧ _ ∧ _ ∧ _ from ⟨HR.out.1, HR.out.2.1, HR.out.2.2.1, HR.out.2.2.2.1⟩)
        have y0 : wr.cell? ⟨g4, 0, none⟩ = some (.int .i64 4) := (HE.out.1.cell 0).trans rfl
        by_cases h3 : lk = 4
        case neg =>
          have d3 : ((lk : Int) != 4) = true := by simp; omega
          have HN := Lib.hid (show infT 48 (.cons t0 v0 k0 (.cons t1 v1 k1 r1)) = none from HQN.out.trans (numT_b0 (by have := HHK.out.2.2; omega)))
          go_wp2_with (first
            | ((with_reducible refine at_store_ (i := 2) ?_); refine wpList_store_v rfl 44 (.tmp 2) (.tmp 112) rfl g2 zerX zerI.cs rfl rfl HE.out.2.2.2 rfl (Im.cs_one _) size_x ?_; intro wz hw hr; have HZ := Lib.hid (show _ ∧ _ from ⟨Wr.bl HE.out.2.1 hw H2.out.2.2.2.1, hr⟩); clear hw hr))
          exact bodyPost_ret (results_v1 rfl _ _ g2 zerI.cs _ rfl HZ.out.2 Tryd.underlying44 rfl size_x) rfl ⟨zerI, by rw [HN.out]; rfl, fun y h => (by rw [HN.out] at h; cases h), HZ.out.1⟩
        case pos =>
        subst h3
        have ix2 := fun w => ix_nod2 kb ko 4 ck (by decide) w
        have ix3 := fun w => ix_nod3 kb ko 4 ck (by decide) w
        obtain ⟨t2, v2, k2, t3, v3, k3, rfl⟩ : ∃ t2 v2 k2 t3 v3 k3, r1 = .cons t2 v2 k2 (.cons t3 v3 k3 .nil) := by
          have := HHK.out.2.2
          match r1, this with
          | .nil, h => simp [F.len] at h
          | .cons a b c .nil, h => simp [F.len] at h
          | .cons a b c (.cons d e f .nil), _ => exact ⟨a, b, c, d, e, f, rfl⟩
          | .cons a b c (.cons _ _ _ (.cons _ _ _ _)), h => (simp [F.len] at h) <;> omega
        obtain ⟨kb2, ko2, A2, c2, B2, dd2, e2, hkb2, hkr2, _, hs2, _⟩ := node_atF (j := 2) HHK.out.1 rfl
        cases e2
        rw [show 2 * 3 = 6 from rfl] at hkr2
        obtain ⟨us2, bb2, HU2, hg2, hus2⟩ := kid_at (n := 4) hkr2 hkb2 4 4 rfl HHK.out.2.1 (by decide)
        unfold KidAt at HU2
        clear hus2 hkr2
        obtain ⟨kb3, ko3, A3, c3, B3, dd3, e3, hkb3, hkr3, _, hs3, _⟩ := node_atF (j := 3) HHK.out.1 rfl
        cases e3
        rw [show 3 * 3 = 9 from rfl] at hkr3
        obtain ⟨us3, bb3, HU3, hg3, hus3⟩ := kid_at (n := 1) hkr3 hkb3 2 1 rfl (F.fit_rest HHK.out.2.1) (by decide)
        unfold KidAt at HU3
        clear hus3 hkr3
        rcases bb2 with _ | _
        · have HN := Lib.hid (show infT 48 (.cons t0 v0 k0 (.cons t1 v1 k1 (.cons t2 v2 k2 (.cons t3 v3 k3 .nil)))) = none from HQN.out.trans (numT_b.trans (if_neg fun h => Bool.noConfusion (hg2.2 h))))
          clear hg2 hs2 hkb2 hg3 hs3 hkb3
          go_wp2_with (first
            | ((with_reducible refine at_load_ (d := 100) ?_); refine wpList_load_midg (by rfl) 54 (.tmp 99) rfl kb (ko + 6) rfl us2 _ (HU2.out.2.1 _ HE.out.2.1) Tryd.underlying54 rfl (by rw [HU2.out.1]; exact size_n) ?_)
            | (go_at_call 57; ((with_reducible refine (HU2.out.2.2.1 _).mono ?_); rintro e w8 ⟨rfl, hb⟩); have H8 := Lib.hid (show RowV w8 g4 (⟨4, (vb : Int), 0, 0, 0⟩ : Im).cs ∧ Below w.heap.size w w8 ∧ RowV w8 g1 ns ∧ RowV w8 g2 zerX from ⟨HE.out.1.on hb, below_on HE.out.2.1 hb, HE.out.2.2.1.on hb, HE.out.2.2.2.on hb⟩); have q2 := ((HE.out.2.2.1.on hb).cell 2).trans HT.out.2.2; clear hb)
            | ((with_reducible refine at_store_ (i := 2) ?_); refine wpList_store_v rfl 44 (.tmp 2) (.tmp 112) rfl g2 zerX zerI.cs rfl rfl H8.out.2.2.2 rfl (Im.cs_one _) size_x ?_; intro wz hw hr; have HZ := Lib.hid (show _ ∧ _ from ⟨Wr.bl H8.out.2.1 hw H2.out.2.2.2.1, hr⟩); clear hw hr))
          exact bodyPost_ret (results_v1 rfl _ _ g2 zerI.cs _ rfl HZ.out.2 Tryd.underlying44 rfl size_x) rfl ⟨zerI, by rw [HN.out]; rfl, fun y h => (by rw [HN.out] at h; cases h), HZ.out.1⟩
        rcases bb3 with _ | _
        · have HN := Lib.hid (show infT 48 (.cons t0 v0 k0 (.cons t1 v1 k1 (.cons t2 v2 k2 (.cons t3 v3 k3 .nil)))) = none from HQN.out.trans (numT_b.trans (by rw [if_neg fun h => Bool.noConfusion (hg3.2 h)]; split <;> rfl)))
          clear hg2 hs2 hkb2 hg3 hs3 hkb3
          go_wp2_with (first
            | ((with_reducible refine at_load_ (d := 100) ?_); refine wpList_load_midg (by rfl) 54 (.tmp 99) rfl kb (ko + 6) rfl us2 _ (HU2.out.2.1 _ HE.out.2.1) Tryd.underlying54 rfl (by rw [HU2.out.1]; exact size_n) ?_)
            | (go_at_call 57; ((with_reducible refine (HU2.out.2.2.1 _).mono ?_); rintro e w8 ⟨rfl, hb⟩); have H8 := Lib.hid (show RowV w8 g4 (⟨4, (vb : Int), 0, 0, 0⟩ : Im).cs ∧ Below w.heap.size w w8 ∧ RowV w8 g1 ns ∧ RowV w8 g2 zerX from ⟨HE.out.1.on hb, below_on HE.out.2.1 hb, HE.out.2.2.1.on hb, HE.out.2.2.2.on hb⟩); have q2 := ((HE.out.2.2.1.on hb).cell 2).trans HT.out.2.2; clear hb)
            | ((with_reducible refine at_load_ (d := 108) ?_); refine wpList_load_midg (by rfl) 54 (.tmp 107) rfl kb (ko + 9) rfl us3 _ (HU3.out.2.1 _ H8.out.2.1) Tryd.underlying54 rfl (by rw [HU3.out.1]; exact size_n) ?_)
            | (go_at_call 57; ((with_reducible refine (HU3.out.2.2.1 _).mono ?_); rintro e w9 ⟨rfl, hb⟩); have H9 := Lib.hid (show RowV w9 g4 (⟨4, (vb : Int), 0, 0, 0⟩ : Im).cs ∧ Below w.heap.size w w9 ∧ RowV w9 g1 ns ∧ RowV w9 g2 zerX from ⟨H8.out.1.on hb, below_on H8.out.2.1 hb, H8.out.2.2.1.on hb, H8.out.2.2.2.on hb⟩); have q2 := ((H8.out.2.2.1.on hb).cell 2).trans HT.out.2.2; clear hb)
            | ((with_reducible refine at_store_ (i := 2) ?_); refine wpList_store_v rfl 44 (.tmp 2) (.tmp 112) rfl g2 zerX zerI.cs rfl rfl H9.out.2.2.2 rfl (Im.cs_one _) size_x ?_; intro wz hw hr; have HZ := Lib.hid (show _ ∧ _ from ⟨Wr.bl H9.out.2.1 hw H2.out.2.2.2.1, hr⟩); clear hw hr))
          exact bodyPost_ret (results_v1 rfl _ _ g2 zerI.cs _ rfl HZ.out.2 Tryd.underlying44 rfl size_x) rfl ⟨zerI, by rw [HN.out]; rfl, fun y h => (by rw [HN.out] at h; cases h), HZ.out.1⟩
        obtain ⟨ht3, hv3⟩ := hg3.1 rfl
        obtain ⟨b3, o3, rfl, hb3, hc3⟩ := one_byte hs3 hv3
        obtain ⟨n3, hn3⟩ : ∃ q, numL v3 = q := ⟨_, rfl⟩
        have hvw3 : wrap64 (n3 : Int) = (n3 : Int) := by
          have : n3 < 256 := by
            rw [← hn3]
            obtain ⟨a, rfl⟩ := List.length_eq_one_iff.1 hv3
            simp only [numL, List.foldl]
            have := a.toNat_lt
            simp
            omega
          unfold wrap64
          omega
        have HK9 := Lib.hid (show (∀ cur, Below w.heap.size w cur → cur.cell? ⟨kb, ko + 9 + 1, none⟩ = some (.slice (some ⟨b3, o3, none⟩) 1 c3)) ∧ (∀ cur, Below w.heap.size w cur → cur.cell? ⟨b3, o3, none⟩ = some (.int .u8 (n3 : Int))) from ⟨fun cur h => by
          have := HU3.out.2.1 cur h 1 _ HU3.out.2.2.2
          rw [hv3] at this
          exact this, fun cur h => (h.cell hb3).trans (by rw [← hn3]; exact hc3)⟩)
        obtain ⟨ht2, hv2⟩ := hg2.1 rfl
        obtain ⟨n2, hn2⟩ : ∃ q, numL v2 = q := ⟨_, rfl⟩
        have HNU := Lib.hid (show (∀ cur, Below w.heap.size w cur → cur.cell? ⟨kb, ko + 6 + 1, none⟩ = some (.slice A2 4 c2)) ∧ (∀ cur, Below w.heap.size w cur → Calls Tryd.prog 59 #[.slice A2 4 c2] cur fun e w' => e = .returned (.tuple #[.int .i64 (n2 : Int), .int .i64 0]) ∧ cur = w') from ⟨fun cur h => by
          have := HU2.out.2.1 cur h 1 _ HU2.out.2.2.2
          rw [hv2] at this
          exact this, fun cur h => by
          have := r_number v2 4 hv2 (by decide) A2 c2 cur (SeesP.on2 hs2 h)
          rw [hn2] at this
          exact this⟩)
        have HN := Lib.hid (show infT 48 (.cons t0 v0 k0 (.cons t1 v1 k1 (.cons t2 v2 k2 (.cons t3 v3 k3 .nil)))) = some (⟨4, (vb : Int), 0, (n2 : Nat), (n3 : Nat)⟩ : Im) from HQN.out.trans (numT_b.trans (by rw [if_pos ⟨ht2, hv2⟩, if_pos ⟨ht3, hv3⟩, hn2, hn3]; rfl)))
        clear hg2 hs2 hkb2 ht2 hv2 hn2 hg3 hs3 hkb3 ht3 hv3 hb3 hc3 hn3
        go_wp2_with (first
          | ((with_reducible refine at_load_ (d := 100) ?_); refine wpList_load_midg (by rfl) 54 (.tmp 99) rfl kb (ko + 6) rfl us2 _ (HU2.out.2.1 _ HE.out.2.1) Tryd.underlying54 rfl (by rw [HU2.out.1]; exact size_n) ?_)
          | (go_at_call 57; ((with_reducible refine (HU2.out.2.2.1 _).mono ?_); rintro e w8 ⟨rfl, hb⟩); have H8 := Lib.hid (show RowV w8 g4 (⟨4, (vb : Int), 0, 0, 0⟩ : Im).cs ∧ Below w.heap.size w w8 ∧ RowV w8 g1 ns ∧ RowV w8 g2 zerX from ⟨HE.out.1.on hb, below_on HE.out.2.1 hb, HE.out.2.2.1.on hb, HE.out.2.2.2.on hb⟩); have q2 := ((HE.out.2.2.1.on hb).cell 2).trans HT.out.2.2; clear hb)
          | ((with_reducible refine at_load_ (d := 108) ?_); refine wpList_load_midg (by rfl) 54 (.tmp 107) rfl kb (ko + 9) rfl us3 _ (HU3.out.2.1 _ H8.out.2.1) Tryd.underlying54 rfl (by rw [HU3.out.1]; exact size_n) ?_)
          | (go_at_call 57; ((with_reducible refine (HU3.out.2.2.1 _).mono ?_); rintro e w9 ⟨rfl, hb⟩); have H9 := Lib.hid (show RowV w9 g4 (⟨4, (vb : Int), 0, 0, 0⟩ : Im).cs ∧ Below w.heap.size w w9 ∧ RowV w9 g1 ns ∧ RowV w9 g2 zerX from ⟨H8.out.1.on hb, below_on H8.out.2.1 hb, H8.out.2.2.1.on hb, H8.out.2.2.2.on hb⟩); have q2 := ((H8.out.2.2.1.on hb).cell 2).trans HT.out.2.2; have m1 := HNU.out.1 _ (below_on H8.out.2.1 hb); clear hb)
          | (go_at_call 59; ((with_reducible refine (HNU.out.2 _ H9.out.2.1).mono ?_); rintro e wn ⟨rfl, rfl⟩))
          | ((with_reducible refine at_store_ (i := 122) ?_); go_must (refine wpList_store_at rfl 3 (.tmp 122) (.tmp 120) rfl g4 3 (⟨4, (vb : Int), 0, 0, 0⟩ : Im).cs (.int .i64 ((n2 : Nat))) rfl (by first | rfl | exact congrArg (Value.int .i64) hvw3) H9.out.1 (by rw [Im.cs_len]; decide) rfl rfl size_i ?_); intro w10 hw hr; have H10 := Lib.hid (show RowV w10 g4 (⟨4, (vb : Int), 0, (n2 : Nat), 0⟩ : Im).cs ∧ Below w.heap.size w w10 ∧ RowV w10 g1 ns ∧ RowV w10 g2 zerX from ⟨hr, Wr.bl H9.out.2.1 hw H6.out.2.2.2.2.1, H9.out.2.2.1.wr hw H6.out.2.2.2.2.2.1, H9.out.2.2.2.wr hw H6.out.2.2.2.2.2.2⟩); have q2 := ((H9.out.2.2.1.wr hw H6.out.2.2.2.2.2.1).cell 2).trans HT.out.2.2; have q3 := (Wr.bl H9.out.2.1 hw H6.out.2.2.2.2.1); have m2 := HK9.out.1 _ q3; have m3 := HK9.out.2 _ q3; clear hw hr q3)
          | ((with_reducible refine at_store_ (i := 131) ?_); go_must (refine wpList_store_at rfl 3 (.tmp 131) (.tmp 130) rfl g4 4 (⟨4, (vb : Int), 0, (n2 : Nat), 0⟩ : Im).cs (.int .i64 ((n3 : Nat))) rfl (by first | rfl | exact congrArg (Value.int .i64) hvw3) H10.out.1 (by rw [Im.cs_len]; decide) rfl rfl size_i ?_); intro w11 hw hr; have H11 := Lib.hid (show RowV w11 g4 (⟨4, (vb : Int), 0, (n2 : Nat), (n3 : Nat)⟩ : Im).cs ∧ Below w.heap.size w w11 ∧ RowV w11 g1 ns ∧ RowV w11 g2 zerX from ⟨hr, Wr.bl H10.out.2.1 hw H6.out.2.2.2.2.1, H10.out.2.2.1.wr hw H6.out.2.2.2.2.2.1, H10.out.2.2.2.wr hw H6.out.2.2.2.2.2.2⟩); have q2 := ((H10.out.2.2.1.wr hw H6.out.2.2.2.2.2.1).cell 2).trans HT.out.2.2; have q3 := (Wr.bl H10.out.2.1 hw H6.out.2.2.2.2.1); have m2 := HK9.out.1 _ q3; have m3 := HK9.out.2 _ q3; clear hw hr q3)
          | ((with_reducible refine at_load_ (d := 132) ?_); refine wpList_load_v rfl 44 (.tmp 4) rfl g4 rfl (⟨4, (vb : Int), 0, (n2 : Nat), (n3 : Nat)⟩ : Im).cs _ H11.out.1 Tryd.underlying44 rfl size_x ?_)
          | ((with_reducible refine at_store_ (i := 2) ?_); refine wpList_store_v rfl 44 (.tmp 2) (.tmp 132) rfl g2 zerX (⟨4, (vb : Int), 0, (n2 : Nat), (n3 : Nat)⟩ : Im).cs rfl rfl H11.out.2.2.2 rfl (Im.cs_one _) size_x ?_; intro wz hw hr; have HZ := Lib.hid (show _ ∧ _ from ⟨Wr.bl H11.out.2.1 hw H2.out.2.2.2.1, hr⟩); clear hw hr))
        exact bodyPost_ret (results_v1 rfl _ _ g2 (⟨4, (vb : Int), 0, (n2 : Nat), (n3 : Nat)⟩ : Im).cs _ rfl HZ.out.2 Tryd.underlying44 rfl size_x) rfl ⟨(⟨4, (vb : Int), 0, (n2 : Nat), (n3 : Nat)⟩ : Im), by rw [HN.out]; rfl, fun y h => (by rw [HN.out] at h; injection h), HZ.out.1⟩
      · have HE := Lib.hid (show _ ∧ _ ∧ _ ∧ _ from ⟨HR.out.1, HR.out.2.1, HR.out.2.2.1, HR.out.2.2.2.1⟩)
        have y0 : wr.cell? ⟨g4, 0, none⟩ = some (.int .i64 5) := (HE.out.1.cell 0).trans rfl
        obtain ⟨bb, hbb⟩ : ∃ z, ((lk : Int) == 2) = z := ⟨_, rfl⟩
        have HN := Lib.hid (show infT 48 (.cons t0 v0 k0 (.cons t1 v1 k1 r1)) = if bb = true then some (⟨5, (vb : Int), 0, 0, 0⟩ : Im) else none from HQN.out.trans (numT_c.trans (by
          have h := HHK.out.2.2
          by_cases e : lk = 2
          · rw [if_pos (by omega), if_pos (by rw [← hbb, e]; rfl)]
          · rw [if_neg (by omega), if_neg (by rw [← hbb]; simp; omega)])))
        have HD2 := Lib.hid hbb
        clear hbb
        go_wp2
        refine region_facts (by kernel_rfl) _ wr (fun c => Below w.heap.size w c ∧ RowV c g4 (⟨5, (vb : Int), 0, 0, 0⟩ : Im).cs ∧ RowV c g1 ns) 5 (factL [fun u _ => u = .agg (⟨5, (vb : Int), 0, 0, 0⟩ : Im).cs.toArray, fun u _ => u = .pointer (some ⟨g1, 2, none⟩), fun u _ => u = .slice (some ⟨kb, ko, none⟩) lk ck, fun u _ => u = .int .i64 (lk : Int), fun u _ => u = .bool bb, fun _ c => RowV c g2 (⟨5, (vb : Int), 0, 0, 0⟩ : Im).cs, fun u _ => u = .bool bb]) (by kernel_rfl) (firm_list (by simp only [List.forall_mem_cons]; exact ⟨firm_eq _, firm_eq _, firm_eq _, firm_eq _, firm_eq _, fun u c c2 h hb => h.on hb, firm_eq _, fun X h => by cases h⟩)) (fun c c2 h hb => ⟨below_on h.1 hb, h.2.1.on hb, h.2.2.on hb⟩) (Below.refl _ _) ⟨HE.out.2.1, HE.out.1, HE.out.2.2.1⟩ ?_ ?_
        · refine ops_all (allI.cons ?_ (allI.cons ?_ (allI.cons ?_ (allI.cons ?_ (allI.cons ?_ (allI.cons ?_ (allI.cons ?_ allI.nil))))))) <;> intro v S c a hI hw1 hX hSi hdep hS hC
          · exact o_ldv 44 (.tmp 4) rfl g4 (hS.old 4 rfl) (⟨5, (vb : Int), 0, 0, 0⟩ : Im).cs _ hI.2.1 Tryd.underlying44 rfl size_x (Step.still rfl)
          · exact o_fa _ (.tmp 1) 2 rfl (hS.old 1 rfl) (fa_d2 g1 _) (Step.still rfl)
          · exact o_ld _ (.tmp 58) rfl ((hS.get 1 (dep_at hdep 1 rfl) rfl rfl).trans (hX 1 (dep_at hdep 1 rfl))) ((hI.2.2.cell 2).trans HT.out.2.2) ag_n (Step.still rfl)
          · exact o_len (e := 54) (.tmp 59) 52 rfl (by kernel_rfl) ((hS.get 2 (dep_at hdep 2 rfl) rfl rfl).trans (hX 2 (dep_at hdep 2 rfl))) (Step.still rfl)
          · exact o_bin .eql 3 3 (.tmp 60) (.const (.int .i64 2)) rfl ((hS.get 3 (dep_at hdep 3 rfl) rfl rfl).trans (hX 3 (dep_at hdep 3 rfl))) rfl (by rw [← HD2.out]; kernel_rfl) (Step.still rfl)
          · refine wp_store_v 44 (.tmp 2) (.tmp 57) rfl g2 zerX (⟨5, (vb : Int), 0, 0, 0⟩ : Im).cs (hS.old 2 rfl) ((hS.get 0 (dep_at hdep 0 rfl) rfl rfl).trans (hX 0 (dep_at hdep 0 rfl))) (HE.out.2.2.2.on (hw1 hSi)) rfl (Im.cs_one _) size_x ?_
            intro w9 hw hr
            refine Step.turn hr rfl ⟨Wr.bl hI.1 hw H2.out.2.2.2.1, hI.2.1.wr hw (fun e => H6.out.2.2.2.2.2.2 e.symm), hI.2.2.wr hw H2.out.2.2.2.2⟩ ?_
            intro j hj
            match j, hj with
            | 0, hj => exact hX 0 hj
            | 1, hj => exact hX 1 hj
            | 2, hj => exact hX 2 hj
            | 3, hj => exact hX 3 hj
            | 4, hj => exact hX 4 hj
            | 5, hj => rw [hSi] at hj; cases hj
            | 6, hj => exact hX 6 hj
            | _ + 7, _ => trivial
          · exact o_as (.tmp 61) rfl ((hS.get 4 (dep_at hdep 4 rfl) rfl rfl).trans (hX 4 (dep_at hdep 4 rfl))) (Step.still rfl)
        · intro v wq hI hX
          have e6 : v 6 = .bool bb := hX 6 (by decide)
          have HZ := Lib.hid (show Below w.heap.size w wq ∧ RowV wq g2 (⟨5, (vb : Int), 0, 0, 0⟩ : Im).cs from ⟨hI.1, hX 5 (by decide)⟩)
          clear hI hX
          simp only [putAll, Act.put]
          simp
          rw [e6]
          clear e6
          go_wp2_with fail
          rcases bb with _ | _
          · exact bodyPost_ret (results_v1 rfl _ _ g2 (⟨5, (vb : Int), 0, 0, 0⟩ : Im).cs _ rfl HZ.out.2 Tryd.underlying44 rfl size_x) rfl ⟨(⟨5, (vb : Int), 0, 0, 0⟩ : Im), by rw [HN.out]; rfl, fun y h => (by rw [HN.out] at h; cases h), HZ.out.1⟩
          · exact bodyPost_ret (results_v1 rfl _ _ g2 (⟨5, (vb : Int), 0, 0, 0⟩ : Im).cs _ rfl HZ.out.2 Tryd.underlying44 rfl size_x) rfl ⟨(⟨5, (vb : Int), 0, 0, 0⟩ : Im), by rw [HN.out]; rfl, fun y h => (by rw [HN.out] at h; injection h), HZ.out.1⟩
      · have HE := Lib.hid (show _ ∧ _ ∧ _ ∧ _ from ⟨HR.out.1, HR.out.2.1, HR.out.2.2.1, HR.out.2.2.2.1⟩)
        have y0 : wr.cell? ⟨g4, 0, none⟩ = some (.int .i64 6) := (HE.out.1.cell 0).trans rfl
        obtain ⟨bb, hbb⟩ : ∃ z, ((lk : Int) == 2) = z := ⟨_, rfl⟩
        have HN := Lib.hid (show infT 48 (.cons t0 v0 k0 (.cons t1 v1 k1 r1)) = if bb = true then some (⟨6, (vb : Int), 0, 0, 0⟩ : Im) else none from HQN.out.trans (numT_c.trans (by
          have h := HHK.out.2.2
          by_cases e : lk = 2
          · rw [if_pos (by omega), if_pos (by rw [← hbb, e]; rfl)]
          · rw [if_neg (by omega), if_neg (by rw [← hbb]; simp; omega)])))
        have HD2 := Lib.hid hbb
        clear hbb
        go_wp2
        refine region_facts (by kernel_rfl) _ wr (fun c => Below w.heap.size w c ∧ RowV c g4 (⟨6, (vb : Int), 0, 0, 0⟩ : Im).cs ∧ RowV c g1 ns) 5 (factL [fun u _ => u = .agg (⟨6, (vb : Int), 0, 0, 0⟩ : Im).cs.toArray, fun u _ => u = .pointer (some ⟨g1, 2, none⟩), fun u _ => u = .slice (some ⟨kb, ko, none⟩) lk ck, fun u _ => u = .int .i64 (lk : Int), fun u _ => u = .bool bb, fun _ c => RowV c g2 (⟨6, (vb : Int), 0, 0, 0⟩ : Im).cs, fun u _ => u = .bool bb]) (by kernel_rfl) (firm_list (by simp only [List.forall_mem_cons]; exact ⟨firm_eq _, firm_eq _, firm_eq _, firm_eq _, firm_eq _, fun u c c2 h hb => h.on hb, firm_eq _, fun X h => by cases h⟩)) (fun c c2 h hb => ⟨below_on h.1 hb, h.2.1.on hb, h.2.2.on hb⟩) (Below.refl _ _) ⟨HE.out.2.1, HE.out.1, HE.out.2.2.1⟩ ?_ ?_
        · refine ops_all (allI.cons ?_ (allI.cons ?_ (allI.cons ?_ (allI.cons ?_ (allI.cons ?_ (allI.cons ?_ (allI.cons ?_ allI.nil))))))) <;> intro v S c a hI hw1 hX hSi hdep hS hC
          · exact o_ldv 44 (.tmp 4) rfl g4 (hS.old 4 rfl) (⟨6, (vb : Int), 0, 0, 0⟩ : Im).cs _ hI.2.1 Tryd.underlying44 rfl size_x (Step.still rfl)
          · exact o_fa _ (.tmp 1) 2 rfl (hS.old 1 rfl) (fa_d2 g1 _) (Step.still rfl)
          · exact o_ld _ (.tmp 58) rfl ((hS.get 1 (dep_at hdep 1 rfl) rfl rfl).trans (hX 1 (dep_at hdep 1 rfl))) ((hI.2.2.cell 2).trans HT.out.2.2) ag_n (Step.still rfl)
          · exact o_len (e := 54) (.tmp 59) 52 rfl (by kernel_rfl) ((hS.get 2 (dep_at hdep 2 rfl) rfl rfl).trans (hX 2 (dep_at hdep 2 rfl))) (Step.still rfl)
          · exact o_bin .eql 3 3 (.tmp 60) (.const (.int .i64 2)) rfl ((hS.get 3 (dep_at hdep 3 rfl) rfl rfl).trans (hX 3 (dep_at hdep 3 rfl))) rfl (by rw [← HD2.out]; kernel_rfl) (Step.still rfl)
          · refine wp_store_v 44 (.tmp 2) (.tmp 57) rfl g2 zerX (⟨6, (vb : Int), 0, 0, 0⟩ : Im).cs (hS.old 2 rfl) ((hS.get 0 (dep_at hdep 0 rfl) rfl rfl).trans (hX 0 (dep_at hdep 0 rfl))) (HE.out.2.2.2.on (hw1 hSi)) rfl (Im.cs_one _) size_x ?_
            intro w9 hw hr
            refine Step.turn hr rfl ⟨Wr.bl hI.1 hw H2.out.2.2.2.1, hI.2.1.wr hw (fun e => H6.out.2.2.2.2.2.2 e.symm), hI.2.2.wr hw H2.out.2.2.2.2⟩ ?_
            intro j hj
            match j, hj with
            | 0, hj => exact hX 0 hj
            | 1, hj => exact hX 1 hj
            | 2, hj => exact hX 2 hj
            | 3, hj => exact hX 3 hj
            | 4, hj => exact hX 4 hj
            | 5, hj => rw [hSi] at hj; cases hj
            | 6, hj => exact hX 6 hj
            | _ + 7, _ => trivial
          · exact o_as (.tmp 61) rfl ((hS.get 4 (dep_at hdep 4 rfl) rfl rfl).trans (hX 4 (dep_at hdep 4 rfl))) (Step.still rfl)
        · intro v wq hI hX
          have e6 : v 6 = .bool bb := hX 6 (by decide)
          have HZ := Lib.hid (show Below w.heap.size w wq ∧ RowV wq g2 (⟨6, (vb : Int), 0, 0, 0⟩ : Im).cs from ⟨hI.1, hX 5 (by decide)⟩)
          clear hI hX
          simp only [putAll, Act.put]
          simp
          rw [e6]
          clear e6
          go_wp2_with fail
          rcases bb with _ | _
          · exact bodyPost_ret (results_v1 rfl _ _ g2 (⟨6, (vb : Int), 0, 0, 0⟩ : Im).cs _ rfl HZ.out.2 Tryd.underlying44 rfl size_x) rfl ⟨(⟨6, (vb : Int), 0, 0, 0⟩ : Im), by rw [HN.out]; rfl, fun y h => (by rw [HN.out] at h; cases h), HZ.out.1⟩
          · exact bodyPost_ret (results_v1 rfl _ _ g2 (⟨6, (vb : Int), 0, 0, 0⟩ : Im).cs _ rfl HZ.out.2 Tryd.underlying44 rfl size_x) rfl ⟨(⟨6, (vb : Int), 0, 0, 0⟩ : Im), by rw [HN.out]; rfl, fun y h => (by rw [HN.out] at h; injection h), HZ.out.1⟩
end Go.Proofs.YtmkggpgpiepjfaaDoor
