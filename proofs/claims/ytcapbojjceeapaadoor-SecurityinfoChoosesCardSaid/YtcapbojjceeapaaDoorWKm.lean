/-
  What is proved here: the law SecurityinfoChooses as a function.
-/
import Derived.Test.YtcapbojjceeapaaDoorWKl
import Derived.Deep.DeepMust
namespace Go.Proofs.YtcapbojjceeapaaDoor
open Go.RowKit
set_option maxRecDepth 8000
set_option linter.unusedVariables false
set_option linter.unusedSimpArgs false
theorem quo_2 (m : Nat) (hm : m ≤ 1000000) (x y : Operand) (w : World) : (do eqGuard .quo 3 x y (.int .i64 (m : Int)) (.int .i64 2); binOp .quo 3 (.int .i64 (m : Int)) (.int .i64 2)).run Tryd.prog w = .ok (.int .i64 ((m / 2 : Nat) : Int)) w := by
  have h1 : (m : Int).tdiv 2 = ((m / 2 : Nat) : Int) := by rw [Int.tdiv_eq_ediv_of_nonneg (by omega)]; omega
  have h3 : m / 2 ≤ m := Nat.div_le_self _ _
  generalize m / 2 = d at h1 h3 ⊢
  have h2 : IntKind.i64.wrap (d : Int) = (d : Int) := by rw [IntKind.wrap_i64]; omega
  simp only [eqGuard, binOp, go_sem, h1]
  first | done | rfl | simp [h2]
theorem eqI_self (x : Im) : eqI x x = true := eqI_iff.2 rfl
theorem neq_same (x : Im) (p q : Operand) (w : World) : (do eqGuard .neq 44 p q (.agg x.cs.toArray) (.agg x.cs.toArray); binOp .neq 44 (.agg x.cs.toArray) (.agg x.cs.toArray)).run Tryd.prog w = .ok (.bool false) w := by
  have h := neq_info x x p q w
  rwa [eqI_self] at h
section
variable {P : Program} {ops : Array Oper} {rest : List Oper} {o : Oper} {a : Act} {w : World} {Q : Exit → Act → World → Prop}
theorem wpList_binP (hgd : o.guard = none) (b : BinOp) (T T2 : TypeId) (x y : Operand) (ho : o.op = .binOp b T x y T2) {v vx vy : Value} (hx : a.eval x = vx) (hy : a.eval y = vy) (hr : (do eqGuard b T x y vx vy; binOp b T vx vy).run P w = .ok v w) (hK : wpList P ops Q rest (a.put o.dst v) w) : wpList P ops Q (o :: rest) a w :=
  wpList_plain hgd fun _ hK2 => o_bin b T T2 x y ho hx hy hr (hK2 _ _ hK)
theorem wpList_bing (hw : Region.wanted o (yielded ops a.tmps) = true) (b : BinOp) (T T2 : TypeId) (x y : Operand) (ho : o.op = .binOp b T x y T2) {v vx vy : Value} (hx : a.eval x = vx) (hy : a.eval y = vy) (hr : (do eqGuard b T x y vx vy; binOp b T vx vy).run P w = .ok v w) (hK : wpList P ops Q rest (a.put o.dst v) w) : wpList P ops Q (o :: rest) a w := by
  refine wpList_step fun K hK2 => ?_
  rw [if_pos hw]
  exact o_bin b T T2 x y ho hx hy hr (hK2 _ _ hK)
theorem wpList_slP (hgd : o.guard = none) (T : TypeId) (x : Operand) (lo hi mx : Option Operand) (ho : o.op = .slice T x lo hi mx) {v vx : Value} {l h m : Option Value} (hx : a.eval x = vx) (hl : lo.map a.eval = l) (hh : hi.map a.eval = h) (hm : mx.map a.eval = m) (hr : (Instr.sliceAt T vx l h m).run P w = .ok v w) (hK : wpList P ops Q rest (a.put o.dst v) w) : wpList P ops Q (o :: rest) a w :=
  wpList_plain hgd fun _ hK2 => o_sl T x lo hi mx ho hx hl hh hm hr (hK2 _ _ hK)
end
theorem held_to {w wr : World} {v : Value} {L : List Im} {A : Option Addr} {n c : Nat} (h : HeldI w wr v L) (e : v = .slice A n c) (hn : L.length = n) (k : Nat) (hk : k ≤ n) (u : World) : (Instr.sliceAt 22 (.slice A n c) none (some (.int .i64 (k : Int))) none).run Tryd.prog u = .ok (.slice A k c) u := by
  rcases h.2 with ⟨hv, h0⟩ | ⟨g, cap, cur, hv, hb, hh, hc, _⟩
  · rw [hv] at e
    injection e with e1 e2 e3
    subst e1 e2 e3
    obtain rfl : k = 0 := by omega
    simp [go_sem]
  · rw [hv] at e
    injection e with e1 e2 e3
    subst e1 e2 e3
    exact sl_to g _ _ k hk hc u
theorem take_half {L : List Im} {n : Nat} (h : L.length = n) : (L.take (n / 2)).length = n / 2 := by
  rw [List.length_take, h, Nat.min_eq_left (Nat.div_le_self _ _)]
theorem take_sees {w : World} {p : Nat → Prop} {A : Option Addr} {L : List Im} (h : SeesP w p A (Ics L)) (k : Nat) : SeesP w p A (Ics (L.take k)) := by
  rcases h with h | ⟨b, off, e, hp, hc⟩
  · have h0 : L = [] := by
      have h5 : 5 * L.length = 0 := by rw [← Ics_len, h]; rfl
      exact List.eq_nil_of_length_eq_zero (by omega)
    rw [h0, List.take_nil]
    exact .inl rfl
  · refine .inr ⟨b, off, e, hp, fun j hj => ?_⟩
    rw [Ics_len, List.length_take] at hj
    rw [hc j (by rw [Ics_len]; omega), Ics_take, List.getElem?_take, if_pos (by omega)]
def ChS (w w2 : World) (D : Nat) (A : Option Addr) (La : List Im) (B : Option Addr) (Lb : List Im) (u : World) : Prop := SeesP u (newB w2 u) A (Ics La) ∧ SeesP u (newB w2 u) B (Ics Lb) ∧ Below w.heap.size w u ∧ DiceOk u D ∧ w2.heap.size ≤ u.heap.size
theorem ChS.on {w w2 u u' : World} {D : Nat} {A B : Option Addr} {La Lb : List Im} (h : ChS w w2 D A La B Lb u) (hb : Below u.heap.size u u') : ChS w w2 D A La B Lb u' :=
  ⟨h.1.newOn hb, h.2.1.newOn hb, below_on h.2.2.1 hb, h.2.2.2.1.below hb, Nat.le_trans h.2.2.2.2 hb.size⟩
theorem ChS.bel {w w2 u : World} {D : Nat} {A B : Option Addr} {La Lb : List Im} (h : ChS w w2 D A La B Lb u) : Below w.heap.size w u := h.2.2.1
theorem ChS.dic {w w2 u : World} {D : Nat} {A B : Option Addr} {La Lb : List Im} (h : ChS w w2 D A La B Lb u) : DiceOk u D := h.2.2.2.1
theorem ChS.snd {w w2 u : World} {D : Nat} {A B : Option Addr} {La Lb : List Im} (h : ChS w w2 D A La B Lb u) : SeesP u (newB w2 u) B (Ics Lb) := h.2.1
theorem ChS.fst {w w2 u : World} {D : Nat} {A B : Option Addr} {La Lb : List Im} (h : ChS w w2 D A La B Lb u) : SeesP u (newB w2 u) A (Ics La) := h.1
def RetIs (z : Im) (r : Int) (u : World) (e : Ending) (u' : World) : Prop := e = .returned (.tuple #[.agg z.cs.toArray, .int .i64 r]) ∧ Below u.heap.size u u'
theorem RetIs.of {l : List Im} {o : List Int} {u u' : World} {e : Ending} {z : Im} {r : Int} (h : ChoIs l o u e u') (hc : choI l o = (z, r)) : RetIs z r u e u' := by
  obtain ⟨h1, h2⟩ := h
  rw [hc] at h1
  exact ⟨h1, h2⟩
def MisK (M : List Im) (k : Nat) (u : World) (e : Ending) (u' : World) : Prop := ∃ A c, e = .returned (.slice A k c) ∧ SeesP u' (· < u'.heap.size) A (Ics M) ∧ Below u.heap.size u u'
theorem MisK.of {M : List Im} {k : Nat} {u u' : World} {e : Ending} (hk : M.length = k) (h : MisIs u M e u') : MisK M k u e u' := by
  obtain ⟨A, c, h1, h2, h3⟩ := h
  rw [hk] at h1
  exact ⟨A, c, h1, h2.imp newB_up, h3⟩
def MisAll (a s : List Im) (na n k : Nat) (A B : Option Addr) (ca cb : Nat) : Prop :=
  (∀ u, SeesP u (· < u.heap.size) A (Ics a) → SeesP u (· < u.heap.size) B (Ics s) → Calls Tryd.prog 25 #[.slice A na ca, .slice B n cb] u (MisK (misI a s) k u)) ∧
  (∀ u, SeesP u (· < u.heap.size) A (Ics a) → SeesP u (· < u.heap.size) B (Ics s) → Calls Tryd.prog 26 #[.slice A na ca, .slice B n cb] u (MisK (misI a s) k u)) ∧
  (∀ u X Y cx cy, SeesP u (· < u.heap.size) X (Ics (misI a s)) → SeesP u (· < u.heap.size) Y (Ics (misI a s)) → Calls Tryd.prog 16 #[.slice X k cx, .slice Y k cy] u fun e u' => e = .returned (.bool true) ∧ Below u.heap.size u u')
section
variable {a s : List Im} {na n k : Nat} {A B : Option Addr} {ca cb : Nat}
theorem MisAll.pm (h : MisAll a s na n k A B ca cb) : ∀ u, SeesP u (· < u.heap.size) A (Ics a) → SeesP u (· < u.heap.size) B (Ics s) → Calls Tryd.prog 25 #[.slice A na ca, .slice B n cb] u (MisK (misI a s) k u) := h.1
theorem MisAll.rm (h : MisAll a s na n k A B ca cb) : ∀ u, SeesP u (· < u.heap.size) A (Ics a) → SeesP u (· < u.heap.size) B (Ics s) → Calls Tryd.prog 26 #[.slice A na ca, .slice B n cb] u (MisK (misI a s) k u) := h.2.1
theorem MisAll.sm (h : MisAll a s na n k A B ca cb) : ∀ u X Y cx cy, SeesP u (· < u.heap.size) X (Ics (misI a s)) → SeesP u (· < u.heap.size) Y (Ics (misI a s)) → Calls Tryd.prog 16 #[.slice X k cx, .slice Y k cy] u fun e u' => e = .returned (.bool true) ∧ Below u.heap.size u u' := h.2.2
end
theorem mis_all (a s : List Im) (na n : Nat) (hna : a.length = na) (hma : na ≤ 140737488351232) (hn : s.length = n) (hm : n * 40 ≤ 140737488351232) (A B : Option Addr) (ca cb : Nat) : ∃ k, MisAll a s na n k A B ca cb := by
  refine ⟨(misI a s).length, fun u h1 h2 => ?_, fun u h1 h2 => ?_, fun u X Y cx cy h1 h2 => ?_⟩
  · exact (p_missing a s na n hna hma hn hm A B ca cb u h1 h2).mono fun _ _ h => MisK.of rfl h
  · exact (r_missing a s na n hna hma hn hm A B ca cb u h1 h2).mono fun _ _ h => MisK.of rfl h
  · have hl : (misI a s).length ≤ s.length := List.length_filter_le _ _
    exact r_isame (misI a s) _ rfl (by omega) X Y cx cy u h1 h2
set_option maxHeartbeats 12800000 in
set_option maxRecDepth 20000 in
theorem law_chooses (A : Option Addr) (c : Nat) (ls : List Int) (B : Option Addr) (cb : Nat) (os : List Int) (X1 : Option Addr) (c1 : Nat) (l1 : List Im) (X2 : Option Addr) (c2 : Nat) (l2 : List Im) (w : World) (ht : TabX w)
    (hl : ls.length ≤ 140737488351232) (hr : ∀ x ∈ ls, -9223372036854775808 ≤ x ∧ x ≤ 9223372036854775807) (hs : SeesP w (· < w.heap.size) A (ls.map (Value.int .i64)))
    (hol : os.length ≤ 140737488351232) (hos : SeesP w (· < w.heap.size) B (os.map (Value.int .i64))) (hx1 : SeesP w (· < w.heap.size) X1 (Ics l1)) (hm1 : l1.length * 40 ≤ 140737488351232) (hx2 : SeesP w (· < w.heap.size) X2 (Ics l2)) (hm2 : l2.length * 40 ≤ 140737488351232) :
    Calls Tryd.prog 6 #[.slice A ls.length c, .slice B os.length cb, .agg #[.slice X1 l1.length c1, .slice X2 l2.length c2]] w fun e w' => e = .returned (.bool true) ∧ Below w.heap.size w w' := by
  obtain ⟨i0, hi, hz0, hz1, hz2⟩ := info_parts info_inf
  have HAW := Lib.hid (show ∀ u, Below w.heap.size w u → Calls Tryd.prog 12 #[] u fun e w' => e = .returned (.bool true) ∧ Below u.heap.size u w' from fun u hb => law_awake u (ht.on hb))
  have HRL := Lib.hid (fun u (hb : Below w.heap.size w u) => made_roll A c ls u hl hr (SeesP.on2 hs hb))
  have HL := Lib.hid (fun u => made_light A ls.length c u hl)
  have HON := Lib.hid (show ∀ D u, DiceOk u D → Calls Tryd.prog 20 #[.pointer (some ⟨D, 0, none⟩), .int .i64 2] u (OneIs u D) from fun D u h => dice_one D 2 u (by decide) (by decide) h)
  obtain ⟨m, hm⟩ : ∃ z, ls.length = z := ⟨_, rfl⟩
  rw [hm] at HRL HL ⊢
  obtain ⟨no, hno⟩ : ∃ z, os.length = z := ⟨_, rfl⟩
  have HO := Lib.hid (show os.length = no ∧ no ≤ 140737488351232 ∧ SeesP w (· < w.heap.size) B (os.map (Value.int .i64)) from ⟨hno, by omega, hos⟩)
  rw [hno]
  obtain ⟨n1, hn1⟩ : ∃ z, l1.length = z := ⟨_, rfl⟩
  obtain ⟨n2, hn2⟩ : ∃ z, l2.length = z := ⟨_, rfl⟩
  rw [hn1, hn2]
  have HX := Lib.hid (show SeesP w (· < w.heap.size) X1 (Ics l1) ∧ SeesP w (· < w.heap.size) X2 (Ics l2) from ⟨hx1, hx2⟩)
  obtain ⟨k2, hmr⟩ := mis_all l1 l2 n1 n2 hn1 (by omega) hn2 (by omega) X1 X2 c1 c2
  have HMR := Lib.hid hmr
  obtain ⟨zr, hcl⟩ : ∃ z, choI l1 os = z := ⟨_, rfl⟩
  obtain ⟨zl, rl⟩ := zr
  have HCL := Lib.hid (show ∀ u, Below w.heap.size w u → Calls Tryd.prog 23 #[.slice X1 n1 c1, .slice B no cb] u (RetIs zl rl u) ∧ Calls Tryd.prog 24 #[.slice X1 n1 c1, .slice B no cb] u (RetIs zl rl u) from fun u h => ⟨(p_choose l1 n1 hn1 (by omega) os no hno (by omega) X1 B c1 cb u (SeesP.on2 hx1 h) (SeesP.on2 hos h)).mono fun e w2 h => RetIs.of h hcl, (r_choose l1 n1 hn1 (by omega) os no hno (by omega) X1 B c1 cb u (SeesP.on2 hx1 h) (SeesP.on2 hos h)).mono fun e w2 h => RetIs.of h hcl⟩)
  have hrl : (rl != rl) = false := by simp
  have HB := Lib.hid (Below.refl w.heap.size w)
  obtain ⟨lg, hlg⟩ : ∃ z, decide (m ≤ 400) = z := ⟨_, rfl⟩
  rw [hlg] at HL
  clear hl hr hs hm hlg ht hol hos hx1 hm1 hx2 hm2 hno hn1 hn2 hmr hcl
  go_enter Tryd.func6, Tryd.ntmps6
  go_wp2_with (first
    | ((with_reducible refine at_box_ (d := 5) ?_); refine wpList_box_v (op := ⟨some 5, _, _, _, _, _⟩) rfl 42 _ rfl [.slice X1 n1 c1, .slice X2 n2 c2] rfl ?_; intro g5 wb hf hr; have H5 := Lib.hid (show Below w.heap.size w wb ∧ RowV wb g5 [.slice X1 n1 c1, .slice X2 n2 c2] from ⟨hf.bl HB.out, hr⟩); clear hf hr))
  have k0 := fun d os => H5.out.2.quiet (k := 0) rfl d os
  have k1 := fun d os => H5.out.2.quiet (k := 1) rfl d os
  refine wp_region_quiet_below (by kernel_rfl) (by kernel_rfl) ?_
  repeat (first | go_big_quiet_skip | (go_big_quiet_want; go_big_quiet_op; go_big_quiet_on))
  refine wpQuiet_nil ?_
  intro w7 hw7
  have H1 := Lib.hid (show Below w.heap.size w w7 from below_on H5.out.1 (below_of_regrown hw7))
  clear hw7 k0 k1 H5
  rcases lg with _ | _
  · go_wp2_with (first
      | (go_at_call 17; ((with_reducible refine (HL.out _).mono ?_); rintro e w1 ⟨rfl, hw1⟩); (have hw2 := hw1.symm; clear hw1; subst hw2))
      | (go_at_call 12; ((with_reducible refine (HAW.out _ H1.out).mono ?_); rintro e w2 ⟨rfl, hb⟩); have H2 := Lib.hid (below_on H1.out hb); clear hb))
    go_ret
    exact ⟨rfl, H2.out⟩
  go_wp2_with (first
    | (go_at_call 17; ((with_reducible refine (HL.out _).mono ?_); rintro e w1 ⟨rfl, hw1⟩); (have hw2 := hw1.symm; clear hw1; subst hw2))
    | (go_at_call 18; ((with_reducible refine (HRL.out _ H1.out).mono ?_); rintro e w2 ⟨rfl, hd, hb⟩); go_loud (have H2a := Lib.hid (show Below w.heap.size w w2 from below_on H1.out hb); have hD0 := H1.out.size; have hlt := hd.lt; clear hb; generalize w7.heap.size = D at hd hlt hD0 ⊢; have HD := Lib.hid hD0; have HBR := Lib.hid (show ∀ a b, Below w.heap.size w a → a.grownBy b (some D) → Below w.heap.size w b from fun a b h hg => h.grown hg h.size (fun k e => by injection e with e; omega)); have H2 := Lib.hid (show Below w.heap.size w w2 ∧ DiceOk w2 D ∧ D < w2.heap.size from ⟨H2a.out, hd, hlt⟩); clear hd hlt hD0 H2a))
    | (go_at_call 19; ((with_reducible refine (dice_infos D _ H3.out.2.2.1).mono ?_); rintro e w4 ⟨v, Lb, rfl, hva, hll, hh, hg, hd⟩); go_loud (obtain ⟨A4, c4, hv4, hc4, hs4⟩ := HeldI.slice hh; obtain ⟨nb, hnb⟩ : ∃ z, Lb.length = z := ⟨_, rfl⟩; rw [hnb] at hv4 hll hc4; subst hv4; have HLb := Lib.hid (show Lb.length = nb ∧ nb ≤ 15 ∧ (A4 = none → c4 = 0) from ⟨hnb, hll, hc4.1⟩); have H4 := Lib.hid (show ChS w w2 D A3 La A4 Lb w4 from ⟨H3.out.1.dice hg H2.out.2.2, hs4.imp (newB_old H3.out.2.2.2), HBR.out _ _ H3.out.2.1 hg, hd, Nat.le_trans H3.out.2.2.2 hg.size⟩); obtain ⟨zr, hca⟩ : ∃ z, choI La os = z := ⟨_, rfl⟩; obtain ⟨za, ra⟩ := zr; have HCA := Lib.hid (show ∀ u, ChS w w2 D A3 La A4 Lb u → Calls Tryd.prog 23 #[.slice A3 n c3, .slice B no cb] u (RetIs za ra u) ∧ Calls Tryd.prog 24 #[.slice A3 n c3, .slice B no cb] u (RetIs za ra u) from fun u h => ⟨(p_choose La n HLa.out.1 (by have := HLa.out.2; omega) os no HO.out.1 HO.out.2.1 A3 B c3 cb u (h.1.imp newB_up) (SeesP.on2 HO.out.2.2 h.2.2.1)).mono fun e w2 h => RetIs.of h hca, (r_choose La n HLa.out.1 (by have := HLa.out.2; omega) os no HO.out.1 HO.out.2.1 A3 B c3 cb u (h.1.imp newB_up) (SeesP.on2 HO.out.2.2 h.2.2.1)).mono fun e w2 h => RetIs.of h hca⟩); have hra : (ra != ra) = false := (by simp); clear hva hll hh hg hd hc4 hs4 hnb hca))
    | (go_at_call 19; ((with_reducible refine (dice_infos D _ H2.out.2.1).mono ?_); rintro e w3 ⟨v, La, rfl, hva, hll, hh, hg, hd⟩); go_loud (obtain ⟨A3, c3, hv3, hc3, hs3⟩ := HeldI.slice hh; obtain ⟨n, hn⟩ : ∃ z, La.length = z := ⟨_, rfl⟩; rw [hn] at hv3 hll hc3; have HSL := Lib.hid (held_to hh hv3 hn); subst hv3; have HLa := Lib.hid (show La.length = n ∧ n ≤ 15 from ⟨hn, hll⟩); have HNN := Lib.hid hc3.1; have H3 := Lib.hid (show SeesP w3 (newB w2 w3) A3 (Ics La) ∧ Below w.heap.size w w3 ∧ DiceOk w3 D ∧ w2.heap.size ≤ w3.heap.size from ⟨hs3, HBR.out _ _ H2.out.1 hg, hd, hg.size⟩); clear hva hll hh hg hd hc3 hs3 hn))
    | ((with_reducible refine at_alloc_ (d := 12) ?_); refine wpList_alloc_v (op := ⟨some 12, _, _, _, _, _⟩) rfl 44 rfl zerX info_x ?_; intro g12 wa hf hr; have F12 := Lib.hid (show _ ∧ _ from ⟨hf, hr⟩); clear hf hr)
    | ((with_reducible refine at_store_ (i := 12) ?_); refine wpList_store_v rfl 44 (.tmp 12) (.tmp 38) rfl g12 zerX za.cs rfl rfl F12.out.2 rfl (Im.cs_one _) size_x ?_; intro t12 hw hr; have S12 := Lib.hid (show ChS w w2 D A3 La A4 Lb t12 ∧ RowV t12 g12 za.cs from ⟨C12.out.on (F12.out.1.wr_bl hw), hr⟩); clear hw hr)
    | ((with_reducible refine at_alloc_ (d := 14) ?_); refine wpList_alloc_v (op := ⟨some 14, _, _, _, _, _⟩) rfl 44 rfl zerX info_x ?_; intro g14 wa hf hr; have F14 := Lib.hid (show _ ∧ _ from ⟨hf, hr⟩); clear hf hr)
    | ((with_reducible refine at_store_ (i := 14) ?_); refine wpList_store_v rfl 44 (.tmp 14) (.tmp 44) rfl g14 zerX za.cs rfl rfl F14.out.2 rfl (Im.cs_one _) size_x ?_; intro t14 hw hr; have S14 := Lib.hid (show ChS w w2 D A3 La A4 Lb t14 ∧ RowV t14 g12 za.cs ∧ RowV t14 g14 za.cs from ⟨C14.out.1.on (F14.out.1.wr_bl hw), C14.out.2.on (F14.out.1.wr_bl hw), hr⟩); clear hw hr)
    | ((with_reducible refine at_alloc_ (d := 16) ?_); refine wpList_alloc_v (op := ⟨some 16, _, _, _, _, _⟩) rfl 44 rfl zerX info_x ?_; intro g16 wa hf hr; have F16 := Lib.hid (show _ ∧ _ from ⟨hf, hr⟩); clear hf hr)
    | ((with_reducible refine at_store_ (i := 16) ?_); refine wpList_store_v rfl 44 (.tmp 16) (.tmp 50) rfl g16 zerX zl.cs rfl rfl F16.out.2 rfl (Im.cs_one _) size_x ?_; intro t16 hw hr; have S16 := Lib.hid (show ChS w w2 D A3 La A4 Lb t16 ∧ RowV t16 g12 za.cs ∧ RowV t16 g14 za.cs ∧ RowV t16 g16 zl.cs from ⟨C16.out.1.on (F16.out.1.wr_bl hw), C16.out.2.1.on (F16.out.1.wr_bl hw), C16.out.2.2.on (F16.out.1.wr_bl hw), hr⟩); clear hw hr)
    | ((with_reducible refine at_alloc_ (d := 18) ?_); refine wpList_alloc_v (op := ⟨some 18, _, _, _, _, _⟩) rfl 44 rfl zerX info_x ?_; intro g18 wa hf hr; have F18 := Lib.hid (show _ ∧ _ from ⟨hf, hr⟩); clear hf hr)
    | ((with_reducible refine at_store_ (i := 18) ?_); refine wpList_store_v rfl 44 (.tmp 18) (.tmp 56) rfl g18 zerX zl.cs rfl rfl F18.out.2 rfl (Im.cs_one _) size_x ?_; intro t18 hw hr; have S18 := Lib.hid (show ChS w w2 D A3 La A4 Lb t18 ∧ RowV t18 g12 za.cs ∧ RowV t18 g14 za.cs ∧ RowV t18 g16 zl.cs ∧ RowV t18 g18 zl.cs from ⟨C18.out.1.on (F18.out.1.wr_bl hw), C18.out.2.1.on (F18.out.1.wr_bl hw), C18.out.2.2.1.on (F18.out.1.wr_bl hw), C18.out.2.2.2.on (F18.out.1.wr_bl hw), hr⟩); clear hw hr)
    | (go_at_call 24; ((with_reducible refine ((HCL.out _ S16.out.1.bel).2.mono ?_)); rintro e v18 ⟨rfl, hb⟩); have C18 := Lib.hid (show ChS w w2 D A3 La A4 Lb v18 ∧ RowV v18 g12 za.cs ∧ RowV v18 g14 za.cs ∧ RowV v18 g16 zl.cs from ⟨S16.out.1.on hb, S16.out.2.1.on hb, S16.out.2.2.1.on hb, S16.out.2.2.2.on hb⟩); clear hb)
    | (go_at_call 23; ((with_reducible refine ((HCL.out _ S14.out.1.bel).1.mono ?_)); rintro e v16 ⟨rfl, hb⟩); have C16 := Lib.hid (show ChS w w2 D A3 La A4 Lb v16 ∧ RowV v16 g12 za.cs ∧ RowV v16 g14 za.cs from ⟨S14.out.1.on hb, S14.out.2.1.on hb, S14.out.2.2.on hb⟩); clear hb)
    | (go_at_call 24; ((with_reducible refine ((HCA.out _ S12.out.1).2.mono ?_)); rintro e v14 ⟨rfl, hb⟩); have C14 := Lib.hid (show ChS w w2 D A3 La A4 Lb v14 ∧ RowV v14 g12 za.cs from ⟨S12.out.1.on hb, S12.out.2.on hb⟩); clear hb)
    | (go_at_call 23; ((with_reducible refine ((HCA.out _ H4.out).1.mono ?_)); rintro e v12 ⟨rfl, hb⟩); have C12 := Lib.hid (show ChS w w2 D A3 La A4 Lb v12 from H4.out.on hb); clear hb)
    | (go_at_call 12; ((with_reducible refine (HAW.out _ S18.out.1.bel).mono ?_); rintro e w10 ⟨rfl, hb⟩); have H10 := Lib.hid (show ChS w w2 D A3 La A4 Lb w10 ∧ RowV w10 g12 za.cs ∧ RowV w10 g14 za.cs ∧ RowV w10 g16 zl.cs ∧ RowV w10 g18 zl.cs from ⟨S18.out.1.on hb, S18.out.2.1.on hb, S18.out.2.2.1.on hb, S18.out.2.2.2.1.on hb, S18.out.2.2.2.2.on hb⟩); clear hb)
    | ((with_reducible refine at_load_ (d := 66) ?_); go_must (refine wpList_load_vg (by rfl) 44 (.tmp 12) rfl g12 rfl za.cs _ H10.out.2.1 Tryd.underlying44 rfl (by rw [Im.cs_len]; exact size_x) ?_))
    | ((with_reducible refine at_load_ (d := 67) ?_); go_must (refine wpList_load_vg (by rfl) 44 (.tmp 14) rfl g14 rfl za.cs _ H10.out.2.2.1 Tryd.underlying44 rfl (by rw [Im.cs_len]; exact size_x) ?_))
    | ((with_reducible refine at_load_ (d := 76) ?_); go_must (refine wpList_load_vg (by rfl) 44 (.tmp 16) rfl g16 rfl zl.cs _ H10.out.2.2.2.1 Tryd.underlying44 rfl (by rw [Im.cs_len]; exact size_x) ?_))
    | ((with_reducible refine at_load_ (d := 77) ?_); go_must (refine wpList_load_vg (by rfl) 44 (.tmp 18) rfl g18 rfl zl.cs _ H10.out.2.2.2.2 Tryd.underlying44 rfl (by rw [Im.cs_len]; exact size_x) ?_))
    | ((with_reducible refine at_any_ (d := 68) ?_); go_must (refine wpList_bing (by rfl) .neq 44 44 (.tmp 66) (.tmp 67) rfl rfl rfl (neq_same za _ _ _) ?_))
    | ((with_reducible refine at_any_ (d := 78) ?_); go_must (refine wpList_bing (by rfl) .neq 44 44 (.tmp 76) (.tmp 77) rfl rfl rfl (neq_same zl _ _ _) ?_))
    | (go_at_call 20; ((with_reducible refine (HON.out _ _ H10.out.1.dic).mono ?_); rintro e w11 ⟨q, rfl, hg, hd⟩); have H11 := Lib.hid (show ChS w w2 D A3 La A4 Lb w11 from ⟨H10.out.1.1.dice hg H2.out.2.2, H10.out.1.2.1.dice hg H2.out.2.2, HBR.out _ _ H10.out.1.2.2.1 hg, hd, Nat.le_trans H10.out.1.2.2.2.2 hg.size⟩); have H11b := Lib.hid (show SeesP w11 (· < w11.heap.size) A3 (Ics La) ∧ SeesP w11 (· < w11.heap.size) A4 (Ics Lb) ∧ Below w.heap.size w w11 from ⟨H11.out.1.imp newB_up, H11.out.2.1.imp newB_up, H11.out.2.2.1⟩); obtain ⟨k0, hm0⟩ := mis_all La Lb n nb HLa.out.1 (by have := HLa.out.2; omega) HLb.out.1 (by have := HLb.out.2.1; omega) A3 A4 c3 c4; have HMb := Lib.hid hm0; clear hg hd hm0; rcases q with _ | _)
    | ((with_reducible refine at_any_ (d := 85) ?_); go_must (refine wpList_binP rfl .quo 3 3 (.tmp 84) (.const (.int .i64 2)) rfl rfl rfl (quo_2 n (by have := HLa.out.2; omega) _ _ _) ?_))
    | ((with_reducible refine at_any_ (d := 86) ?_); go_must (refine wpList_slP rfl 22 (.tmp 82) none (some (.tmp 85)) none rfl rfl rfl rfl rfl (HSL.out (n / 2) (Nat.div_le_self _ _) _) ?_))
    | ((with_reducible refine at_call_ (d := 87) ?_); go_must (refine append_ims rfl (.const (.slice none 0 0)) (.tmp 86) rfl w11.heap.size i0 hi hz0 hz1 hz2 (.slice none 0 0) 0 [] rfl (World.ownsRow_nil _ _ _ _) A3 (n / 2) c3 (La.take (n / 2)) (take_half HLa.out.1) rfl HNN.out (take_sees H11.out.fst (n / 2)) (by have := HLa.out.2; omega) (Nat.le_refl _) ?_); intro v12 w12 ho hg; have H12 := Lib.hid (show HeldI w11 w12 v12 (La.take (n / 2)) ∧ Below w11.heap.size w11 w12 from ⟨(by unfold HeldI; rw [take_half HLa.out.1]; rw [Nat.zero_add] at ho; exact ho), grown_new hg⟩); clear ho hg)
    | ((with_reducible refine at_call_ (d := 89) ?_); have HO2 := H12.out.1; unfold HeldI at HO2; rw [take_half HLa.out.1] at HO2; go_must (refine append_ims rfl (.tmp 87) (.tmp 88) rfl w11.heap.size i0 hi hz0 hz1 hz2 v12 (n / 2) (La.take (n / 2)) rfl HO2 A4 nb c4 Lb HLb.out.1 rfl HLb.out.2.2 (H11.out.on H12.out.2).snd (by have := HLa.out.2; have := HLb.out.2.1; omega) H12.out.2.size ?_); intro v13 w13 ho hg; obtain ⟨bb, hbb⟩ : ∃ z, La.take (n / 2) ++ Lb = z := ⟨_, rfl⟩; obtain ⟨kb, hkb⟩ : ∃ z, n / 2 + nb = z := ⟨_, rfl⟩; rw [hbb, hkb] at ho; have HKB := Lib.hid (show bb.length = kb ∧ kb ≤ 30 from ⟨(by rw [← hbb, ← hkb, List.length_append, take_half HLa.out.1, HLb.out.1]), (by have := HLa.out.2; have := HLb.out.2.1; omega)⟩); have H13a := Lib.hid (show HeldI w11 w13 v13 bb ∧ Below w11.heap.size w11 w13 from ⟨(by unfold HeldI; rw [HKB.out.1]; exact ho), row_below H12.out.2 hg fun g e => (own_lt3 HO2 g e).1⟩); obtain ⟨A5, c5, hv5, _, hs5⟩ := HeldI.slice H13a.out.1; rw [HKB.out.1] at hv5; subst hv5; have H13 := Lib.hid (show SeesP w13 (· < w13.heap.size) A3 (Ics La) ∧ SeesP w13 (· < w13.heap.size) A5 (Ics bb) ∧ Below w.heap.size w w13 from ⟨(H11.out.on H13a.out.2).1.imp newB_up, hs5.imp newB_up, below_on H11.out.2.2.1 H13a.out.2⟩); obtain ⟨k1, hm1⟩ := mis_all La bb n kb HLa.out.1 (by have := HLa.out.2; omega) HKB.out.1 (by have := HKB.out.2; omega) A3 A5 c3 c5; have HM := Lib.hid hm1; clear hm1; clear ho hg HO2 hbb hkb H13a hs5)
    | (go_at_call 25; ((with_reducible refine ((HM.out.pm _ H13.out.1 H13.out.2.1).mono ?_)); rintro e w15 ⟨A15, c15, rfl, hs, hb⟩); have H15 := Lib.hid (show SeesP w15 (· < w15.heap.size) A3 (Ics La) ∧ SeesP w15 (· < w15.heap.size) A5 (Ics bb) ∧ Below w.heap.size w w15 ∧ SeesP w15 (· < w15.heap.size) A15 (Ics (misI La bb)) from ⟨SeesP.on2 H13.out.1 hb, SeesP.on2 H13.out.2.1 hb, below_on H13.out.2.2 hb, hs⟩); clear hs hb)
    | (go_at_call 26; ((with_reducible refine ((HM.out.rm _ H15.out.1 H15.out.2.1).mono ?_)); rintro e w16 ⟨A16, c16, rfl, hs, hb⟩); have H16 := Lib.hid (show Below w.heap.size w w16 ∧ SeesP w16 (· < w16.heap.size) A15 (Ics (misI La bb)) ∧ SeesP w16 (· < w16.heap.size) A16 (Ics (misI La bb)) from ⟨below_on H15.out.2.2.1 hb, SeesP.on2 H15.out.2.2.2 hb, hs⟩); clear hs hb)
    | (go_at_call 16; ((with_reducible refine ((HM.out.sm _ A15 A16 c15 c16 H16.out.2.1 H16.out.2.2).mono ?_)); rintro e w17 ⟨rfl, hb⟩); have H17 := Lib.hid (below_on H16.out.1 hb); clear hb)
    | (go_at_call 25; ((with_reducible refine ((HMR.out.pm _ (SeesP.on2 HX.out.1 H17.out) (SeesP.on2 HX.out.2 H17.out)).mono ?_)); rintro e w18 ⟨A18, c18, rfl, hs, hb⟩); have H18 := Lib.hid (show Below w.heap.size w w18 ∧ SeesP w18 (· < w18.heap.size) A18 (Ics (misI l1 l2)) from ⟨below_on H17.out hb, hs⟩); clear hs hb)
    | (go_at_call 26; ((with_reducible refine ((HMR.out.rm _ (SeesP.on2 HX.out.1 H18.out.1) (SeesP.on2 HX.out.2 H18.out.1)).mono ?_)); rintro e w19 ⟨A19, c19, rfl, hs, hb⟩); have H19 := Lib.hid (show Below w.heap.size w w19 ∧ SeesP w19 (· < w19.heap.size) A18 (Ics (misI l1 l2)) ∧ SeesP w19 (· < w19.heap.size) A19 (Ics (misI l1 l2)) from ⟨below_on H18.out.1 hb, SeesP.on2 H18.out.2 hb, hs⟩); clear hs hb)
    | (go_at_call 16; ((with_reducible refine ((HMR.out.sm _ A18 A19 c18 c19 H19.out.2.1 H19.out.2.2).mono ?_)); rintro e w20 ⟨rfl, hb⟩); have H20 := Lib.hid (below_on H19.out.1 hb); clear hb)
    | (go_at_call 25; ((with_reducible refine ((HMb.out.pm _ H11b.out.1 H11b.out.2.1).mono ?_)); rintro e w15 ⟨A15, c15, rfl, hs, hb⟩); have H15 := Lib.hid (show SeesP w15 (· < w15.heap.size) A3 (Ics La) ∧ SeesP w15 (· < w15.heap.size) A4 (Ics Lb) ∧ Below w.heap.size w w15 ∧ SeesP w15 (· < w15.heap.size) A15 (Ics (misI La Lb)) from ⟨SeesP.on2 H11b.out.1 hb, SeesP.on2 H11b.out.2.1 hb, below_on H11b.out.2.2 hb, hs⟩); clear hs hb)
    | (go_at_call 26; ((with_reducible refine ((HMb.out.rm _ H15.out.1 H15.out.2.1).mono ?_)); rintro e w16 ⟨A16, c16, rfl, hs, hb⟩); have H16 := Lib.hid (show Below w.heap.size w w16 ∧ SeesP w16 (· < w16.heap.size) A15 (Ics (misI La Lb)) ∧ SeesP w16 (· < w16.heap.size) A16 (Ics (misI La Lb)) from ⟨below_on H15.out.2.2.1 hb, SeesP.on2 H15.out.2.2.2 hb, hs⟩); clear hs hb)
    | (go_at_call 16; ((with_reducible refine ((HMb.out.sm _ A15 A16 c15 c16 H16.out.2.1 H16.out.2.2).mono ?_)); rintro e w17 ⟨rfl, hb⟩); have H17 := Lib.hid (below_on H16.out.1 hb); clear hb))
  all_goals
    go_ret
    exact ⟨rfl, H20.out⟩
end Go.Proofs.YtcapbojjceeapaaDoor
