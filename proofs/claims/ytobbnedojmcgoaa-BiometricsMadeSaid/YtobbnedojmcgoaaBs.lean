/-
  What is proved here: the law BiometricsReturns as a function returns true, whatever numbers it is handed.
-/
import Derived.Test.YtobbnedojmcgoaaBr
namespace Go.Proofs.Ytobbnedojmcgoaa
open Go.RowKit
set_option linter.unusedVariables false
set_option linter.unusedSimpArgs false

theorem add_one (x : Int) (h0 : 0 ≤ x) (h1 : x ≤ 4611686018427387904) (p q : Operand) (w : World) : (do eqGuard .add 3 p q (.int .i64 x) (.int .i64 1); binOp .add 3 (.int .i64 x) (.int .i64 1)).run Try.prog w = .ok (.int .i64 (x + 1)) w := by
  have e : x + 1 = wrap64 (x + 1) := by unfold wrap64; omega
  rw [e]
  simp [eqGuard, binOp, go_sem]
  rw [IntKind.wrap_i64]
  unfold wrap64
  rfl
theorem HeldT.slice2 {w wr : World} {v : Value} {x : Tm} {L : List Tm} (h : HeldT w wr v (x :: L)) : ∃ g c, v = .slice (some ⟨g, 0, none⟩) (x :: L).length c ∧ (x :: L).length ≤ c ∧ SeesT wr (newB w wr) (some ⟨g, 0, none⟩) (x :: L) := by
  have h2 := h
  obtain ⟨cs, h1, _⟩ := h
  rcases h1.2 with ⟨rfl, h0⟩ | ⟨g, cap, cur, rfl, hb, hh, hn, _⟩
  · simp at h0
  · obtain ⟨A, c, e, hs⟩ := h2.slice
    injection e with e _ e2
    subst e
    exact ⟨g, cap, rfl, hn, hs⟩
theorem SeesT.first {w : World} {p : Nat → Prop} {A : Option Addr} {x : Tm} {L : List Tm} (h : SeesT w p A (x :: L)) : SeesT w p A [x] := by
  obtain ⟨vs, h1, h2, h3⟩ := h
  have hl : 7 ≤ vs.length := by rw [h2]; simp; omega
  refine ⟨vs.take 7, ?_, by rw [List.length_take]; simp; omega, fun k y hy => ?_⟩
  · rcases h1 with h1 | ⟨b, off, rfl, hb, hc⟩
    · subst h1; simp at hl
    · refine .inr ⟨b, off, rfl, hb, fun j hj => ?_⟩
      have hj7 : j < 7 := by rw [List.length_take] at hj; omega
      rw [hc j (by omega), List.getElem?_take, if_pos hj7]
  · have hk : k = 0 := by
      have := (List.getElem?_eq_some_iff.1 hy).1
      simpa using this
    subst hk
    obtain rfl : x = y := by simpa using hy
    obtain ⟨Ad, cd, g0, g1, g2⟩ := h3 0 x rfl
    refine ⟨Ad, cd, g0, g1, fun j hj => ?_⟩
    rw [List.getElem?_take, if_pos (by omega)]
    exact g2 j hj
theorem UseN1.of {P : Program} {f : FuncId} {args : Array Value} {w : World} {l : List Int} (h : Calls P f args w fun e w' => ∃ A c, e = .returned (.slice A 1 c) ∧ SeesP w' (· < w'.heap.size) A (Is l) ∧ Below w.heap.size w w') : Calls P f args w fun e w' => ∃ A c, e = .returned (.slice A 1 c) ∧ Below w.heap.size w w' :=
  h.mono fun e w' h => by obtain ⟨A, c, h1, _, h2⟩ := h; exact ⟨A, c, h1, h2⟩
theorem sl_one (g n c : Nat) (h1 : 1 ≤ n) (hc : n ≤ c) (w : World) : (Instr.sliceAt 22 (.slice (some ⟨g, 0, none⟩) n c) none (some (.int .i64 1)) none).run Try.prog w = .ok (.slice (some ⟨g, 0, none⟩) 1 c) w := by
  have h2 : (1 : Int) ≤ (c : Int) := by omega
  by_cases h : c = 1
  · subst h
    obtain rfl : n = 1 := by omega
    simp [go_sem, Addr.add]
  · simp [go_sem, Addr.add, h2, h]
set_option maxHeartbeats 6400000 in
set_option maxRecDepth 20000 in
theorem law_returns (A : Option Addr) (c : Nat) (ls : List Int) (w : World) (hl : ls.length ≤ 140737488351232) (hr : ∀ x ∈ ls, -9223372036854775808 ≤ x ∧ x ≤ 9223372036854775807) (hs : SeesP w (· < w.heap.size) A (ls.map (Value.int .i64))) :
    Calls Try.prog 6 #[.slice A ls.length c] w fun e w' => e = .returned (.bool true) ∧ Below w.heap.size w w' := by
  have HR := Lib.hid (made_roll A c ls w hl hr hs)
  have HL := Lib.hid (made_light A ls.length c w hl)
  obtain ⟨m, hm⟩ : ∃ z, ls.length = z := ⟨_, rfl⟩
  rw [hm] at HR HL ⊢
  obtain ⟨lg, hlg⟩ : ∃ z, decide (m ≤ 400) = z := ⟨_, rfl⟩
  rw [hlg] at HL
  clear hl hr hs hm hlg
  rcases lg with _ | _
  · go_enter Try.func6, Try.ntmps6
    go_wp2_with (first
      | (go_at_call 20; ((with_reducible refine HL.out.mono ?_); rintro e w1 ⟨rfl, hw1⟩); (have hw2 := hw1.symm; clear hw1; subst hw2))
      | (go_at_call 9; ((with_reducible refine (law_awake _).mono ?_); rintro e w2 ⟨rfl, hb⟩); have H2 := Lib.hid hb; clear hb))
    go_ret
    exact ⟨rfl, H2.out⟩
  obtain ⟨D, hD⟩ : ∃ z, w.heap.size = z := ⟨_, rfl⟩
  rw [hD] at HR
  have HBR := Lib.hid (show ∀ a b, Below w.heap.size w a → a.grownBy b (some D) → Below w.heap.size w b from fun a b h hg => below_row h (by rw [hD]; exact hg))
  have HBD := Lib.hid (show ∀ b, Below D w b → Below w.heap.size w b from fun b h => by rw [hD]; exact h)
  have HN := Lib.hid (show ∀ w, DiceOk w D → Calls Try.prog 23 #[.pointer (some ⟨D, 0, none⟩), .int .i64 3] w (NextIs w D 3) from fun w h => dice_next D 3 w (by decide) (by decide) h)
  have HTS := Lib.hid (show ∀ (r : Nat) (w : World), r < 3 → DiceOk w D → Calls Try.prog 22 #[.pointer (some ⟨D, 0, none⟩), .int .i64 (1 + (r : Int))] w (TmsIs w D) from fun r w hr h => dice_templates D _ (by omega) w h)
  clear hD
  go_enter Try.func6, Try.ntmps6
  go_wp2_with (first
    | (go_at_call 20; ((with_reducible refine HL.out.mono ?_); rintro e w1 ⟨rfl, hw1⟩); (have hw2 := hw1.symm; clear hw1; subst hw2))
    | (go_at_call 21; ((with_reducible refine HR.out.mono ?_); rintro e w2 ⟨rfl, hd, hb⟩); have H2 := Lib.hid (show Below w.heap.size w w2 ∧ DiceOk w2 D from ⟨HBD.out _ hb, hd⟩); clear hb hd)
    | (go_at_call 23; ((with_reducible refine (HN.out _ H2.out.2).mono ?_); rintro e w3 ⟨r, hr3, rfl, hg, hd⟩); have H3 := Lib.hid (show _ ∧ _ ∧ r < 3 from ⟨HBR.out _ _ H2.out.1 hg, hd, hr3⟩); clear hg hd)
    | (go_at_call 22; go_must (refine (HTS.out r _ H3.out.2.2 H3.out.2.1).mono ?_); (skip; rintro e w4 ⟨v, L, rfl, hl1, hl3, hval, hheld, hg, hd⟩); have H4 := Lib.hid (show Below w.heap.size w w4 ∧ 1 ≤ L.length ∧ L.length ≤ 3 ∧ (∀ x ∈ L, vT x = 0) ∧ HeldT w3 w4 v L from ⟨HBR.out _ _ H3.out.1 hg, hl1, hl3, hval, hheld⟩); clear hl1 hl3 hval hheld hg hd))
  obtain ⟨x, L', rfl⟩ : ∃ x L', L = x :: L' := by
    match L, H4.out.2.1 with
    | x :: L', _ => exact ⟨x, L', rfl⟩
  obtain ⟨g, cp, rfl, hcp, hsee⟩ := H4.out.2.2.2.2.slice2
  have hval := H4.out.2.2.2.1
  have hvx := hval x (List.mem_cons_self ..)
  obtain ⟨n, hn⟩ : ∃ z, (x :: L').length = z := ⟨_, rfl⟩
  have h13 := And.intro H4.out.2.1 H4.out.2.2.1
  rw [hn] at h13 hcp ⊢
  have henc := enc_of (l := x :: L') (by rw [hn]; exact h13.1) (by rw [hn]; omega) hval
  obtain ⟨hde, hdv⟩ := dec_enc (l := x :: L') (by rw [hn]; exact h13.1) (by rw [hn]; omega) hval
  have hE := fun A c w hs => p_encode (x :: L') n hn A c w hs
  obtain ⟨hfok, _⟩ := enc_ok (x :: L')
  unfold EncIs at hE
  rw [henc] at hE
  obtain ⟨fE, hfE⟩ : ∃ z, encF (x :: L') = z := ⟨_, rfl⟩
  rw [hfE] at hE hde hdv hfok
  obtain ⟨fl, hfl⟩ : ∃ z, fE.len = z := ⟨_, rfl⟩
  rw [hfl] at hE
  have hDc := fun A c w hs => p_decode fE fl hfl hfok A c w hs
  unfold DecIs at hDc
  rw [hdv, hde, hn] at hDc
  have hdl : ∀ y ∈ (x :: L'), y.d.length ≤ maxLen := fun y hy => by
    have := (vT_bd (hval y hy)).2.2.2.2.2.2.2.2
    unfold maxLen; omega
  have hSM := fun A B c d w ha hb => r13_same (x :: L') n hn (by omega) hdl A B c d w ha hb
  obtain ⟨hu1, hu2, hu3⟩ := use_on hvx
  obtain ⟨hb1, _, hb3, hb4, _, _⟩ := vT_bd hvx
  have HE := Lib.hid hE
  have HDC := Lib.hid hDc
  have HSM := Lib.hid hSM
  have HSEE := Lib.hid (show SeesT w4 (· < w4.heap.size) (some ⟨g, 0, none⟩) (x :: L') from hsee.imp fun b hb => newB_lt hb)
  have HB4 := Lib.hid H4.out.1
  have hux0 := fun A c w hs => p_usable [x] 1 rfl (by decide) x.k x.f A c w hs
  have hux1 := fun A c w hs => p_usable_no [x] 1 rfl (by decide) x.k (x.t + 1) hu2 A c w hs
  have hux2 := fun A c w hs => p_usable_no [x] 1 rfl (by decide) x.k (x.f - 1) hu3 A c w hs
  unfold UseIs at hux0
  rw [hu1] at hux0
  obtain ⟨xk, hxk⟩ : ∃ z, x.k = z := ⟨_, rfl⟩
  obtain ⟨xf, hxf⟩ : ∃ z, x.f = z := ⟨_, rfl⟩
  obtain ⟨xt, hxt⟩ : ∃ z, x.t = z := ⟨_, rfl⟩
  rw [hxk, hxf] at hux0 hux2
  rw [hxk, hxt] at hux1
  rw [hxf] at hb3
  rw [hxt] at hb4
  have HUX := Lib.hid (show _ ∧ _ ∧ _ from ⟨hux0, hux1, hux2⟩)
  have HXX := Lib.hid (show x.k = xk ∧ x.f = xf ∧ x.t = xt from ⟨hxk, hxf, hxt⟩)
  clear hE hDc hSM hux0 hux1 hux2 hxk hxf hxt hu1 hu2 hu3 hfl hfE hfok hde hdv henc hval hvx hdl hsee hn H4 H3 H2 HTS HN HBR HBD HL HR
  refine (HE.out _ _ _ HSEE.out).mono ?_
  rintro e w5 ⟨A5, c5, rfl, _, s5, hb⟩
  have H5 := Lib.hid (show Below w.heap.size w w5 ∧ SeesN w5 (· < w5.heap.size) A5 fE ∧ SeesT w5 (· < w5.heap.size) (some ⟨g, 0, none⟩) (x :: L') from ⟨below_on HB4.out hb, s5.imp fun b hb => newB_lt hb, HSEE.out.on hb⟩)
  clear s5 hb
  go_wp2_with fail
  refine (HDC.out _ _ _ H5.out.2.1).mono ?_
  rintro e w6 ⟨A6, c6, rfl, s6, hb⟩
  have H6 := Lib.hid (show Below w.heap.size w w6 ∧ SeesT w6 (· < w6.heap.size) A6 (x :: L') ∧ SeesT w6 (· < w6.heap.size) (some ⟨g, 0, none⟩) (x :: L') from ⟨below_on H5.out.1 hb, s6.imp fun b hb => newB_lt hb, H5.out.2.2.on hb⟩)
  obtain ⟨gb, go, Ad, cd, eg, _, hr6, _⟩ := tm_at (k := 0) H6.out.2.2 rfl
  injection eg with eg
  injection eg with eg1 eg2 _
  subst eg1; subst eg2
  obtain ⟨us, hus⟩ : ∃ z, x.cs Ad cd = z := ⟨_, rfl⟩
  have HU := Lib.hid (show us[0]? = some (.int .i64 xk) ∧ us[2]? = some (.int .i64 xf) ∧ us[3]? = some (.int .i64 xt) from by rw [← hus, ← HXX.out.1, ← HXX.out.2.1, ← HXX.out.2.2]; exact ⟨rfl, rfl, rfl⟩)
  have HUS0 := Lib.hid (show us.length = zerT.length ∧ (∀ u ∈ us, u.oneCell' = true) ∧ (Try.prog.info? 27).map (·.size) = some us.length from by rw [← hus]; exact ⟨rfl, cs_one _ _ _, size_t⟩)
  rw [hus, Nat.zero_mul, Nat.add_zero] at hr6
  have HR6 := Lib.hid hr6
  clear s6 hb hr6 hus
  go_wp2_with (first
    | ((with_reducible refine at_load_ (d := 35) ?_); go_must (refine wpList_load_mid rfl 27 (.tmp 34) rfl g 0 rfl us _ HR6.out Try.underlying27 rfl HUS0.out.2.2 ?_))
    | ((with_reducible refine at_alloc_ (d := 9) ?_); refine wpList_alloc_v (op := ⟨some 9, _, _, _, _, _⟩) rfl 27 rfl zerT info_t ?_; intro g9 w7 hf hr; have H7 := Lib.hid (show _ ∧ _ from ⟨hf, hr⟩); clear hf hr)
    | ((with_reducible refine at_store_ (i := 9) ?_); go_must (refine wpList_store_v rfl 27 (.tmp 9) (.tmp 35) rfl g9 zerT us rfl rfl H7.out.2 HUS0.out.1 HUS0.out.2.1 HUS0.out.2.2 ?_); intro w8 hw hr; have hb := H7.out.1.wr_bl hw; have H9 := Lib.hid (show Below w.heap.size w w8 ∧ RowV w8 g9 us from ⟨below_on H6.out.1 hb, hr⟩); have H8 := Lib.hid (show SeesT w8 (· < w8.heap.size) A6 (x :: L') ∧ SeesT w8 (· < w8.heap.size) (some ⟨g, 0, none⟩) (x :: L') from ⟨H6.out.2.1.on hb, H6.out.2.2.on hb⟩); clear hw hr hb))
  have sl1 := fun w => sl_one g n cp h13.1 hcp w
  have hxt0 : 0 ≤ xt := hb4.1
  have hxt1 : xt ≤ 4611686018427387904 := by omega
  have HUS := Lib.hid (show (∀ c, Below w8.heap.size w8 c → _) ∧ (∀ c, Below w8.heap.size w8 c → _) ∧ (∀ c, Below w8.heap.size w8 c → _) from ⟨fun c hc => UseN1.of (HUX.out.1 _ cp c ((H8.out.2.first).on hc)), fun c hc => HUX.out.2.1 _ cp c ((H8.out.2.first).on hc), fun c hc => HUX.out.2.2 _ cp c ((H8.out.2.first).on hc)⟩)
  refine region_facts (by kernel_rfl) _ w8 (fun c => Below w8.heap.size w8 c) 99 (factL [fun u _ => u = .slice (some ⟨g, 0, none⟩) n cp, fun u _ => u = .slice (some ⟨g, 0, none⟩) 1 cp, fun u _ => u = .pointer (some ⟨g9, 0, none⟩), fun u _ => u = .int .i64 xk, fun u _ => u = .pointer (some ⟨g9, 2, none⟩), fun u _ => u = .int .i64 xf, fun u _ => ∃ A c9, u = .slice A 1 c9, fun u _ => u = .slice (some ⟨g, 0, none⟩) n cp, fun u _ => u = .slice (some ⟨g, 0, none⟩) 1 cp, fun u _ => u = .pointer (some ⟨g9, 0, none⟩), fun u _ => u = .int .i64 xk, fun u _ => u = .pointer (some ⟨g9, 3, none⟩), fun u _ => u = .int .i64 xt, fun u _ => u = .int .i64 (xt + 1), fun u _ => u = .slice none 0 0, fun u _ => ∃ A c9, u = .slice A 1 c9, fun u _ => u = .slice none 0 0]) (by kernel_rfl) (firm_list (by simp only [List.forall_mem_cons]; exact ⟨firm_eq _, firm_eq _, firm_eq _, firm_eq _, firm_eq _, firm_eq _, fun u c c' h _ => h, firm_eq _, firm_eq _, firm_eq _, firm_eq _, firm_eq _, firm_eq _, firm_eq _, firm_eq _, fun u c c' h _ => h, firm_eq _, fun X h => by cases h⟩)) (fun c c' h hb => below_on h hb) (Below.refl _ _) (Below.refl _ _) ?_ ?_
  · refine ops_all (allI.cons ?_ (allI.cons ?_ (allI.cons ?_ (allI.cons ?_ (allI.cons ?_ (allI.cons ?_ (allI.cons ?_ (allI.cons ?_ (allI.cons ?_ (allI.cons ?_ (allI.cons ?_ (allI.cons ?_ (allI.cons ?_ (allI.cons ?_ (allI.cons ?_ (allI.cons ?_ (allI.cons ?_ allI.nil))))))))))))))))) <;> intro v S c a hI hw1 hX hSi hdep hS hC
    · exact o_mv _ rfl (hS.old 4 rfl) (Step.still rfl)
    · exact o_sl _ (.tmp 36) none (some (.const (.int .i64 1))) none rfl ((hS.get 0 (dep_at hdep 0 rfl) rfl rfl).trans (hX 0 (dep_at hdep 0 rfl))) rfl rfl rfl (sl1 _) (Step.still rfl)
    · exact o_fa _ (.tmp 9) 0 rfl (hS.old 9 rfl) (fa_t0 g9 _) (Step.still rfl)
    · exact o_ld _ (.tmp 38) rfl ((hS.get 2 (dep_at hdep 2 rfl) rfl rfl).trans (hX 2 (dep_at hdep 2 rfl))) (((H9.out.2.on hI).cell 0).trans HU.out.1) ag_i (Step.still rfl)
    · exact o_fa _ (.tmp 9) 2 rfl (hS.old 9 rfl) (fa_t2 g9 _) (Step.still rfl)
    · exact o_ld _ (.tmp 40) rfl ((hS.get 4 (dep_at hdep 4 rfl) rfl rfl).trans (hX 4 (dep_at hdep 4 rfl))) (((H9.out.2.on hI).cell 2).trans HU.out.2.1) ag_i (Step.still rfl)
    · refine o_callV (.func 11) 11 #[.tmp 37, .tmp 39, .tmp 41] _ rfl rfl (ev3 ((hS.get 1 (dep_at hdep 1 rfl) rfl rfl).trans (hX 1 (dep_at hdep 1 rfl))) ((hS.get 3 (dep_at hdep 3 rfl) rfl rfl).trans (hX 3 (dep_at hdep 3 rfl))) ((hS.get 5 (dep_at hdep 5 rfl) rfl rfl).trans (hX 5 (dep_at hdep 5 rfl)))) (by kernel_rfl) (HUS.out.1 c hI) (fun e w9 h => ?_)
      obtain ⟨A, c9, rfl, hb⟩ := h
      exact ⟨_, rfl, Step.new ⟨A, c9, rfl⟩ hb⟩
    · exact o_mv _ rfl (hS.old 4 rfl) (Step.still rfl)
    · exact o_sl _ (.tmp 43) none (some (.const (.int .i64 1))) none rfl ((hS.get 7 (dep_at hdep 7 rfl) rfl rfl).trans (hX 7 (dep_at hdep 7 rfl))) rfl rfl rfl (sl1 _) (Step.still rfl)
    · exact o_fa _ (.tmp 9) 0 rfl (hS.old 9 rfl) (fa_t0 g9 _) (Step.still rfl)
    · exact o_ld _ (.tmp 45) rfl ((hS.get 9 (dep_at hdep 9 rfl) rfl rfl).trans (hX 9 (dep_at hdep 9 rfl))) (((H9.out.2.on hI).cell 0).trans HU.out.1) ag_i (Step.still rfl)
    · exact o_fa _ (.tmp 9) 3 rfl (hS.old 9 rfl) (fa_t3 g9 _) (Step.still rfl)
    · exact o_ld _ (.tmp 47) rfl ((hS.get 11 (dep_at hdep 11 rfl) rfl rfl).trans (hX 11 (dep_at hdep 11 rfl))) (((H9.out.2.on hI).cell 3).trans HU.out.2.2) ag_i (Step.still rfl)
    · exact o_bin .add _ _ (.tmp 48) (.const (.int .i64 1)) rfl ((hS.get 12 (dep_at hdep 12 rfl) rfl rfl).trans (hX 12 (dep_at hdep 12 rfl))) rfl (add_one xt hxt0 hxt1 _ _ _) (Step.still rfl)
    · refine o_callV (.func 11) 11 #[.tmp 44, .tmp 46, .tmp 49] _ rfl rfl (ev3 ((hS.get 8 (dep_at hdep 8 rfl) rfl rfl).trans (hX 8 (dep_at hdep 8 rfl))) ((hS.get 10 (dep_at hdep 10 rfl) rfl rfl).trans (hX 10 (dep_at hdep 10 rfl))) ((hS.get 13 (dep_at hdep 13 rfl) rfl rfl).trans (hX 13 (dep_at hdep 13 rfl)))) (by kernel_rfl) (HUS.out.2.1 c hI) (fun e w9 h => ?_)
      obtain ⟨rfl, hb⟩ := h
      exact ⟨_, rfl, Step.new rfl hb⟩
    · exact o_as _ rfl (hS.get 6 (dep_at hdep 6 rfl) rfl rfl) (Step.still (hX 6 (dep_at hdep 6 rfl)))
    · exact o_as _ rfl ((hS.get 14 (dep_at hdep 14 rfl) rfl rfl).trans (hX 14 (dep_at hdep 14 rfl))) (Step.still rfl)
  · intro v8 w9 hI hX
    obtain ⟨A10, c10, e10⟩ := hX 15 (by decide)
    have e11 : v8 16 = .slice none 0 0 := hX 16 (by decide)
    have HBW := Lib.hid (below_on H9.out.1 hI)
    have HROW := Lib.hid (H9.out.2.on hI)
    have HS9 := Lib.hid (show SeesT w9 (· < w9.heap.size) (some ⟨g, 0, none⟩) (x :: L') ∧ SeesT w9 (· < w9.heap.size) A6 (x :: L') from ⟨H8.out.2.on hI, H8.out.1.on hI⟩)
    clear hX
    simp only [putAll, Act.put]
    simp
    rw [e10, e11]
    clear e10 e11 HUS H8 H9 HR6 H7
    go_wp2_with fail
    have q1 := quiet_up (w := w9) fun w' _ => law_awake w'
    have q2 := quiet_up (w := w9) fun w' h => HSM.out (some ⟨g, 0, none⟩) A6 cp c6 w' (HS9.out.1.on h) (HS9.out.2.on h)
    have q3 := quiet_up (w := w9) fun w' h => HUX.out.2.2 (some ⟨g, 0, none⟩) cp w' ((HS9.out.1.first).on h)
    have k0 := cell_up (w := w9) fun w' h => ((HROW.out.on h).cell 0).trans HU.out.1
    have k2 := cell_up (w := w9) fun w' h => ((HROW.out.on h).cell 2).trans HU.out.2.1
    have ds : wrap64 (xf - 1) = xf - 1 := by unfold wrap64; omega
    refine wp_region_quiet_below (by kernel_rfl) (by kernel_rfl) ?_
    repeat (first
      | go_big_quiet_skip | (go_big_quiet_want; go_big_quiet_op; go_big_quiet_on) | quiet_step (first | with_reducible exact q1 _ _ | with_reducible exact q2 _ _ | with_reducible exact q3 _ _))
    refine wpQuiet_nil ?_
    intro w10 hw10
    have H10 := Lib.hid (below_on HBW.out (below_of_regrown hw10))
    clear hw10 q1 q2 q3 k0 k2
    go_wp2
    go_ret
    exact ⟨rfl, H10.out⟩
end Go.Proofs.Ytobbnedojmcgoaa
