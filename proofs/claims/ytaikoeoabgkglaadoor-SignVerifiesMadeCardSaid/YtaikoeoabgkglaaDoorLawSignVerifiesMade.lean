/-
  What is proved here: for every two numbers and all bytes, a signature is right under the public key of its secret, and the program's Verify reports what the reference's reports when the message, the signature or the key was changed (the statement SignVerifiesMade), where the tables start as the program's text lays them; no other condition.
-/
import Derived.Test.YtaikoeoabgkglaaDoorOp4
import Derived.Test.YtaikoeoabgkglaaDoorOa
import Derived.Test.YtaikoeoabgkglaaDoorSw
import Derived.Test.YtaikoeoabgkglaaDoorSd
import Derived.Test.YtaikoeoabgkglaaDoorCu
namespace Go.Proofs.YtaikoeoabgkglaaDoor.signVerifiesMade
open Go.ChangeShapes Go.WideShapes Go.ChangeAt Go.RowKit
open Go.ChangeMaps (open_string shut_string)
set_option linter.unusedVariables false

abbrev laidL := laidL3
abbrev laidKinds := laidKinds3
theorem of_laid {W : World} (h : laidMetH Tryd.prog laidL W) : TabA W ∧ TabR W := of_laid3 h
/-- two copies of a signature lie in blocks of their own -/
def TwoR (w : World) (g0 g h : Nat) (e s : Int) (wx : World) : Prop := Below w.heap.size w wx ∧ w.heap.size ≤ g ∧ w.heap.size ≤ h ∧ g ≠ h ∧ g0 ≠ g ∧ g0 ≠ h ∧ RowV wx g0 [.int .i64 e, .int .i64 s] ∧ RowV wx g [.int .i64 e, .int .i64 s] ∧ RowV wx h [.int .i64 e, .int .i64 s]
theorem two_rows {w v : World} {g0 : Nat} {e s : Int} {t : TypeId} (hb : Below w.heap.size w v) (h0 : RowV v g0 [.int .i64 e, .int .i64 s]) : TwoR w g0 v.heap.size (v.heap.size + 1) e s ((v.alloc (.cells #[.int .i64 e, .int .i64 s] t)).alloc (.cells #[.int .i64 e, .int .i64 s] t)).drew := by
  have b1 := below_al v (.cells #[.int .i64 e, .int .i64 s] t)
  have b2 := below_al (v.alloc (.cells #[.int .i64 e, .int .i64 s] t)) (.cells #[.int .i64 e, .int .i64 s] t)
  have r1 := row_al2 v e s t
  have r2 := row_al2 (v.alloc (.cells #[.int .i64 e, .int .i64 s] t)) e s t
  have hs : (v.alloc (.cells #[.int .i64 e, .int .i64 s] t)).heap.size = v.heap.size + 1 := by simp
  have hlt := h0.lt
  have hge := hb.size
  refine ⟨(below_on (below_on hb b1) b2).drew, by omega, by omega, by omega, by omega, by omega, ((h0.on b1).on b2).drew, (r1.on b2).drew, ?_⟩
  rw [hs] at r2
  exact r2.drew
theorem TwoR.swap {w wx : World} {g0 g h : Nat} {e s : Int} (H : TwoR w g0 g h e s wx) : TwoR w g0 h g e s wx := by
  obtain ⟨a, b, c, d, i, j, k, l, m⟩ := H
  exact ⟨a, c, b, d.symm, j, i, k, m, l⟩
set_option maxRecDepth 40000 in
set_option maxHeartbeats 4000000 in
theorem walk (k0 k1 : Int) (A : Option Addr) (c : Nat) (x : List UInt8) (B : Option Addr) (d : Nat) (y : List UInt8) (w : World) (ht : TabA w ∧ TabR w) (wk : (Lit.int .i64 k0).wf = true) (wk1 : (Lit.int .i64 k1).wf = true) (hs : Sees w w.heap.size A (Us x)) (m : x.length ≤ 140737488351232) (hn : A = none → c = 0) (hs2 : Sees w w.heap.size B (Us y)) (m2 : y.length ≤ 140737488351232) (hn2 : B = none → d = 0) :
    Calls Tryd.prog 5 #[.agg #[.int .i64 k0, .int .i64 k1], .slice A x.length c, .slice B y.length d] w fun e w' => e = .returned (.bool true) ∧ Below w.heap.size w w' := by
  obtain ⟨N, hN⟩ : ∃ N, x.length = N := ⟨_, rfl⟩
  rw [hN] at m ⊢
  have hx : InB w A N c x := ⟨hN, by omega, hn, SeesP.iff_sees.2 hs⟩
  have HB := Lib.hid (Below.refl w.heap.size w)
  obtain ⟨M, hM⟩ : ∃ M, y.length = M := ⟨_, rfl⟩
  rw [hM] at m2 ⊢
  have hy : InB w B M d y := ⟨hM, by omega, hn2, SeesP.iff_sees.2 hs2⟩
  have na := fun w => ref_near k0 w
  have nb := fun w => ref_near k1 w
  have np := fun w => ref_point k1 w
  have hb1 := near_bd k0
  have hb2 := near_bd k1
  generalize nearZ k0 = n at *
  generalize nearZ k1 = z at *
  generalize pointZ k1 = t at *
  have sn : secB n = true := secB_mk hb1.1 (by omega)
  have pu := fun w => ref_public n w
  rw [(pu_yes sn).1, (pu_yes sn).2] at pu
  have p1 := fun (w : World) (hx : InB w A N c x) (ht : TabA w) => sg_sign (k := n) (x := x) (A := A) (a := N) (c := c) (w := w) hx ht
  rw [(sg_yes sn x).2.2] at p1
  have p2 := fun (w : World) (hx : InB w A N c x) (ht : TabA w) => sg_verify (p := pwZ 4 n) (e := sgE n x) (s := sgS n x) (x := x) (A := A) (a := N) (c := c) (w := w) hx ht
  rw [vf_made sn x] at p2
  generalize sgE n x = e at *
  generalize sgS n x = s at *
  generalize pwZ 4 n = p at *
  have H := Lib.hid (show _ ∧ _ ∧ _ ∧ _ from ⟨hx, hy, ht.1, ht.2⟩)
  have HC := Lib.hid (show _ ∧ _ ∧ _ ∧ _ ∧ _ ∧ _ from ⟨na, pu, p1, p2, nb, np⟩)
  have hb1' := hb1.1
  have hb2' := hb2.1
  have hb2'' := hb2.2
  clear ht wk wk1 hs hn hx hs2 hn2 hy na nb np hb1 hb2 pu p1 p2 hN hM sn
  go_enter Tryd.func5, Tryd.ntmps5
  go_wp2_with fail
  obtain ⟨w2, hw2⟩ : ∃ w2, w2 = w.alloc (.cells #[.int .i64 k0, .int .i64 k1] 32) := ⟨_, rfl⟩
  have H2 := Lib.hid (show Below w.heap.size w w2 ∧ RowV w2 w.heap.size [.int .i64 k0, .int .i64 k1] from by rw [hw2]; exact ⟨below_al w _, row_al2 w k0 k1 _⟩)
  rw [← hw2]
  clear hw2
  have q1 := quiet_still (w := w2) HC.out.1
  have l0 := H2.out.2.quiet (k := 0) rfl
  have l1 := H2.out.2.quiet (k := 1) rfl
  refine wp_region_quiet_below (by kernel_rfl) (by kernel_rfl) ?_
  repeat (quiet_step (with_reducible exact q1 _ _))
  refine wpQuiet_nil ?_
  intro w3 hw3
  replace HB := Lib.hid (below_on H2.out.1 (below_of_regrown hw3))
  clear hw3 q1 l0 l1 H2
  go_upto_region 6 with (first
    | (go_at_call 14; ((with_reducible refine (HC.out.2.1 _).mono ?_); rintro en w' ⟨rfl, rfl⟩))
    | (go_at_call 8; ((with_reducible refine (HC.out.2.2.1 _ (H.out.1.on HB.out) (H.out.2.2.1.below HB.out)).mono ?_); rintro en v1 ⟨rfl, hb⟩); replace HB := Lib.hid (below_on HB.out hb); clear hb)
    | ((with_reducible refine at_alloc_ (d := 11) ?_); refine wpList_alloc_v (op := ⟨some 11, _, _, _, _, _⟩) rfl 24 rfl [.int .i64 0, .int .i64 0] info_sg ?_; intro g11 a2 hf hr; have HF11 := Lib.hid (And.intro hf hr); clear hf hr)
    | ((with_reducible refine at_store_ (i := 11) ?_); refine wpList_store_v rfl 24 (.tmp 11) (.tmp 30) rfl g11 [.int .i64 0, .int .i64 0] [.int .i64 e, .int .i64 s] rfl rfl HF11.out.2 rfl (one2 _ _) size_sg ?_; intro v3 hw hr; have hb := HF11.out.1.wr_bl hw; replace HB := Lib.hid (below_on HB.out hb); have HR11 := Lib.hid hr; clear hw hr hb HF11)
    | (go_at_call 11; ((with_reducible refine (awake _ (H.out.2.2.1.below HB.out)).mono ?_); rintro en v4 ⟨rfl, hb⟩); replace HR11 := Lib.hid (HR11.out.on hb); replace HB := Lib.hid (below_on HB.out hb); have xHR110 : v4.cell? ⟨g11, 0, none⟩ = some (.int .i64 e) := HR11.out.cell 0; have xHR111 : v4.cell? ⟨g11, 1, none⟩ = some (.int .i64 s) := HR11.out.cell 1; clear hb)
    | (go_at_call 12; ((with_reducible refine (HC.out.2.2.2.1 _ (H.out.1.on HB.out) (H.out.2.2.1.below HB.out)).mono ?_); rintro en v5 ⟨rfl, hb⟩); replace HR11 := Lib.hid (HR11.out.on hb); replace HB := Lib.hid (below_on HB.out hb); clear xHR110 xHR111; clear hb))
  go_cut [13, 14] from 49 to 50 (fun v13 v14 wx => ∃ g h : Nat, v13 = .pointer (some ⟨g, 0, none⟩) ∧ v14 = .pointer (some ⟨h, 0, none⟩) ∧ Hid (TwoR w g11 g h e s wx))
  case first =>
    have c0 : v5.cell? ⟨g11, 0, none⟩ = some (.int .i64 e) := HR11.out.cell 0
    have c1 : v5.cell? ⟨g11, 1, none⟩ = some (.int .i64 s) := HR11.out.cell 1
    have c2 := World.new_ne v5 ⟨g11, 0, none⟩ c0
    have c3 := World.new_ne v5 ⟨g11, 1, none⟩ c1
    go_region_held3 (fun w' => w'.cell? ⟨g11, 0, none⟩ = some (.int .i64 e) ∧ w'.cell? ⟨g11, 1, none⟩ = some (.int .i64 s)) (go_keep) (fail)
    · go_wp2_with fail
      go_meet
      exact ⟨_, _, rfl, rfl, Lib.hid (two_rows HB.out HR11.out)⟩
    · go_wp2_with fail
      go_meet
      exact ⟨_, _, rfl, rfl, Lib.hid (two_rows HB.out HR11.out).swap⟩
  case rest =>
    obtain ⟨g, h, rfl, rfl, HT⟩ := hcut
    have T0 := Lib.hid (show Below w.heap.size w wc ∧ w.heap.size ≤ g ∧ w.heap.size ≤ h ∧ g ≠ h ∧ g11 ≠ g ∧ g11 ≠ h from ⟨HT.out.1, HT.out.2.1, HT.out.2.2.1, HT.out.2.2.2.1, HT.out.2.2.2.2.1, HT.out.2.2.2.2.2.1⟩)
    have T1 := Lib.hid (show RowV wc g11 [.int .i64 e, .int .i64 s] ∧ RowV wc g [.int .i64 e, .int .i64 s] ∧ RowV wc h [.int .i64 e, .int .i64 s] from HT.out.2.2.2.2.2.2)
    clear HT HB HR11
    go_wp2_with (first
      | (go_at_call 10; ((with_reducible refine (HC.out.2.2.2.2.1 _).mono ?_); rintro en w' ⟨rfl, rfl⟩))
      | (go_at_call 15; ((with_reducible refine (HC.out.2.2.2.2.2 _).mono ?_); rintro en w' ⟨rfl, rfl⟩))
      | (refine wpList_store_at rfl 3 (.tmp 57) (.tmp 53) rfl g 0 [.int .i64 e, .int .i64 s] (.int .i64 (z - 1)) rfl rfl T1.out.2.1 (by simp) rfl rfl info_int1 ?_; intro x1 hw hr; have T2 := Lib.hid (show Below w.heap.size w x1 ∧ RowV x1 g11 [.int .i64 e, .int .i64 s] ∧ RowV x1 g [.int .i64 (z - 1), .int .i64 s] ∧ RowV x1 h [.int .i64 e, .int .i64 s] from ⟨hw.bl T0.out.1 T0.out.2.1, T1.out.1.wr hw T0.out.2.2.2.2.1, hr, T1.out.2.2.wr hw T0.out.2.2.2.1.symm⟩); clear hw hr)
      | (refine wpList_store_at rfl 3 (.tmp 58) (.tmp 56) rfl h 1 [.int .i64 e, .int .i64 s] (.int .i64 (z - 1)) rfl rfl T2.out.2.2.2 (by simp) rfl rfl info_int1 ?_; intro x2 hw hr; have T3 := Lib.hid (show Below w.heap.size w x2 ∧ RowV x2 g11 [.int .i64 e, .int .i64 s] ∧ RowV x2 g [.int .i64 (z - 1), .int .i64 s] ∧ RowV x2 h [.int .i64 e, .int .i64 (z - 1)] from ⟨hw.bl T2.out.1 T0.out.2.2.1, T2.out.2.1.wr hw T0.out.2.2.2.2.2, T2.out.2.2.1.wr hw T0.out.2.2.2.1, hr⟩); clear hw hr))
    have up := fun (w' : World) (hb : Below x2.heap.size x2 w') => below_on T3.out.1 hb
    have q1 := quiet_up (w := x2) fun w' hb => sg_verify (p := p) (e := e) (s := s) (H.out.2.1.on (up w' hb)) (H.out.2.2.1.below (up w' hb))
    have q2 := quiet_up (w := x2) fun w' hb => ref_verify (p := p) (e := e) (s := s) (H.out.2.1.on (up w' hb)) (H.out.2.2.2.below (up w' hb))
    have q3 := quiet_up (w := x2) fun w' hb => sg_verify (p := p) (e := z - 1) (s := s) (H.out.1.on (up w' hb)) (H.out.2.2.1.below (up w' hb))
    have q4 := quiet_up (w := x2) fun w' hb => ref_verify (p := p) (e := z - 1) (s := s) (H.out.1.on (up w' hb)) (H.out.2.2.2.below (up w' hb))
    have q5 := quiet_up (w := x2) fun w' hb => sg_verify (p := p) (e := e) (s := z - 1) (H.out.1.on (up w' hb)) (H.out.2.2.1.below (up w' hb))
    have q6 := quiet_up (w := x2) fun w' hb => ref_verify (p := p) (e := e) (s := z - 1) (H.out.1.on (up w' hb)) (H.out.2.2.2.below (up w' hb))
    have q7 := quiet_up (w := x2) fun w' hb => sg_verify (p := t) (e := e) (s := s) (H.out.1.on (up w' hb)) (H.out.2.2.1.below (up w' hb))
    have q8 := quiet_up (w := x2) fun w' hb => ref_verify (p := t) (e := e) (s := s) (H.out.1.on (up w' hb)) (H.out.2.2.2.below (up w' hb))
    generalize vfB p y e s = b1 at *
    generalize vfB p x (z - 1) s = b2 at *
    generalize vfB p x e (z - 1) = b3 at *
    generalize vfB t x e s = b4 at *
    have l0 := T3.out.2.1.quiet (k := 0) rfl
    have l1 := T3.out.2.1.quiet (k := 1) rfl
    have l2 := T3.out.2.2.1.quiet (k := 0) rfl
    have l3 := T3.out.2.2.1.quiet (k := 1) rfl
    have l4 := T3.out.2.2.2.quiet (k := 0) rfl
    have l5 := T3.out.2.2.2.quiet (k := 1) rfl
    clear up
    refine wp_region_quiet_below (by kernel_rfl) (by kernel_rfl) ?_
    repeat (quiet_step (first | with_reducible exact q1 _ _ | with_reducible exact q2 _ _ | with_reducible exact q3 _ _ | with_reducible exact q4 _ _ | with_reducible exact q5 _ _ | with_reducible exact q6 _ _ | with_reducible exact q7 _ _ | with_reducible exact q8 _ _))
    refine wpQuiet_nil ?_
    intro x3 hx3
    have T4 := Lib.hid (below_on T3.out.1 (below_of_regrown hx3))
    clear hx3 q1 q2 q3 q4 q5 q6 q7 q8 l0 l1 l2 l3 l4 l5
    go_wp2
    go_ret
    exact ⟨rfl, T4.out⟩

/-! ### the given statement, out of the walk -/
set_option maxRecDepth 100000 in
theorem lifted (os : Os) (started : os.Started) (H : Type) (enc : TypeId × Value → H) :
    ReturnsInHanded {} Tryd.checked os 5 .any (fun w args => (Rows.signVerifiesMadeSpec.pre enc Tryd.prog Tryd.f5 Rows.signVerifiesMadeRow.domain false w args ∧ laidMetH Tryd.prog laidL w) ∧ sizedMet enc Tryd.prog Tryd.f5 (OpenSpec.ofChange Rows.signVerifiesMadeSpec) false w args)
      (Rows.signVerifiesMadeSpec.post enc Tryd.prog Tryd.f5 false true false false) := by
  refine returnsInHanded_of_change_and (C := Tryd.checked) (X := fun w _ => laidMetH Tryd.prog laidL w) (fun _ _ _ hh h => h.of_heap hh) own started (by kernel_rfl) Tryd.func5
    (ChangeSpec.witness_shaped (enc := enc) (C := Tryd.checked) (os := os) (X := fun w _ => laidMetH Tryd.prog laidL w) false (World.laidAll Tryd.prog os laidL) #[.agg #[.int .i64 0, .int .i64 0], .slice none 0 0, .slice none 0 0] 8 (World.laidAll_os _ _ _)
      (World.shaped_of_ZipB (by kernel_rfl) (by kernel_rfl)) (by kernel_rfl) (by kernel_rfl) (by kernel_rfl)
      (by rw [MakeChecks.laidMetH_plain _ _ _ (by kernel_rfl)]; exact laidMet_laidAll _ (by kernel_rfl) (by kernel_rfl))) ?_
  intro W base args ds gs before hval0 hW hcnd hsz0 hL _
  have hsz : (DataW.weightsEach Tryd.prog (Tryd.f5.params.toList ++ Rows.signVerifiesMadeSpec.plain.varTypes Tryd.prog) (ds ++ gs)).all (· ≤ reachBytes) = true := hsz0
  have hval : ∀ (j : Nat) t v, Tryd.f5.params[j]? = some t → args[j]? = some v → Value.okWide Tryd.prog W .any base t v := hval0
  have hW' := hW
  obtain ⟨p, q, hA0, hV, rfl, hfz, hnd⟩ := hW
  have hA : DataW.TrodAll enc Tryd.prog W 0 (fun _ => true) true Tryd.f5.params.toList args.toList ds p := hA0
  rw [Tryd.params5] at hA hval hsz
  obtain ⟨v0, vs0, d0, ds0, p0, q0, hargs, rfl, rfl, h0, r0⟩ := trodAll_cons hA
  obtain ⟨v1, vs1, d1, ds1, p1, q1, rfl, rfl, rfl, h1, r1⟩ := trodAll_cons r0
  obtain ⟨v2, vs2, d2, ds2, p2, q2, rfl, rfl, rfl, h2, r2⟩ := trodAll_cons r1
  obtain ⟨rfl, rfl, rfl⟩ := trodAll_nil r2
  obtain rfl : args = #[v0, v1, v2] := by cases args; simp_all
  obtain ⟨rfl, rfl⟩ := trodVars_none hV
  obtain ⟨n0a, n0b, rfl, rfl, rfl, w0a, w0b⟩ := open_arr2 Tryd.underlying32 Tryd.underlying3 (by kernel_rfl) (by kernel_rfl) (hval 0 32 v0 rfl rfl) h0
  obtain ⟨a1, len1, cap1, rfl⟩ := okWide_slice Tryd.underlying22 (hval 1 22 v1 rfl rfl)
  have lt1 : ∀ x ∈ p1, x.block < W.heap.size := by obtain ⟨m, hm⟩ := h1; exact DataW.trod_lt m _ _ _ hm
  obtain ⟨x1, rfl, see1, hl1, nn1, hc1⟩ := open_u8s h1 lt1
  have m1 := reach_u8s hsz (j := 1) rfl rfl hl1 hc1
  obtain ⟨a2, len2, cap2, rfl⟩ := okWide_slice Tryd.underlying22 (hval 2 22 v2 rfl rfl)
  have lt2 : ∀ x ∈ p2, x.block < W.heap.size := by obtain ⟨m, hm⟩ := h2; exact DataW.trod_lt m _ _ _ hm
  obtain ⟨x2, rfl, see2, hl2, nn2, hc2⟩ := open_u8s h2 lt2
  have m2 := reach_u8s hsz (j := 2) rfl rfl hl2 hc2
  clear hA0 hval0
  refine (walk n0a n0b a1 cap1 x1 a2 cap2 x2 W (of_laid hL) w0a w0b see1 m1 nn1 see2 m2 nn2).mono fun e W' ⟨he, bel⟩ => ?_
  subst he
  exact ⟨_, rfl, _, _, _, [], _, [], hW', trodAll_mk1 (shut_bool Tryd.underlying4 _), (trodAll_cons_mk (shut_arr2 Tryd.underlying32 Tryd.underlying3 (by kernel_rfl) (by kernel_rfl) w0a w0b) (trodAll_cons_mk (Below.trod laidOut (by kernel_rfl) (of_decide_eq_true (by kernel_rfl)) h1 bel lt1) (trodAll_cons_mk (Below.trod laidOut (by kernel_rfl) (of_decide_eq_true (by kernel_rfl)) h2 bel lt2) trodAll_mk0))), rfl, bel.frame _, fun h => by cases h⟩

theorem said : Rows.SignVerifiesMadeSaid :=
  OpenClaim.holds_of_wide 5 Tryd.f5 rfl rfl rfl rfl rfl rfl rfl ⟨rfl, rfl, rfl, rfl, rfl⟩ rfl rfl rfl rfl rfl (by kernel_rfl) Tryd.func5 (by kernel_rfl)
    (of_decide_eq_true (by kernel_rfl)) (by unfold Func.isWrapper; first | (rw [if_pos (by decide +kernel)]; kernel_rfl) | (rw [if_neg (by decide +kernel)]; exact ⟨rfl, rfl⟩))
    (fun os started H enc _ => lifted os started H enc)
theorem proved : Rows.SignVerifiesMadeCardSaid :=
  Claim7.holds_tied_plain_at .later [] laidKinds true Rows.signVerifiesMadeCard.stood.harness false
    said (fun _ h => by cases h) (by kernel_rfl) (fun _ h => by cases h) signVerifiesMade_row_tie rfl ⟨rfl, rfl⟩ (by kernel_rfl) rfl
    (fun f fn hf hfn => by
      obtain rfl : f = 5 := Option.some.inj ((show Tryd.prog.funcNamed "traveldoc/traveldoclaw09.SignVerifiesMade" = some 5 by kernel_rfl).symm.trans hf) |>.symm
      obtain rfl : fn = Tryd.f5 := (Option.some.inj (Tryd.func5.symm.trans hfn)).symm
      exact ⟨by kernel_rfl, fun j t ht => by
        rw [Tryd.params5] at ht
        have hm : t ∈ [32, 22, 22] := by simpa using Array.mem_of_getElem? ht
        have hall : ([32, 22, 22].all fun u => !Tryd.prog.wantsStandIn u) = true := by kernel_rfl
        exact (show Tryd.prog.wantsStandIn t = false by simpa using List.all_eq_true.1 hall t hm)⟩)
    (by kernel_rfl)
end Go.Proofs.YtaikoeoabgkglaaDoor.signVerifiesMade
