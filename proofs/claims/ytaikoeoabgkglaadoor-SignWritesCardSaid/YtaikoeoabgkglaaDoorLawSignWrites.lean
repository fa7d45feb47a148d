/-
  What is proved here: for all numbers and all bytes, the program's Encode and Decode return what the reference's return, and a signature is read as it was written (the statement SignWrites), where the tables start as the program's text lays them; no other condition.
-/
import Derived.Test.YtaikoeoabgkglaaDoorOp4
import Derived.Test.YtaikoeoabgkglaaDoorOa
import Derived.Test.YtaikoeoabgkglaaDoorSw
import Derived.Test.YtaikoeoabgkglaaDoorSd
import Derived.Test.YtaikoeoabgkglaaDoorRsa
namespace Go.Proofs.YtaikoeoabgkglaaDoor.signWrites
open Go.ChangeShapes Go.WideShapes Go.ChangeAt Go.RowKit
open Go.ChangeMaps (open_string shut_string)
set_option linter.unusedVariables false

theorem ec_len (e s : Int) : (ecX e s).length = ecN e s := by
  unfold ecX ecN
  split
  · exact four2_len _ _
  · rfl
theorem ecN_lim (e s : Int) : ecN e s ≤ 140737488351300 := by unfold ecN; split <;> decide
/-- what was written is read again -/
theorem dc_made {e s : Int} (h : enB e s = true) : dcE (four e.toNat ++ four s.toNat) = e ∧ dcS (four e.toNat ++ four s.toNat) = s ∧ dcC (four e.toNat ++ four s.toNat) = 0 := by
  have h2 := h
  rw [enB, Bool.and_eq_true] at h2
  obtain ⟨e1, e2⟩ := smB_yes h2.1
  obtain ⟨s1, s2⟩ := smB_yes h2.2
  have ha : dA (four e.toNat ++ four s.toNat) = e := by
    unfold dA
    rw [List.take_left' (four_len _), four, numL_oct4 (by omega)]
    omega
  have hb : dB (four e.toNat ++ four s.toNat) = s := by
    unfold dB
    rw [List.drop_left' (four_len _), four, numL_oct4 (by omega)]
    omega
  have hd := dc_yes (x := four e.toNat ++ four s.toNat) (four2_len _ _) (by rw [ha, hb]; exact h)
  rwa [ha, hb] at hd
set_option maxRecDepth 40000 in
set_option maxHeartbeats 4000000 in
theorem walk (e s : Int) (A : Option Addr) (c : Nat) (x : List UInt8) (k : Int) (w : World) (ht : TabA w) (we : (Lit.int .i64 e).wf = true) (ws : (Lit.int .i64 s).wf = true) (hs : Sees w w.heap.size A (Us x)) (m : x.length ≤ 140737488351232) (hn : A = none → c = 0) (hl : x.length ≤ c) (wk : (Lit.int .i64 k).wf = true) :
    Calls Tryd.prog 6 #[.agg #[.int .i64 e, .int .i64 s], .slice A x.length c, .int .i64 k] w fun e w' => e = .returned (.bool true) ∧ Below w.heap.size w w' := by
  obtain ⟨N, hN⟩ : ∃ N, x.length = N := ⟨_, rfl⟩
  rw [hN] at m hl ⊢
  have hx : InB w A N c x := ⟨hN, by omega, hn, SeesP.iff_sees.2 hs⟩
  have HB := Lib.hid (below_al w (.cells #[.int .i64 e, .int .i64 s] 24))
  have na := fun w => ref_near k w
  have hb1 := near_bd k
  generalize nearZ k = n at *
  have sn : secB n = true := secB_mk hb1.1 (by omega)
  have f1 := fun (w : World) => sg_encode e s w
  have f2 := fun (w : World) => ref_encode9 e s w
  have hxl := ec_len e s
  have hxm := ecN_lim e s
  generalize ecX e s = X at *
  generalize ecN e s = K at *
  generalize ecC e s = E at *
  have f3 := fun (w : World) (hx : InB w A N c x) => sg_decode (x := x) (A := A) (n := N) (c := c) (w := w) hx hl
  have f4 := fun (w : World) (hx : InB w A N c x) => ref_decode9 (x := x) (A := A) (n := N) (c := c) (w := w) hx hl
  generalize dcE x = e1 at *
  generalize dcS x = s1 at *
  generalize dcC x = c1 at *
  have f5 := fun (w : World) (hx : InB w A N c x) (ht : TabA w) => sg_sign (k := n) (x := x) (A := A) (a := N) (c := c) (w := w) hx ht
  rw [(sg_yes sn x).2.2] at f5
  have hsm := sg_small sn x
  generalize sgE n x = e2 at *
  generalize sgS n x = s2 at *
  have hen : enB e2 s2 = true := by unfold enB; rw [hsm.1, hsm.2]; rfl
  have f6 := fun (w : World) => sg_encode e2 s2 w
  rw [(ec_yes hen).1, (ec_yes hen).2.1, (ec_yes hen).2.2] at f6
  have f7 := fun (w : World) (A : Option Addr) (c : Nat) (hx : InB w A 8 c (four e2.toNat ++ four s2.toNat)) (hc : 8 ≤ c) => sg_decode (x := four e2.toNat ++ four s2.toNat) (A := A) (n := 8) (c := c) (w := w) hx hc
  rw [(dc_made hen).1, (dc_made hen).2.1, (dc_made hen).2.2] at f7
  generalize four e2.toNat ++ four s2.toNat = Y at *
  have H := Lib.hid (show _ ∧ _ ∧ _ ∧ _ ∧ _ from ⟨hx, ht, na, hxl, hxm⟩)
  have HS := Lib.hid (show _ ∧ _ ∧ _ ∧ _ ∧ _ ∧ _ ∧ _ from ⟨f1, f2, f3, f4, f5, f6, f7⟩)
  have HR3 := Lib.hid (row_al2 w e s 24)
  clear ht wk hs hn hx we ws na hb1 sn f1 f2 f3 f4 f5 f6 f7 hxl hxm hsm hen hN hl
  go_enter Tryd.func6, Tryd.ntmps6
  go_wp2_with (first
    | (go_at_call 10; ((with_reducible refine (H.out.2.2.1 _).mono ?_); rintro en w' ⟨rfl, rfl⟩))
    | ((with_reducible refine at_load_ (d := 27) ?_); refine wpList_load_v (op := ⟨some 27, _, _, _, _, _⟩) rfl 24 (.tmp 3) rfl w.heap.size rfl [.int .i64 e, .int .i64 s] _ HR3.out Tryd.underlying24 rfl size_sg ?_)
    | (go_at_call 16; ((with_reducible refine (HS.out.1 _).mono ?_); rintro en v1 ⟨A1, c1, rfl, i1, l1, hb⟩); replace HR3 := Lib.hid (HR3.out.on hb); replace HB := Lib.hid (below_on HB.out hb); have H1 := Lib.hid i1; clear i1 l1; clear hb)
    | (go_at_call 17; ((with_reducible refine (HS.out.2.1 _).mono ?_); rintro en v2 ⟨A2, c2, rfl, i2, l2, hb⟩); replace HR3 := Lib.hid (HR3.out.on hb); replace H1 := Lib.hid (H1.out.on hb); replace HB := Lib.hid (below_on HB.out hb); have H2 := Lib.hid i2; clear i2 l2; clear hb)
    | (go_at_call 18; ((with_reducible refine (HS.out.2.2.1 _ (H.out.1.on HB.out)).mono ?_); rintro en v3 ⟨rfl, hb⟩); replace HR3 := Lib.hid (HR3.out.on hb); replace H1 := Lib.hid (H1.out.on hb); replace H2 := Lib.hid (H2.out.on hb); replace HB := Lib.hid (below_on HB.out hb); clear hb)
    | ((with_reducible refine at_alloc_ (d := 11) ?_); refine wpList_alloc_v (op := ⟨some 11, _, _, _, _, _⟩) rfl 24 rfl [.int .i64 0, .int .i64 0] info_sg ?_; intro g11 a4 hf hr; have HF11 := Lib.hid (And.intro hf hr); clear hf hr)
    | ((with_reducible refine at_store_ (i := 11) ?_); refine wpList_store_v rfl 24 (.tmp 11) (.tmp 34) rfl g11 [.int .i64 0, .int .i64 0] [.int .i64 e1, .int .i64 s1] rfl rfl HF11.out.2 rfl (one2 _ _) size_sg ?_; intro v5 hw hr; have hb := HF11.out.1.wr_bl hw; replace HR3 := Lib.hid (HR3.out.on hb); replace H1 := Lib.hid (H1.out.on hb); replace H2 := Lib.hid (H2.out.on hb); replace HB := Lib.hid (below_on HB.out hb); have HR11 := Lib.hid hr; clear hw hr hb HF11)
    | (go_at_call 19; ((with_reducible refine (HS.out.2.2.2.1 _ (H.out.1.on HB.out)).mono ?_); rintro en v6 ⟨rfl, hb⟩); replace HR3 := Lib.hid (HR3.out.on hb); replace HR11 := Lib.hid (HR11.out.on hb); replace H1 := Lib.hid (H1.out.on hb); replace H2 := Lib.hid (H2.out.on hb); replace HB := Lib.hid (below_on HB.out hb); clear hb)
    | ((with_reducible refine at_alloc_ (d := 13) ?_); refine wpList_alloc_v (op := ⟨some 13, _, _, _, _, _⟩) rfl 24 rfl [.int .i64 0, .int .i64 0] info_sg ?_; intro g13 a7 hf hr; have HF13 := Lib.hid (And.intro hf hr); clear hf hr)
    | ((with_reducible refine at_store_ (i := 13) ?_); refine wpList_store_v rfl 24 (.tmp 13) (.tmp 39) rfl g13 [.int .i64 0, .int .i64 0] [.int .i64 e1, .int .i64 s1] rfl rfl HF13.out.2 rfl (one2 _ _) size_sg ?_; intro v8 hw hr; have hb := HF13.out.1.wr_bl hw; replace HR3 := Lib.hid (HR3.out.on hb); replace HR11 := Lib.hid (HR11.out.on hb); replace H1 := Lib.hid (H1.out.on hb); replace H2 := Lib.hid (H2.out.on hb); replace HB := Lib.hid (below_on HB.out hb); have HR13 := Lib.hid hr; clear hw hr hb HF13)
    | (go_at_call 8; ((with_reducible refine (HS.out.2.2.2.2.1 _ (H.out.1.on HB.out) (H.out.2.1.below HB.out)).mono ?_); rintro en v9 ⟨rfl, hb⟩); replace HR3 := Lib.hid (HR3.out.on hb); replace HR11 := Lib.hid (HR11.out.on hb); replace HR13 := Lib.hid (HR13.out.on hb); replace H1 := Lib.hid (H1.out.on hb); replace H2 := Lib.hid (H2.out.on hb); replace HB := Lib.hid (below_on HB.out hb); clear hb)
    | ((with_reducible refine at_alloc_ (d := 15) ?_); refine wpList_alloc_v (op := ⟨some 15, _, _, _, _, _⟩) rfl 24 rfl [.int .i64 0, .int .i64 0] info_sg ?_; intro g15 a10 hf hr; have HF15 := Lib.hid (And.intro hf hr); clear hf hr)
    | ((with_reducible refine at_store_ (i := 15) ?_); refine wpList_store_v rfl 24 (.tmp 15) (.tmp 46) rfl g15 [.int .i64 0, .int .i64 0] [.int .i64 e2, .int .i64 s2] rfl rfl HF15.out.2 rfl (one2 _ _) size_sg ?_; intro v11 hw hr; have hb := HF15.out.1.wr_bl hw; replace HR3 := Lib.hid (HR3.out.on hb); replace HR11 := Lib.hid (HR11.out.on hb); replace HR13 := Lib.hid (HR13.out.on hb); replace H1 := Lib.hid (H1.out.on hb); replace H2 := Lib.hid (H2.out.on hb); replace HB := Lib.hid (below_on HB.out hb); have HR15 := Lib.hid hr; clear hw hr hb HF15)
    | ((with_reducible refine at_load_ (d := 49) ?_); refine wpList_load_v (op := ⟨some 49, _, _, _, _, _⟩) rfl 24 (.tmp 15) rfl g15 rfl [.int .i64 e2, .int .i64 s2] _ HR15.out Tryd.underlying24 rfl size_sg ?_)
    | (go_at_call 16; ((with_reducible refine (HS.out.2.2.2.2.2.1 _).mono ?_); rintro en v12 ⟨A3, c3, rfl, i3, l3, hb⟩); replace HR3 := Lib.hid (HR3.out.on hb); replace HR11 := Lib.hid (HR11.out.on hb); replace HR13 := Lib.hid (HR13.out.on hb); replace HR15 := Lib.hid (HR15.out.on hb); replace H1 := Lib.hid (H1.out.on hb); replace H2 := Lib.hid (H2.out.on hb); replace HB := Lib.hid (below_on HB.out hb); have H3 := Lib.hid (And.intro i3 l3); clear i3 l3; clear hb)
    | (go_at_call 18; ((with_reducible refine (HS.out.2.2.2.2.2.2 _ A3 c3 H3.out.1 H3.out.2).mono ?_); rintro en v13 ⟨rfl, hb⟩); replace HR3 := Lib.hid (HR3.out.on hb); replace HR11 := Lib.hid (HR11.out.on hb); replace HR13 := Lib.hid (HR13.out.on hb); replace HR15 := Lib.hid (HR15.out.on hb); replace H1 := Lib.hid (H1.out.on hb); replace H2 := Lib.hid (H2.out.on hb); replace HB := Lib.hid (below_on HB.out hb); clear hb)
    | ((with_reducible refine at_alloc_ (d := 19) ?_); refine wpList_alloc_v (op := ⟨some 19, _, _, _, _, _⟩) rfl 24 rfl [.int .i64 0, .int .i64 0] info_sg ?_; intro g19 a14 hf hr; have HF19 := Lib.hid (And.intro hf hr); clear hf hr)
    | ((with_reducible refine at_store_ (i := 19) ?_); refine wpList_store_v rfl 24 (.tmp 19) (.tmp 56) rfl g19 [.int .i64 0, .int .i64 0] [.int .i64 e2, .int .i64 s2] rfl rfl HF19.out.2 rfl (one2 _ _) size_sg ?_; intro v15 hw hr; have hb := HF19.out.1.wr_bl hw; replace HR3 := Lib.hid (HR3.out.on hb); replace HR11 := Lib.hid (HR11.out.on hb); replace HR13 := Lib.hid (HR13.out.on hb); replace HR15 := Lib.hid (HR15.out.on hb); replace H1 := Lib.hid (H1.out.on hb); replace H2 := Lib.hid (H2.out.on hb); replace HB := Lib.hid (below_on HB.out hb); have HR19 := Lib.hid hr; clear hw hr hb HF19)
    | (go_at_call 11; ((with_reducible refine (awake _ (H.out.2.1.below HB.out)).mono ?_); rintro en v16 ⟨rfl, hb⟩); replace HR3 := Lib.hid (HR3.out.on hb); replace HR11 := Lib.hid (HR11.out.on hb); replace HR13 := Lib.hid (HR13.out.on hb); replace HR15 := Lib.hid (HR15.out.on hb); replace HR19 := Lib.hid (HR19.out.on hb); replace H1 := Lib.hid (H1.out.on hb); replace H2 := Lib.hid (H2.out.on hb); replace HB := Lib.hid (below_on HB.out hb); clear hb)
    | (go_at_call 20; ((with_reducible refine (same_i H1.out H2.out).mono ?_); rintro en v17 ⟨rfl, hb⟩); replace HR3 := Lib.hid (HR3.out.on hb); replace HR11 := Lib.hid (HR11.out.on hb); replace HR13 := Lib.hid (HR13.out.on hb); replace HR15 := Lib.hid (HR15.out.on hb); replace HR19 := Lib.hid (HR19.out.on hb); replace H1 := Lib.hid (H1.out.on hb); replace H2 := Lib.hid (H2.out.on hb); replace HB := Lib.hid (below_on HB.out hb); have xHR30 : v17.cell? ⟨w.heap.size, 0, none⟩ = some (.int .i64 e) := HR3.out.cell 0; have xHR31 : v17.cell? ⟨w.heap.size, 1, none⟩ = some (.int .i64 s) := HR3.out.cell 1; have xHR110 : v17.cell? ⟨g11, 0, none⟩ = some (.int .i64 e1) := HR11.out.cell 0; have xHR111 : v17.cell? ⟨g11, 1, none⟩ = some (.int .i64 s1) := HR11.out.cell 1; have xHR130 : v17.cell? ⟨g13, 0, none⟩ = some (.int .i64 e1) := HR13.out.cell 0; have xHR131 : v17.cell? ⟨g13, 1, none⟩ = some (.int .i64 s1) := HR13.out.cell 1; have xHR150 : v17.cell? ⟨g15, 0, none⟩ = some (.int .i64 e2) := HR15.out.cell 0; have xHR151 : v17.cell? ⟨g15, 1, none⟩ = some (.int .i64 s2) := HR15.out.cell 1; have xHR190 : v17.cell? ⟨g19, 0, none⟩ = some (.int .i64 e2) := HR19.out.cell 0; have xHR191 : v17.cell? ⟨g19, 1, none⟩ = some (.int .i64 s2) := HR19.out.cell 1; clear hb))
  go_ret
  exact ⟨rfl, HB.out⟩

/-! ### the given statement, out of the walk -/
set_option maxRecDepth 100000 in
theorem lifted (os : Os) (started : os.Started) (H : Type) (enc : TypeId × Value → H) :
    ReturnsInHanded {} Tryd.checked os 6 .any (fun w args => (Rows.signWritesSpec.pre enc Tryd.prog Tryd.f6 Rows.signWritesRow.domain false w args ∧ laidMetH Tryd.prog laidL w) ∧ sizedMet enc Tryd.prog Tryd.f6 (OpenSpec.ofChange Rows.signWritesSpec) false w args)
      (Rows.signWritesSpec.post enc Tryd.prog Tryd.f6 false true false false) := by
  refine returnsInHanded_of_change_and (C := Tryd.checked) (X := fun w _ => laidMetH Tryd.prog laidL w) (fun _ _ _ hh h => h.of_heap hh) own started (by kernel_rfl) Tryd.func6
    (ChangeSpec.witness_shaped (enc := enc) (C := Tryd.checked) (os := os) (X := fun w _ => laidMetH Tryd.prog laidL w) false (World.laidAll Tryd.prog os laidL) #[.agg #[.int .i64 0, .int .i64 0], .slice none 0 0, .int .i64 0] 8 (World.laidAll_os _ _ _)
      (World.shaped_of_ZipB (by kernel_rfl) (by kernel_rfl)) (by kernel_rfl) (by kernel_rfl) (by kernel_rfl)
      (by rw [MakeChecks.laidMetH_plain _ _ _ (by kernel_rfl)]; exact laidMet_laidAll _ (by kernel_rfl) (by kernel_rfl))) ?_
  intro W base args ds gs before hval0 hW hcnd hsz0 hL _
  have hsz : (DataW.weightsEach Tryd.prog (Tryd.f6.params.toList ++ Rows.signWritesSpec.plain.varTypes Tryd.prog) (ds ++ gs)).all (· ≤ reachBytes) = true := hsz0
  have hval : ∀ (j : Nat) t v, Tryd.f6.params[j]? = some t → args[j]? = some v → Value.okWide Tryd.prog W .any base t v := hval0
  have hW' := hW
  obtain ⟨p, q, hA0, hV, rfl, hfz, hnd⟩ := hW
  have hA : DataW.TrodAll enc Tryd.prog W 0 (fun _ => true) true Tryd.f6.params.toList args.toList ds p := hA0
  rw [Tryd.params6] at hA hval hsz
  obtain ⟨v0, vs0, d0, ds0, p0, q0, hargs, rfl, rfl, h0, r0⟩ := trodAll_cons hA
  obtain ⟨v1, vs1, d1, ds1, p1, q1, rfl, rfl, rfl, h1, r1⟩ := trodAll_cons r0
  obtain ⟨v2, vs2, d2, ds2, p2, q2, rfl, rfl, rfl, h2, r2⟩ := trodAll_cons r1
  obtain ⟨rfl, rfl, rfl⟩ := trodAll_nil r2
  obtain rfl : args = #[v0, v1, v2] := by cases args; simp_all
  obtain ⟨rfl, rfl⟩ := trodVars_none hV
  obtain ⟨n0a, n0b, rfl, rfl, rfl, w0a, w0b⟩ := open_st2 Tryd.underlying24 (by kernel_rfl) (by kernel_rfl) Tryd.underlying3 Tryd.underlying3 (hval 0 24 v0 rfl rfl) h0
  obtain ⟨a1, len1, cap1, rfl⟩ := okWide_slice Tryd.underlying22 (hval 1 22 v1 rfl rfl)
  have lt1 : ∀ x ∈ p1, x.block < W.heap.size := by obtain ⟨m, hm⟩ := h1; exact DataW.trod_lt m _ _ _ hm
  obtain ⟨x1, rfl, see1, hl1, nn1, hc1⟩ := open_u8s h1 lt1
  have m1 := reach_u8s hsz (j := 1) rfl rfl hl1 hc1
  obtain ⟨n2, rfl, rfl, rfl, w2⟩ := open_int Tryd.underlying3 (hval 2 3 v2 rfl rfl) h2
  clear hA0 hval0
  refine (walk n0a n0b a1 cap1 x1 n2 W (of_laid hL) w0a w0b see1 m1 nn1 hl1 w2).mono fun e W' ⟨he, bel⟩ => ?_
  subst he
  exact ⟨_, rfl, _, _, _, [], _, [], hW', trodAll_mk1 (shut_bool Tryd.underlying4 _), (trodAll_cons_mk (shut_st2 Tryd.underlying24 (by kernel_rfl) (by kernel_rfl) Tryd.underlying3 Tryd.underlying3 w0a w0b) (trodAll_cons_mk (Below.trod laidOut (by kernel_rfl) (of_decide_eq_true (by kernel_rfl)) h1 bel lt1) (trodAll_cons_mk (shut_int Tryd.underlying3 w2) trodAll_mk0))), rfl, bel.frame _, fun h => by cases h⟩

theorem said : Rows.SignWritesSaid :=
  OpenClaim.holds_of_wide 6 Tryd.f6 rfl rfl rfl rfl rfl rfl rfl ⟨rfl, rfl, rfl, rfl, rfl⟩ rfl rfl rfl rfl rfl (by kernel_rfl) Tryd.func6 (by kernel_rfl)
    (of_decide_eq_true (by kernel_rfl)) (by unfold Func.isWrapper; first | (rw [if_pos (by decide +kernel)]; kernel_rfl) | (rw [if_neg (by decide +kernel)]; exact ⟨rfl, rfl⟩))
    (fun os started H enc _ => lifted os started H enc)
theorem proved : Rows.SignWritesCardSaid :=
  Claim7.holds_tied_plain_at .later [] laidKinds true Rows.signWritesCard.stood.harness false
    said (fun _ h => by cases h) (by kernel_rfl) (fun _ h => by cases h) signWrites_row_tie rfl ⟨rfl, rfl⟩ (by kernel_rfl) rfl
    (fun f fn hf hfn => by
      obtain rfl : f = 6 := Option.some.inj ((show Tryd.prog.funcNamed "traveldoc/traveldoclaw09.SignWrites" = some 6 by kernel_rfl).symm.trans hf) |>.symm
      obtain rfl : fn = Tryd.f6 := (Option.some.inj (Tryd.func6.symm.trans hfn)).symm
      exact ⟨by kernel_rfl, fun j t ht => by
        rw [Tryd.params6] at ht
        have hm : t ∈ [24, 22, 3] := by simpa using Array.mem_of_getElem? ht
        have hall : ([24, 22, 3].all fun u => !Tryd.prog.wantsStandIn u) = true := by kernel_rfl
        exact (show Tryd.prog.wantsStandIn t = false by simpa using List.all_eq_true.1 hall t hm)⟩)
    (by kernel_rfl)
end Go.Proofs.YtaikoeoabgkglaaDoor.signWrites
