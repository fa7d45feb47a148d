/-
  What is proved here: for every number and all bytes, the program's Sign returns what the reference's returns, and signs with a secret that is made of the number (the statement SignSigns), where the tables start as the program's text lays them; no other condition.
-/
import Derived.Test.YtaikoeoabgkglaaDoorOp4
import Derived.Test.YtaikoeoabgkglaaDoorOa
import Derived.Test.YtaikoeoabgkglaaDoorSw
namespace Go.Proofs.YtaikoeoabgkglaaDoor.signSigns
open Go.ChangeShapes Go.WideShapes Go.ChangeAt Go.RowKit
open Go.ChangeMaps (open_string shut_string)
set_option linter.unusedVariables false

abbrev laidL := laidL3
abbrev laidKinds := laidKinds3
theorem of_laid {W : World} (h : laidMetH Tryd.prog laidL W) : TabA W ∧ TabR W := of_laid3 h
set_option maxRecDepth 40000 in
set_option maxHeartbeats 2000000 in
theorem walk (k : Int) (A : Option Addr) (c : Nat) (x : List UInt8) (w : World) (ht : TabA w ∧ TabR w) (wk : (Lit.int .i64 k).wf = true) (hs : Sees w w.heap.size A (Us x)) (m : x.length ≤ 140737488351232) (hn : A = none → c = 0) :
    Calls Tryd.prog 3 #[.int .i64 k, .slice A x.length c] w fun e w' => e = .returned (.bool true) ∧ Below w.heap.size w w' := by
  obtain ⟨N, hN⟩ : ∃ N, x.length = N := ⟨_, rfl⟩
  rw [hN] at m ⊢
  have hx : InB w A N c x := ⟨hN, by omega, hn, SeesP.iff_sees.2 hs⟩
  have HB := Lib.hid (Below.refl w.heap.size w)
  have na := fun w => ref_near k w
  have hb1 := near_bd k
  generalize nearZ k = n at *
  have sn : secB n = true := secB_mk hb1.1 (by omega)
  have p1 := fun (w : World) (hx : InB w A N c x) (ht : TabA w) => sg_sign (k := k) (x := x) (A := A) (a := N) (c := c) (w := w) hx ht
  have r1 := fun (w : World) (hx : InB w A N c x) (ht : TabR w) => ref_sign (k := k) (x := x) (A := A) (a := N) (c := c) (w := w) hx ht
  have p2 := fun (w : World) (hx : InB w A N c x) (ht : TabA w) => sg_sign (k := n) (x := x) (A := A) (a := N) (c := c) (w := w) hx ht
  have r2 := fun (w : World) (hx : InB w A N c x) (ht : TabR w) => ref_sign (k := n) (x := x) (A := A) (a := N) (c := c) (w := w) hx ht
  rw [(sg_yes sn x).2.2] at p2 r2
  generalize sgE k x = e1 at *
  generalize sgS k x = s1 at *
  generalize sgC k = c1 at *
  generalize sgE n x = e2 at *
  generalize sgS n x = s2 at *
  have H := Lib.hid (show _ ∧ _ ∧ _ ∧ _ from ⟨hx, ht.1, ht.2, na⟩)
  have HS := Lib.hid (show _ ∧ _ ∧ _ ∧ _ from ⟨p1, r1, p2, r2⟩)
  clear ht wk hs hn hx na hb1 sn p1 r1 p2 r2 hN
  go_enter Tryd.func3, Tryd.ntmps3
  go_wp2_with (first
    | (go_at_call 10; ((with_reducible refine (H.out.2.2.2 _).mono ?_); rintro en w' ⟨rfl, rfl⟩))
    | (go_at_call 8; ((with_reducible refine (HS.out.1 _ (H.out.1.on HB.out) (H.out.2.1.below HB.out)).mono ?_); rintro en v1 ⟨rfl, hb⟩); replace HB := Lib.hid (below_on HB.out hb); clear hb)
    | ((with_reducible refine at_alloc_ (d := 5) ?_); refine wpList_alloc_v (op := ⟨some 5, _, _, _, _, _⟩) rfl 24 rfl [.int .i64 0, .int .i64 0] info_sg ?_; intro g5 a2 hf hr; have HF5 := Lib.hid (And.intro hf hr); clear hf hr)
    | ((with_reducible refine at_store_ (i := 5) ?_); refine wpList_store_v rfl 24 (.tmp 5) (.tmp 17) rfl g5 [.int .i64 0, .int .i64 0] [.int .i64 e1, .int .i64 s1] rfl rfl HF5.out.2 rfl (one2 _ _) size_sg ?_; intro v3 hw hr; have hb := HF5.out.1.wr_bl hw; replace HB := Lib.hid (below_on HB.out hb); have HR5 := Lib.hid hr; clear hw hr hb HF5)
    | (go_at_call 9; ((with_reducible refine (HS.out.2.1 _ (H.out.1.on HB.out) (H.out.2.2.1.below HB.out)).mono ?_); rintro en v4 ⟨rfl, hb⟩); replace HR5 := Lib.hid (HR5.out.on hb); replace HB := Lib.hid (below_on HB.out hb); clear hb)
    | ((with_reducible refine at_alloc_ (d := 7) ?_); refine wpList_alloc_v (op := ⟨some 7, _, _, _, _, _⟩) rfl 24 rfl [.int .i64 0, .int .i64 0] info_sg ?_; intro g7 a5 hf hr; have HF7 := Lib.hid (And.intro hf hr); clear hf hr)
    | ((with_reducible refine at_store_ (i := 7) ?_); refine wpList_store_v rfl 24 (.tmp 7) (.tmp 23) rfl g7 [.int .i64 0, .int .i64 0] [.int .i64 e1, .int .i64 s1] rfl rfl HF7.out.2 rfl (one2 _ _) size_sg ?_; intro v6 hw hr; have hb := HF7.out.1.wr_bl hw; replace HR5 := Lib.hid (HR5.out.on hb); replace HB := Lib.hid (below_on HB.out hb); have HR7 := Lib.hid hr; clear hw hr hb HF7)
    | (go_at_call 8; ((with_reducible refine (HS.out.2.2.1 _ (H.out.1.on HB.out) (H.out.2.1.below HB.out)).mono ?_); rintro en v7 ⟨rfl, hb⟩); replace HR5 := Lib.hid (HR5.out.on hb); replace HR7 := Lib.hid (HR7.out.on hb); replace HB := Lib.hid (below_on HB.out hb); clear hb)
    | ((with_reducible refine at_alloc_ (d := 9) ?_); refine wpList_alloc_v (op := ⟨some 9, _, _, _, _, _⟩) rfl 24 rfl [.int .i64 0, .int .i64 0] info_sg ?_; intro g9 a8 hf hr; have HF9 := Lib.hid (And.intro hf hr); clear hf hr)
    | ((with_reducible refine at_store_ (i := 9) ?_); refine wpList_store_v rfl 24 (.tmp 9) (.tmp 30) rfl g9 [.int .i64 0, .int .i64 0] [.int .i64 e2, .int .i64 s2] rfl rfl HF9.out.2 rfl (one2 _ _) size_sg ?_; intro v9 hw hr; have hb := HF9.out.1.wr_bl hw; replace HR5 := Lib.hid (HR5.out.on hb); replace HR7 := Lib.hid (HR7.out.on hb); replace HB := Lib.hid (below_on HB.out hb); have HR9 := Lib.hid hr; clear hw hr hb HF9)
    | (go_at_call 9; ((with_reducible refine (HS.out.2.2.2 _ (H.out.1.on HB.out) (H.out.2.2.1.below HB.out)).mono ?_); rintro en v10 ⟨rfl, hb⟩); replace HR5 := Lib.hid (HR5.out.on hb); replace HR7 := Lib.hid (HR7.out.on hb); replace HR9 := Lib.hid (HR9.out.on hb); replace HB := Lib.hid (below_on HB.out hb); clear hb)
    | ((with_reducible refine at_alloc_ (d := 11) ?_); refine wpList_alloc_v (op := ⟨some 11, _, _, _, _, _⟩) rfl 24 rfl [.int .i64 0, .int .i64 0] info_sg ?_; intro g11 a11 hf hr; have HF11 := Lib.hid (And.intro hf hr); clear hf hr)
    | ((with_reducible refine at_store_ (i := 11) ?_); refine wpList_store_v rfl 24 (.tmp 11) (.tmp 37) rfl g11 [.int .i64 0, .int .i64 0] [.int .i64 e2, .int .i64 s2] rfl rfl HF11.out.2 rfl (one2 _ _) size_sg ?_; intro v12 hw hr; have hb := HF11.out.1.wr_bl hw; replace HR5 := Lib.hid (HR5.out.on hb); replace HR7 := Lib.hid (HR7.out.on hb); replace HR9 := Lib.hid (HR9.out.on hb); replace HB := Lib.hid (below_on HB.out hb); have HR11 := Lib.hid hr; clear hw hr hb HF11)
    | (go_at_call 11; ((with_reducible refine (awake _ (H.out.2.1.below HB.out)).mono ?_); rintro en v13 ⟨rfl, hb⟩); replace HR5 := Lib.hid (HR5.out.on hb); replace HR7 := Lib.hid (HR7.out.on hb); replace HR9 := Lib.hid (HR9.out.on hb); replace HR11 := Lib.hid (HR11.out.on hb); replace HB := Lib.hid (below_on HB.out hb); have xHR50 : v13.cell? ⟨g5, 0, none⟩ = some (.int .i64 e1) := HR5.out.cell 0; have xHR51 : v13.cell? ⟨g5, 1, none⟩ = some (.int .i64 s1) := HR5.out.cell 1; have xHR70 : v13.cell? ⟨g7, 0, none⟩ = some (.int .i64 e1) := HR7.out.cell 0; have xHR71 : v13.cell? ⟨g7, 1, none⟩ = some (.int .i64 s1) := HR7.out.cell 1; have xHR90 : v13.cell? ⟨g9, 0, none⟩ = some (.int .i64 e2) := HR9.out.cell 0; have xHR91 : v13.cell? ⟨g9, 1, none⟩ = some (.int .i64 s2) := HR9.out.cell 1; have xHR110 : v13.cell? ⟨g11, 0, none⟩ = some (.int .i64 e2) := HR11.out.cell 0; have xHR111 : v13.cell? ⟨g11, 1, none⟩ = some (.int .i64 s2) := HR11.out.cell 1; clear hb))
  go_ret
  exact ⟨rfl, HB.out⟩

/-! ### the given statement, out of the walk -/
set_option maxRecDepth 100000 in
theorem lifted (os : Os) (started : os.Started) (H : Type) (enc : TypeId × Value → H) :
    ReturnsInHanded {} Tryd.checked os 3 .any (fun w args => (Rows.signSignsSpec.pre enc Tryd.prog Tryd.f3 Rows.signSignsRow.domain false w args ∧ laidMetH Tryd.prog laidL w) ∧ sizedMet enc Tryd.prog Tryd.f3 (OpenSpec.ofChange Rows.signSignsSpec) false w args)
      (Rows.signSignsSpec.post enc Tryd.prog Tryd.f3 false true false false) := by
  refine returnsInHanded_of_change_and (C := Tryd.checked) (X := fun w _ => laidMetH Tryd.prog laidL w) (fun _ _ _ hh h => h.of_heap hh) own started (by kernel_rfl) Tryd.func3
    (ChangeSpec.witness_shaped (enc := enc) (C := Tryd.checked) (os := os) (X := fun w _ => laidMetH Tryd.prog laidL w) false (World.laidAll Tryd.prog os laidL) #[.int .i64 0, .slice none 0 0] 8 (World.laidAll_os _ _ _)
      (World.shaped_of_ZipB (by kernel_rfl) (by kernel_rfl)) (by kernel_rfl) (by kernel_rfl) (by kernel_rfl)
      (by rw [MakeChecks.laidMetH_plain _ _ _ (by kernel_rfl)]; exact laidMet_laidAll _ (by kernel_rfl) (by kernel_rfl))) ?_
  intro W base args ds gs before hval0 hW hcnd hsz0 hL _
  have hsz : (DataW.weightsEach Tryd.prog (Tryd.f3.params.toList ++ Rows.signSignsSpec.plain.varTypes Tryd.prog) (ds ++ gs)).all (· ≤ reachBytes) = true := hsz0
  have hval : ∀ (j : Nat) t v, Tryd.f3.params[j]? = some t → args[j]? = some v → Value.okWide Tryd.prog W .any base t v := hval0
  have hW' := hW
  obtain ⟨p, q, hA0, hV, rfl, hfz, hnd⟩ := hW
  have hA : DataW.TrodAll enc Tryd.prog W 0 (fun _ => true) true Tryd.f3.params.toList args.toList ds p := hA0
  rw [Tryd.params3] at hA hval hsz
  obtain ⟨v0, vs0, d0, ds0, p0, q0, hargs, rfl, rfl, h0, r0⟩ := trodAll_cons hA
  obtain ⟨v1, vs1, d1, ds1, p1, q1, rfl, rfl, rfl, h1, r1⟩ := trodAll_cons r0
  obtain ⟨rfl, rfl, rfl⟩ := trodAll_nil r1
  obtain rfl : args = #[v0, v1] := by cases args; simp_all
  obtain ⟨rfl, rfl⟩ := trodVars_none hV
  obtain ⟨n0, rfl, rfl, rfl, w0⟩ := open_int Tryd.underlying3 (hval 0 3 v0 rfl rfl) h0
  obtain ⟨a1, len1, cap1, rfl⟩ := okWide_slice Tryd.underlying22 (hval 1 22 v1 rfl rfl)
  have lt1 : ∀ x ∈ p1, x.block < W.heap.size := by obtain ⟨m, hm⟩ := h1; exact DataW.trod_lt m _ _ _ hm
  obtain ⟨x1, rfl, see1, hl1, nn1, hc1⟩ := open_u8s h1 lt1
  have m1 := reach_u8s hsz (j := 1) rfl rfl hl1 hc1
  clear hA0 hval0
  refine (walk n0 a1 cap1 x1 W (of_laid hL) w0 see1 m1 nn1).mono fun e W' ⟨he, bel⟩ => ?_
  subst he
  exact ⟨_, rfl, _, _, _, [], _, [], hW', trodAll_mk1 (shut_bool Tryd.underlying4 _), (trodAll_cons_mk (shut_int Tryd.underlying3 w0) (trodAll_cons_mk (Below.trod laidOut (by kernel_rfl) (of_decide_eq_true (by kernel_rfl)) h1 bel lt1) trodAll_mk0)), rfl, bel.frame _, fun h => by cases h⟩

theorem said : Rows.SignSignsSaid :=
  OpenClaim.holds_of_wide 3 Tryd.f3 rfl rfl rfl rfl rfl rfl rfl ⟨rfl, rfl, rfl, rfl, rfl⟩ rfl rfl rfl rfl rfl (by kernel_rfl) Tryd.func3 (by kernel_rfl)
    (of_decide_eq_true (by kernel_rfl)) (by unfold Func.isWrapper; first | (rw [if_pos (by decide +kernel)]; kernel_rfl) | (rw [if_neg (by decide +kernel)]; exact ⟨rfl, rfl⟩))
    (fun os started H enc _ => lifted os started H enc)
theorem proved : Rows.SignSignsCardSaid :=
  Claim7.holds_tied_plain_at .later [] laidKinds true Rows.signSignsCard.stood.harness false
    said (fun _ h => by cases h) (by kernel_rfl) (fun _ h => by cases h) signSigns_row_tie rfl ⟨rfl, rfl⟩ (by kernel_rfl) rfl
    (fun f fn hf hfn => by
      obtain rfl : f = 3 := Option.some.inj ((show Tryd.prog.funcNamed "traveldoc/traveldoclaw09.SignSigns" = some 3 by kernel_rfl).symm.trans hf) |>.symm
      obtain rfl : fn = Tryd.f3 := (Option.some.inj (Tryd.func3.symm.trans hfn)).symm
      exact ⟨by kernel_rfl, fun j t ht => by
        rw [Tryd.params3] at ht
        have hm : t ∈ [3, 22] := by simpa using Array.mem_of_getElem? ht
        have hall : ([3, 22].all fun u => !Tryd.prog.wantsStandIn u) = true := by kernel_rfl
        exact (show Tryd.prog.wantsStandIn t = false by simpa using List.all_eq_true.1 hall t hm)⟩)
    (by kernel_rfl)
end Go.Proofs.YtaikoeoabgkglaaDoor.signSigns
