/-
  What is proved here: for all texts of bulk at most 1048576 (the second form's bound), the program's Transliterate returns what the reference's returns; that is a name, which stays as it is (the statement OpticalTransliterates, second form), where the tables start as the texts lay them; no other condition.
-/
import Derived.Test.YtfkcnbcifidlgaaDoorOun
import Derived.Test.YtfkcnbcifidlgaaDoorHs
import Derived.Deep.DeepHandedRow
import Derived.Lib.LaidU8T
namespace Go.Proofs.YtfkcnbcifidlgaaDoor.opticalTransliterates
open Go.ChangeShapes Go.WideShapes Go.ChangeAt Go.RowKit
open Go.ChangeMaps (open_string shut_string)
set_option linter.unusedVariables false

theorem tr_len : ∀ (R : List Nat) (g : Bool) (t y : List UInt8), trL R g t = some y → y.length ≤ t.length + 3 * R.length
  | [], _, t, y, e => by
    have : t = y := Option.some.inj e
    rw [← this]; simp
  | c :: R, g, t, y, e => by
    rw [List.length_cons]
    by_cases h1 : c = 39 ∨ c = 44 ∨ c = 46
    · rw [tr1_mark h1] at e; have := tr_len R g t y e; omega
    · by_cases h2 : c = 32 ∨ c = 45
      · rw [tr1_gap h2] at e; have := tr_len R true t y e; omega
      · rcases hl : letP c with _ | x
        · rw [tr1_bad h1 h2 hl] at e; cases e
        · rw [tr1_good h1 h2 hl] at e
          obtain ⟨_, x2, _⟩ := letP_some hl
          have := tr_len R false _ y e
          rw [List.length_append, List.length_append] at this
          have h3 : (if g = true ∧ t ≠ [] then [32] else ([] : List UInt8)).length ≤ 1 := by split <;> simp
          omega
theorem nm_nil : Nm [] := fun k hk => by simp at hk
abbrev UT (w : World) : Prop := Lib.Utf8Tabs 1 2 w
theorem ut_below {w w' : World} (h : UT w) (hb : Below w.heap.size w w') : UT w' :=
  ⟨fun c hc => cell_bl (h.1 c hc) hb, fun i hi => ⟨cell_bl (h.2 i hi).1 hb, cell_bl (h.2 i hi).2 hb⟩⟩

/-- what both return, and what the program returns for that -/
theorem both (s : ByteArray) (hs : s.size ≤ 1048576) (w : World) (hP : TabL 3 rowsP w) (hR : TabL 4 rowsR w) (hU : UT w) :
    ∃ (y : List UInt8) (ec : Int), Nm y ∧ (S y).size ≤ 16777216 ∧
      (∀ W, Below w.heap.size w W → Calls Tryd.prog 16 #[.string s] W fun e w' => e = .returned (.tuple #[.string (S y), .int .i64 ec]) ∧ Below W.heap.size W w') ∧
      (∀ W, Below w.heap.size w W → Calls Tryd.prog 17 #[.string s] W fun e w' => e = .returned (.tuple #[.string (S y), .int .i64 ec]) ∧ Below W.heap.size W w') ∧
      (∀ W, Below w.heap.size w W → Calls Tryd.prog 16 #[.string (S y)] W fun e w' => e = .returned (.tuple #[.string (S y), .int .i64 0]) ∧ Below W.heap.size W w') := by
  have again : ∀ y : List UInt8, Nm y → (S y).size ≤ 16777216 → ∀ W, Below w.heap.size w W → Calls Tryd.prog 16 #[.string (S y)] W fun e w' => e = .returned (.tuple #[.string (S y), .int .i64 0]) ∧ Below W.heap.size W w' := by
    intro y hy hsz W hb
    obtain ⟨h1, h2⟩ := name_stays y hy
    have := p_tr_good (S y) hsz h1 W (hP.below (by decide) hb) (ut_below hU hb)
    rw [h2] at this
    exact this
  rcases valid_iff s with ⟨h1, h2⟩ | ⟨h1, h2⟩
  · have hg1 := fun W (hb : Below w.heap.size w W) => p_tr_good s (by omega) h1 W (hP.below (by decide) hb) (ut_below hU hb)
    have hg2 := fun W (hb : Below w.heap.size w W) => r_tr_good s (by omega) h2 W (hR.below (by decide) hb)
    rcases ht : trL (rl s s.size 0) false [] with _ | y
    · rw [ht] at hg1 hg2
      exact ⟨[], 12, nm_nil, by rw [S_size]; simp, hg1, hg2, again [] nm_nil (by rw [S_size]; simp)⟩
    · rw [ht] at hg1 hg2
      have hl := tr_len _ _ _ _ ht
      have hrl := rl_len s s.size 0
      have hn := tr_name _ _ _ _ nm_nil ht
      have hsz : (S y).size ≤ 16777216 := by rw [S_size]; simp only [List.length_nil] at hl; omega
      exact ⟨y, 0, hn, hsz, hg1, hg2, again y hn hsz⟩
  · exact ⟨[], 1, nm_nil, by rw [S_size]; simp, fun W hb => p_tr_bad s (by omega) h1 W (ut_below hU hb), fun W hb => r_tr_bad s (by omega) h2 W, again [] nm_nil (by rw [S_size]; simp)⟩

set_option maxRecDepth 40000 in
set_option maxHeartbeats 1000000 in
theorem walk (s : ByteArray) (w : World) (hs : s.size ≤ 1048576) (hP : TabL 3 rowsP w) (hR : TabL 4 rowsR w) (hU : UT w) (hW : TabW w) :
    Calls Tryd.prog 4 #[.string s] w fun e w' => e = .returned (.bool true) ∧ Below w.heap.size w w' := by
  obtain ⟨y, ec, hn, hsz, f1, f2, f3⟩ := both s hs w hP hR hU
  have f4 := fun W => p_name (S y) y rfl W (by omega)
  rw [(nm_iff y).2 hn] at f4
  obtain ⟨x, hx⟩ : ∃ x, S y = x := ⟨_, rfl⟩
  rw [hx] at f1 f2 f3 f4
  have HS := Lib.hid (show _ ∧ _ ∧ _ ∧ _ from ⟨f1, f2, f3, f4⟩)
  have HT := Lib.hid hW
  clear f1 f2 f3 f4 hn hsz hx hs hP hR hU hW
  by_cases he : ec = 0
  · subst he
    go_enter Tryd.func4, Tryd.ntmps4
    go_wp2_with (first
      | (go_at_call 16; first
        | (with_reducible refine (HS.out.1 _ (Below.refl _ _)).mono ?_; rintro e w1 ⟨rfl, hb1⟩)
        | (with_reducible refine (HS.out.2.2.1 _ (below_on (below_on hb1 hb2) hb3)).mono ?_; rintro e w4 ⟨rfl, hb4⟩))
      | (go_at_call 17; with_reducible refine (HS.out.2.1 _ hb1).mono ?_; rintro e w2 ⟨rfl, hb2⟩)
      | (go_at_call 11; refine (awake _ (HT.out.below (below_on hb1 hb2))).mono ?_; rintro e w3 ⟨rfl, hb3⟩)
      | (go_at_call 18; with_reducible refine (HS.out.2.2.2 _).mono ?_; rintro e w' ⟨rfl, hw⟩; rw [hw]; clear hw))
    go_ret
    exact ⟨rfl, below_on (below_on (below_on hb1 hb2) hb3) hb4⟩
  · go_enter Tryd.func4, Tryd.ntmps4
    go_wp2_with (first
      | (go_at_call 16; first
        | (with_reducible refine (HS.out.1 _ (Below.refl _ _)).mono ?_; rintro e w1 ⟨rfl, hb1⟩)
        | (with_reducible refine (HS.out.2.2.1 _ (below_on (below_on hb1 hb2) hb3)).mono ?_; rintro e w4 ⟨rfl, hb4⟩))
      | (go_at_call 17; with_reducible refine (HS.out.2.1 _ hb1).mono ?_; rintro e w2 ⟨rfl, hb2⟩)
      | (go_at_call 11; refine (awake _ (HT.out.below (below_on hb1 hb2))).mono ?_; rintro e w3 ⟨rfl, hb3⟩)
      | (go_at_call 18; with_reducible refine (HS.out.2.2.2 _).mono ?_; rintro e w' ⟨rfl, hw⟩; rw [hw]; clear hw))
    go_ret
    exact ⟨rfl, below_on (below_on (below_on hb1 hb2) hb3) hb4⟩

/-! ### the given statement, out of the walk -/
def laidL8 : List (String × DataW Unit) := [("math/bits.deBruijn32tab", Rows.laid_math_bits_deBruijn32tab), ("math/bits.deBruijn64tab", Rows.laid_math_bits_deBruijn64tab), ("internal/strconv.uint64pow10", Rows.laid_internal_strconv_uint64pow10), ("traveldoc/traveldocref10.rows", Rows.laid_traveldoc_traveldocref10_rows), ("unicode/utf8.acceptRanges", Rows.laid_unicode_utf8_acceptRanges), ("traveldoc/optical.rows", Rows.laid_traveldoc_optical_rows), ("traveldoc/optical.weights", Rows.laid_traveldoc_optical_weights), ("unicode/utf8.first", Rows.laid_unicode_utf8_first)]
abbrev laidKinds8 : List LaidKind := [.data, .data, .data, .data, .data, .data, .data, .pinned]
theorem of_laid8 {W : World} (h : laidMetH Tryd.prog laidL8 W) : TabL 3 rowsP W ∧ TabL 4 rowsR W ∧ UT W ∧ TabW W := by
  rw [MakeChecks.laidMetH_plain _ _ _ (by kernel_rfl)] at h
  have r3 := Lib.laidMet.reads h (n := "traveldoc/traveldocref10.rows") (d := Rows.laid_traveldoc_traveldocref10_rows) (.tail _ (.tail _ (.tail _ (.head _))))
  have r4 := Lib.laidMet.reads h (n := "unicode/utf8.acceptRanges") (d := Rows.laid_unicode_utf8_acceptRanges) (.tail _ (.tail _ (.tail _ (.tail _ (.head _)))))
  have r5 := Lib.laidMet.reads h (n := "traveldoc/optical.rows") (d := Rows.laid_traveldoc_optical_rows) (.tail _ (.tail _ (.tail _ (.tail _ (.tail _ (.head _))))))
  have r6 := Lib.laidMet.reads h (n := "traveldoc/optical.weights") (d := Rows.laid_traveldoc_optical_weights) (.tail _ (.tail _ (.tail _ (.tail _ (.tail _ (.tail _ (.head _)))))))
  have r7 := Lib.laidMet.reads h (n := "unicode/utf8.first") (d := Rows.laid_unicode_utf8_first) (.tail _ (.tail _ (.tail _ (.tail _ (.tail _ (.tail _ (.tail _ (.head _))))))))
  refine ⟨?_, ?_, ?_, ?_⟩
  · obtain ⟨g, t, cs, fuel, p, hg, ht, hv, hd⟩ := r5
    obtain rfl := Option.some.inj ((show Tryd.prog.globalNamed "traveldoc/optical.rows" = some 3 by kernel_rfl).symm.trans hg)
    obtain rfl := Option.some.inj ((show (Tryd.prog.globals[3]?).map (·.type) = some 69 by kernel_rfl).symm.trans ht)
    rw [laid_p] at hd
    exact tab_l Tryd.underlying69 rfl cells_row hg hv hd pair_p
  · obtain ⟨g, t, cs, fuel, p, hg, ht, hv, hd⟩ := r3
    obtain rfl := Option.some.inj ((show Tryd.prog.globalNamed "traveldoc/traveldocref10.rows" = some 4 by kernel_rfl).symm.trans hg)
    obtain rfl := Option.some.inj ((show (Tryd.prog.globals[4]?).map (·.type) = some 71 by kernel_rfl).symm.trans ht)
    rw [laid_r] at hd
    exact tab_l Tryd.underlying71 rfl cells_two hg hv hd pair_r
  · have e7 : Rows.laid_unicode_utf8_first = Lib.firstData := by kernel_rfl
    have e4 : Rows.laid_unicode_utf8_acceptRanges = Lib.acceptData := by kernel_rfl
    rw [e7] at r7
    rw [e4] at r4
    exact utf8Tabs_of_readsT (U8Types.of196 sh_lays196) ⟨by kernel_rfl, by kernel_rfl, by kernel_rfl, by kernel_rfl, by kernel_rfl, by kernel_rfl, by kernel_rfl⟩ r7 r4
  · obtain ⟨g, t, cs, fuel, p, hg, ht, hv, hd⟩ := r6
    obtain rfl := Option.some.inj ((show Tryd.prog.globalNamed "traveldoc/optical.weights" = some 0 by kernel_rfl).symm.trans hg)
    obtain rfl := Option.some.inj ((show (Tryd.prog.globals[0]?).map (·.type) = some 42 by kernel_rfl).symm.trans ht)
    exact tab_w laid_w rfl hg hv hd rfl

set_option maxRecDepth 100000 in
theorem lifted (os : Os) (started : os.Started) (H : Type) (enc : TypeId × Value → H) (F : Stop.Interp) :
    ReturnsInHanded {} Tryd.checked os 4 .any ((Rows.OpenSpec.upto Rows.opticalTransliteratesSpec).preRow enc Tryd.prog Tryd.f4 Rows.opticalTransliteratesUptoRow.domain false Rows.opticalTransliteratesUptoRow.laid) (((Rows.OpenSpec.upto Rows.opticalTransliteratesSpec).at F).post enc Tryd.prog Tryd.f4 false true false false) := by
  have hx : ∃ places, DataW.whole enc Tryd.prog ((World.laidAll Tryd.prog os laidL8).forCall (fun _ _ => 0) ⟨#[], #[.string ByteArray.empty], []⟩).memory Tryd.f4.params.toList Rows.opticalTransliteratesSpec.vars false #[Value.string ByteArray.empty].toList 8 = some ([.lit (.string [])], [], places) := ⟨[], by kernel_rfl⟩
  obtain ⟨places, hx⟩ := hx
  refine returnsInHanded_of_row (C := Tryd.checked) (s := Rows.OpenSpec.upto Rows.opticalTransliteratesSpec) own started (by kernel_rfl) Tryd.func4
    (witness_row_at (enc := enc) (C := Tryd.checked) false (World.laidAll Tryd.prog os laidL8) #[.string ByteArray.empty] (World.laidAll_os _ _ _) (by kernel_rfl) (by kernel_rfl) (by kernel_rfl)
      (OpenSpec.preRow_of_cond 8 hx (by kernel_rfl) (fun k hk => by cases hk; kernel_rfl) (by kernel_rfl) (laidMet_laidAll _ (by kernel_rfl) (by kernel_rfl)))) ?_
  intro W base args ds gs before hval0 hW hcnd hcond hsz0 hL _ _
  have hval : ∀ (j : Nat) t v, Tryd.f4.params[j]? = some t → args[j]? = some v → Value.okWide Tryd.prog W .any base t v := hval0
  have hW' := hW
  obtain ⟨p, q, hA0, hV, rfl, hfz, hnd⟩ := hW
  have hA : DataW.TrodAll enc Tryd.prog W 0 (fun _ => true) true Tryd.f4.params.toList args.toList ds p := hA0
  rw [Tryd.params4] at hA hval
  obtain ⟨v0, vs0, d0, ds0, p0, q0, hargs, rfl, rfl, h0, r0⟩ := trodAll_cons hA
  obtain ⟨rfl, rfl, rfl⟩ := trodAll_nil r0
  obtain rfl : args = #[v0] := by cases args; simp_all
  obtain ⟨rfl, rfl⟩ := trodVars_none hV
  obtain ⟨s0, rfl, rfl, rfl, w0⟩ := open_string Tryd.underlying9 (hval 0 9 v0 rfl rfl) h0
  have m0 : s0.size ≤ 1048576 := by
    have hk := hcond _ rfl
    simp [Rows.uptoSmall, Rows.uptoBulkAll, Rows.uptoBulk] at hk
    have := Lib.size_eq s0
    omega
  clear hA0 hval0
  obtain ⟨t1, t2, t3, t4⟩ := of_laid8 hL
  refine (walk s0 W m0 t1 t2 t3 t4).mono fun e W' ⟨he, bel⟩ => ?_
  subst he
  exact ⟨_, rfl, _, _, _, [], _, [], hW', trodAll_mk1 (shut_bool Tryd.underlying4 _), (trodAll_cons_mk (shut_string Tryd.underlying9 w0) trodAll_mk0), rfl, bel.frame _, fun h => by cases h⟩

theorem said : Rows.OpticalTransliteratesUptoSaid :=
  OpenClaim.holds_of_cond 4 Tryd.f4 rfl rfl rfl rfl rfl rfl rfl ⟨rfl, rfl, rfl, rfl, rfl⟩ rfl rfl rfl rfl rfl (by kernel_rfl) Tryd.func4 (by kernel_rfl)
    (of_decide_eq_true (by kernel_rfl)) (by unfold Func.isWrapper; first | (rw [if_pos (by decide +kernel)]; kernel_rfl) | (rw [if_neg (by decide +kernel)]; exact ⟨rfl, rfl⟩))
    (fun os started H enc _ F => by rw [OpenClaim.pre_eq_preRow]; exact lifted os started H enc F)
theorem proved : Rows.OpticalTransliteratesUptoCardSaid :=
  Claim7.holds_tied_plain_at .later [] laidKinds8 true Rows.opticalTransliteratesUptoCard.stood.harness false
    said (fun _ h => by cases h) (by kernel_rfl) (fun _ h => by cases h) opticalTransliteratesUpto_row_tie rfl ⟨rfl, rfl⟩ (by kernel_rfl) rfl
    (fun f fn hf hfn => by
      obtain rfl : f = 4 := Option.some.inj ((show Tryd.prog.funcNamed "traveldoc/traveldoclaw10.OpticalTransliterates" = some 4 by kernel_rfl).symm.trans hf) |>.symm
      obtain rfl : fn = Tryd.f4 := (Option.some.inj (Tryd.func4.symm.trans hfn)).symm
      exact ⟨by kernel_rfl, fun j t ht => by
        rw [Tryd.params4] at ht
        have hm : t ∈ [9] := by simpa using Array.mem_of_getElem? ht
        have hall : ([9].all fun u => !Tryd.prog.wantsStandIn u) = true := by kernel_rfl
        exact (show Tryd.prog.wantsStandIn t = false by simpa using List.all_eq_true.1 hall t hm)⟩)
    (by kernel_rfl)

end Go.Proofs.YtfkcnbcifidlgaaDoor.opticalTransliterates
