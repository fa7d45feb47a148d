/-
  What is proved here: the given statement OctetsSplitUptoSaid, for every byte slice and number of bulk at most 1048576 together.
-/
import Derived.Test.YtelbphjdcekajaaUpto
import Derived.Test.YtelbphjdcekajaaSplit
import Derived.Test.YtelbphjdcekajaaAwake
namespace Go.Proofs.Ytelbphjdcekajaa.octetsSplit
open Go.ChangeShapes Go.WideShapes Go.ChangeAt Go.RowKit
open Go.ChangeMaps (open_string shut_string)
set_option linter.unusedVariables false

theorem flat_le (x : List UInt8) (s : Int) (k : Nat) (h : x.length ≤ 1048576) : ((splitB x s).take k).flatten.length ≤ 1048576 := by
  by_cases hs : s < 1
  · unfold splitB; rw [if_pos hs]; simp
  · have e : (splitB x s).flatten = ((splitB x s).take k).flatten ++ ((splitB x s).drop k).flatten := by rw [← List.flatten_append, List.take_append_drop]
    rw [join_split x s hs] at e
    have := congrArg List.length e
    rw [List.length_append] at this
    omega

theorem walk (A0 : Option Addr) (c0 : Nat) (x0 : List UInt8) (n1 : Int) (w : World) (h0 : Sees w w.heap.size A0 (Us x0)) (m0 : x0.length ≤ 1048576) (lc : x0.length ≤ c0) (m1 : (Lit.int .i64 n1).wf = true) :
    Calls Try.prog 6 #[.slice A0 x0.length c0, .int .i64 n1] w fun e w' => e = .returned (.bool true) ∧ Below w.heap.size w w' := by
  obtain ⟨i0, hi, hz0, hz1, hz2⟩ := info_parts sp_info
  have M1 := Lib.hid m1
  clear m1
  go_enter Try.func6, Try.ntmps6
  go_wp2_with fail
  refine (oct_split_any _ _ n1 x0 _ h0 lc (by omega) M1.out).mono ?_
  rintro e w1 ⟨A2, c2, rfl, s2, b2⟩
  have h0 := h0.on b2
  go_wp2_with fail
  refine (ref_split_any _ _ n1 x0 _ h0 lc (by omega) M1.out).mono ?_
  rintro e w2 ⟨A3, c3, rfl, s3, b3⟩
  have h0 := h0.on b3
  have s2 := s2.on b3
  have b2 := below_on b2 b3
  clear b3
  go_wp2_with fail
  refine (awake _).mono ?_
  rintro e w3 ⟨rfl, b4⟩
  have h0 := h0.on b4
  have s2 := s2.on b4
  have s3 := s3.on b4
  have b2 := below_on b2 b4
  clear b4
  go_wp2_with fail
  have hl := splitB_length x0 n1
  have he := splitB_each x0 n1
  have HE := Lib.hid he
  clear he
  refine (ref_sameL_b _ _ _ _ (splitB x0 n1) _ s2 s3 (by unfold maxLen; omega) (fun l h => by have := HE.out l h; unfold maxLen; omega)).mono ?_
  rintro e w4 ⟨rfl, b4⟩
  have h0 := h0.on b4
  have s2 := s2.on b4
  have b2 := below_on b2 b4
  clear b4 s3
  obtain ⟨ls, hls⟩ : ∃ ls, ls = splitB x0 n1 := ⟨_, rfl⟩
  rw [← hls] at s2 hl
  have hpos := splitB_pos x0 n1
  have hsum : ∀ k, (ls.take k).flatten.length ≤ 1048576 := fun k => by rw [hls]; exact flat_le x0 n1 k m0
  have HSUM := Lib.hid hsum
  rw [← hls] at HE hpos
  have HP := Lib.hid hpos
  clear hpos hsum
  obtain ⟨vs, sv, lv⟩ := s2
  have LV := Lib.hid lv
  clear lv
  have HLS := Lib.hid hls
  by_cases hn : n1 < 1
  · have d1 : (splitE n1 != 0) = true := by unfold splitE; rw [if_pos hn]; rfl
    have hz : ls = [] := by rw [hls]; unfold splitB; rw [if_pos hn]
    rw [← hls]
    subst hz
    clear hls hn
    go_wp2
    refine wp_loop_rounds 1 ?_
    rw [rounds_succ]
    go_wp2
    go_ret
    exact ⟨rfl, b2⟩
  · have d1 : (splitE n1 != 0) = false := by unfold splitE; rw [if_neg hn]; rfl
    have hj : ls.flatten = x0 := by rw [hls]; exact join_split x0 n1 hn
    have HJ := Lib.hid hj
    rw [← hls]
    clear hls hn hj
    go_wp2
    go_loopw [9, 10] (fun v i wr => ∃ (k a : Nat), k ≤ ls.length ∧ i = .int .i64 k ∧ a ≤ 1048576 ∧ wr.ownsRow w4.heap.size 5 1 v a (Us (ls.take k).flatten) ∧ Below w4.heap.size w4 wr) (fun _ i _ => ls.length - (intOf i).toNat)
    case atStart => exact ⟨0, 0, Nat.zero_le _, rfl, Nat.zero_le _, World.ownsRow_nil _ _ _ _, Below.refl _ _⟩
    case round =>
      obtain ⟨k, a, hk, rfl, ha, hown, hb⟩ := hrel
      by_cases hlt : k < ls.length
      · obtain ⟨l, hget⟩ : ∃ l, ls[k]? = some l := ⟨ls[k], List.getElem?_eq_getElem hlt⟩
        obtain ⟨A5, c5, hv5, t5⟩ := LV.out.2 k l hget
        have hmem : l ∈ ls := List.mem_of_getElem? hget
        have hlp := HP.out l hmem
        have hle := HE.out l hmem
        obtain ⟨b1, o1, rfl, hb1, hc1⟩ := sv.at_ (k := k) (by rw [LV.out.1]; exact hlt)
        have g1 := (hb.cell (p := ⟨b1, o1 + k, none⟩) hb1).trans ((hc1 k (by rw [LV.out.1]; exact hlt)).trans hv5)
        obtain ⟨b3, o3, rfl, hb3, hc3⟩ := (t5.below hb).at_ (k := 0) (by rw [Us_length]; exact hlp)
        have hsrc := Lib.hid (sees_src hc3)
        have HG := Lib.hid hget
        clear hc1 hc3 hv5 t5 hget hmem
        go_wp2_with (at_builtin; refine wpList_append_own _ rfl (.tmp 42) (.tmp 46) 22 rfl w4.heap.size 5 i0 (.int .u8 0) 1 1 Try.underlying22 hi hz0 hz1 hz2 rfl (by decide) _ _ _ rfl hown ⟨b3, o3, none⟩ l.length c5 (Us l) rfl (by rw [Us_length]; omega) hsrc.out (Us_one _) (by unfold maxLen; omega) (by omega) hb.size ?_; intro v' w5 hown' hg5 _)
        have hb' := hb.grown hg5 hb.size (fun g hg => (hown.lt g hg).1)
        have ho := hown'
        rw [flat_snoc HG.out] at ho
        have hlen : a + l.length ≤ 1048576 := by
          have h1 := ho.1
          have h2 := HSUM.out (k + 1)
          rw [Us_length] at h1
          omega
        clear hown' hg5 hown hb
        go_roundw
        case rel => exact ⟨k + 1, a + l.length, by omega, by go_num, hlen, ho, hb'⟩
        case measure => simp [intOf]; omega
      · have hf : (ls.take k).flatten = x0 := by rw [List.take_of_length_le (by omega)]; exact HJ.out
        rw [hf] at hown
        obtain ⟨A6, c6, rfl⟩ := own_form hown
        have ha6 : a = x0.length := by have := hown.1; rw [Us_length] at this; omega
        have s6 := Sees.of_own hown
        have h0' := h0.on hb
        clear hf hown
        subst ha6
        go_wp2_with fail
        refine (oct_same_yes _ _ _ _ x0 _ s6 h0').mono ?_
        rintro e w7 ⟨rfl, b7⟩
        have b8 := below_on (below_on b2 hb) b7
        clear b7 hb
        go_wp2
        go_ret
        exact ⟨rfl, b8⟩

/-! ### the given statement, out of the walk -/
set_option maxRecDepth 100000 in
theorem lifted (os : Os) (started : os.Started) (H : Type) (enc : TypeId × Value → H) (F : Stop.Interp) :
    ReturnsInHanded {} Try.checked os 6 .any ((Rows.OpenSpec.upto Rows.octetsSplitSpec).pre6 enc Try.prog Try.f6 Rows.octetsSplitUptoRow.domain false) (((Rows.OpenSpec.upto Rows.octetsSplitSpec).at F).post enc Try.prog Try.f6 false true false false) := by
  refine returnsInHanded_of_cond_sized (C := Try.checked) (s := Rows.OpenSpec.upto Rows.octetsSplitSpec) (k := Rows.uptoSmall) rfl own started (by kernel_rfl) Try.func6
    (OpenSpec.witness (enc := enc) (C := Try.checked) (s := Rows.OpenSpec.upto Rows.octetsSplitSpec) (k := Rows.uptoSmall) rfl false ⟨#[], #[.slice none 0 0, .int .i64 0], []⟩ 8 (by kernel_rfl) (by kernel_rfl) (by kernel_rfl)
      (x := ([.nil, .lit (.int .i64 0)], [], [])) (by kernel_rfl) rfl (by kernel_rfl)) ?_
  intro W base args ds gs before hval0 hW hcnd hk hsz0 _
  have hsz : (DataW.weightsEach Try.prog (Try.f6.params.toList ++ Rows.octetsSplitSpec.plain.varTypes Try.prog) (ds ++ gs)).all (· ≤ reachBytes) = true := hsz0
  have hval : ∀ (j : Nat) t v, Try.f6.params[j]? = some t → args[j]? = some v → Value.okWide Try.prog W .any base t v := hval0
  have hW' := hW
  obtain ⟨p, q, hA0, hV, rfl, hfz, hnd⟩ := hW
  have hA : DataW.TrodAll enc Try.prog W 0 (fun _ => true) true Try.f6.params.toList args.toList ds p := hA0
  rw [Try.params6] at hA hval hsz
  obtain ⟨v0, vs0, d0, ds0, p0, q0, hargs, rfl, rfl, h0, r0⟩ := trodAll_cons hA
  obtain ⟨v1, vs1, d1, ds1, p1, q1, rfl, rfl, rfl, h1, r1⟩ := trodAll_cons r0
  obtain ⟨rfl, rfl, rfl⟩ := trodAll_nil r1
  obtain rfl : args = #[v0, v1] := by cases args; simp_all
  obtain ⟨rfl, rfl⟩ := trodVars_none hV
  obtain ⟨a0, len0, cap0, rfl⟩ := okWide_slice Try.underlying22 (hval 0 22 v0 rfl rfl)
  have lt0 : ∀ x ∈ p0, x.block < W.heap.size := by obtain ⟨m, hm⟩ := h0; exact DataW.trod_lt m _ _ _ hm
  obtain ⟨x0, rfl, see0, hl0, hc0⟩ := open_u8s h0 lt0
  have m0 := small_u8s hk (d := d0) (by simp) hl0 hc0
  obtain ⟨n1, rfl, rfl, rfl, w1⟩ := open_int Try.underlying3 (hval 1 3 v1 rfl rfl) h1
  clear hA0 hval0
  refine (walk a0 cap0 x0 n1 W see0 m0 hl0 w1).mono fun e W' ⟨he, bel⟩ => ?_
  subst he
  exact ⟨_, rfl, _, _, _, [], _, [], hW', trodAll_mk1 (shut_bool Try.underlying4 _), (trodAll_cons_mk (Below.trod laidOut (by kernel_rfl) (of_decide_eq_true (by kernel_rfl)) h0 bel lt0) (trodAll_cons_mk (shut_int Try.underlying3 w1) trodAll_mk0)), rfl, bel.frame _, fun h => by cases h⟩

theorem proved : Rows.OctetsSplitUptoSaid :=
  OpenClaim.holds_of_cond 6 Try.f6 rfl rfl rfl rfl rfl rfl rfl ⟨rfl, rfl, rfl, rfl, rfl⟩ rfl rfl rfl rfl rfl (by kernel_rfl) Try.func6 (by kernel_rfl)
    (of_decide_eq_true (by kernel_rfl)) (by unfold Func.isWrapper; first | (rw [if_pos (by decide +kernel)]; kernel_rfl) | (rw [if_neg (by decide +kernel)]; exact ⟨rfl, rfl⟩))
    (fun os started H enc _ F => lifted os started H enc F)
end Go.Proofs.Ytelbphjdcekajaa.octetsSplit
