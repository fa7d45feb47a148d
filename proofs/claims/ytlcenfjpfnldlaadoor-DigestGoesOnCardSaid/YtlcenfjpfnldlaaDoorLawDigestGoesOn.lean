/-
  What is proved here: for all bytes and every number of further ones, the program's Sum returns what Compress reaches over the blocks of Pad, from the first state on (the statement DigestGoesOn), where the program's tables start as the program's text lays them; no other condition.
-/
import Derived.Test.YtlcenfjpfnldlaaDoorOp4
import Derived.Test.YtlcenfjpfnldlaaDoorOb
namespace Go.Proofs.YtlcenfjpfnldlaaDoor.digestGoesOn
open Go.ChangeShapes Go.WideShapes Go.ChangeAt Go.RowKit
open Go.ChangeMaps (open_string shut_string)
set_option linter.unusedVariables false
attribute [local go_sem ↓] Go.wp_at_zero Go.wp_at_succ

def ramp (k : Nat) : List UInt8 := (List.range k).map UInt8.ofNat
theorem ramp_length (k : Nat) : (ramp k).length = k := by simp [ramp]
theorem ramp_succ (k : Nat) : ramp (k + 1) = ramp k ++ [UInt8.ofNat k] := by simp [ramp, List.range_succ]
theorem ramp_byte (k : Nat) (h : k ≤ 255) : Value.int .u8 (k : Int) = U (UInt8.ofNat k) := by
  unfold U
  rw [UInt8.toNat_ofNat']
  congr 1
  omega
theorem u8_nat {n : Int} (h : (Lit.int .u8 n).wf = true) : ∃ k : Nat, n = (k : Int) ∧ k ≤ 255 := by
  have hx : 0 ≤ n ∧ n ≤ 255 := by simpa [Lit.wf, IntKind.min, IntKind.max, IntKind.signed, IntKind.bits] using h
  exact ⟨n.toNat, by omega, by omega⟩
/-- what lies behind Pad -/
def Kp3 (w w3 : World) (xs : List UInt8) (Ax : Option Addr) : Prop := Sees w3 w3.heap.size Ax (Us xs) ∧ Below w.heap.size w w3 ∧ TabA w3
theorem Kp3.on {w w3 w4 : World} {xs : List UInt8} {Ax : Option Addr} (h : Kp3 w w3 xs Ax) (hb : Below w3.heap.size w3 w4) : Kp3 w w4 xs Ax := ⟨h.1.on hb, below_on h.2.1 hb, h.2.2.below hb⟩

set_option maxRecDepth 40000 in
set_option maxHeartbeats 4000000 in
theorem walk (A : Option Addr) (c : Nat) (x : List UInt8) (n : Int) (w : World) (ht : TabA w) (hs : Sees w w.heap.size A (Us x)) (m0 : x.length ≤ 140737488351232) (hn : A = none → c = 0) (wn : (Lit.int .u8 n).wf = true) :
    Calls Tryd.prog 6 #[.slice A x.length c, .int .u8 n] w fun e w' => e = .returned (.bool true) ∧ Below w.heap.size w w' := by
  obtain ⟨i0, hi, hz0, hz1, hz2⟩ := info_parts info_u8p
  obtain ⟨ex, rfl, hex⟩ := u8_nat wn
  have H := Lib.hid (show _ ∧ _ ∧ _ from ⟨ht, hs, hn⟩)
  clear ht hs hn wn
  go_enter Tryd.func6, Tryd.ntmps6
  go_wp2_with (at_builtin; refine app_bytes rfl (.const (.slice none 0 0)) (.tmp 14) 22 rfl w.heap.size 5 i0 (.int .u8 0) Tryd.underlying22 hi hz0 hz1 hz2 rfl (.slice none 0 0) 0 [] rfl (World.ownsRow_nil _ _ _ _) A c x _ rfl H.out.2.2 (SeesP.iff_sees.2 H.out.2.1) (by unfold maxLen; omega) (by omega) (Nat.le_refl _) ?_; intro v1 w1 ho1 hg1; rw [Nat.zero_add, List.nil_append] at ho1; have P1 := Lib.hid (show PRel w (x ++ ramp 0) v1 w1 from by rw [show ramp 0 = [] from rfl, List.append_nil]; exact ⟨ho1, (Below.refl _ _).grown hg1 (Nat.le_refl _) (fun k e => by cases e)⟩); clear ho1 hg1)
  go_loopw [5, 6] (fun v i wr => ∃ k : Nat, k ≤ ex ∧ i = .int .i64 (k : Int) ∧ Hid (PRel w (x ++ ramp k) v wr)) (fun _ i _ => ex - (intOf i).toNat)
  case atStart => exact ⟨0, Nat.zero_le _, rfl, P1⟩
  case round =>
    clear P1
    obtain ⟨k, hk, rfl, HP⟩ := hrel
    have hlk : (x ++ ramp k).length = x.length + k := by rw [List.length_append, ramp_length]
    have ho := HP.out.1
    rw [hlk] at ho
    have HL := Lib.hid hlk
    have hsz := HP.out.2.size
    clear hlk
    obtain ⟨Ax, cx, rfl⟩ := own_len ho
    by_cases hlt : k < ex
    · go_wp2_with (at_builtin; refine wpList_append_own _ rfl (.tmp 22) (.tmp 25) 22 rfl w.heap.size 5 i0 (.int .u8 0) 1 1 Tryd.underlying22 hi hz0 hz1 hz2 rfl (by decide) (.slice Ax (x.length + k) cx) (x.length + k) _ rfl (ho.alloc _) ⟨_, 0, none⟩ 1 1 [.int .u8 (k : Int)] rfl rfl (World.news_of_block (heap_alloc_new _ _)) (one_u8 _ _ (ramp_byte k (by omega))) (by unfold maxLen; omega) (by omega) (by simp; omega) ?_; intro v3 w3 ho3 hg3 _; have P3 := Lib.hid (show PRel w (x ++ ramp (k + 1)) v3 w3 from by rw [ramp_succ, ← List.append_assoc]; exact HP.out.snoc (ramp_byte k (by omega)) (by rw [HL.out]; exact ho3) hg3); clear ho ho3 hg3 HP)
      go_roundw
      case rel => exact ⟨k + 1, by omega, by go_num, P3⟩
      case measure => simp [intOf]; omega
    · obtain rfl : k = ex := by omega
      clear hlt hk
      obtain ⟨xs, hxs⟩ : ∃ xs, xs = x ++ ramp k := ⟨_, rfl⟩
      obtain ⟨u, hu⟩ : ∃ u : World, u = wr := ⟨_, rfl⟩
      have hxl : xs.length ≤ 140737488351500 := by rw [hxs, HL.out]; omega
      rw [← HL.out, ← hxs] at ho
      have hlen : x.length + k = xs.length := by rw [hxs, HL.out]
      rw [hlen]
      have K1 := Lib.hid (show Kp3 w wr xs Ax from ⟨Sees.of_own ho, HP.out.2, H.out.1.below HP.out.2⟩)
      clear ho HP HL hxs hu hsz hlen
      obtain ⟨m, hm, hm1⟩ := padL_size xs
      have hm2 : 64 * m ≤ 140737488355000 := by have := padL_length xs; have := padZ_lt xs.length; omega
      have HM := Lib.hid (And.intro hm hm1)
      clear hm hm1
      go_wp2_with fail
      refine (digest_pad xs Ax cx wr hxl (SeesP.iff_sees.2 K1.out.1)).mono ?_
      intro e w3 hm3
      obtain ⟨pb, off, c3, he, hcap, hP⟩ := mk_block HM.out hm3
      subst he
      have HP := Lib.hid hP
      have hpb : pb < w3.heap.size := hP.2.1
      have K3 := Lib.hid (K1.out.on hP.2.2.2)
      clear hP hm3 K1
      have d64 : (64 * (m : Int) % 64 != 0) = false := by simp
      go_wp2_with fail
      refine (ref_first w3).mono ?_
      intro e w4 hm4
      obtain ⟨Ah, ch, he, HB⟩ := BlR.start (p := padL xs) hm4
      subst he
      clear hm4
      go_wp2_with fail
      go_loopw [8, 9] (fun h i wr => ∃ (k : Nat) (Ah : Option Addr) (ch : Nat), k ≤ m ∧ i = .int .i64 (64 * (k : Int)) ∧ h = .slice Ah 8 ch ∧ Hid (BlR w3 (padL xs) k Ah wr)) (fun _ i _ => (64 * (m : Int) - intOf i).toNat)
      case atStart => exact ⟨0, Ah, ch, Nat.zero_le _, rfl, rfl, HB⟩
      case round =>
        clear HB d64
        obtain ⟨k, Ah, ch, hk, rfl, rfl, HB⟩ := hrel
        by_cases hlt : k < m
        · have d3 : ¬ c3 = 64 * k := by omega
          have HC := Lib.hid (compress_good (stW (padL xs) k) (blkL (padL xs) k) Ah (some ⟨pb, off + 64 * k, none⟩) ch (c3 - 64 * k) wr (stW_length _ _) (blkL_length HM.out.1 hlt) HB.out.1 (HB.out.blk HM.out.1 hlt hpb HP.out.2.2.1) (K3.out.2.2.below HB.out.2).1)
          go_wp2_with (go_at_call 12; refine HC.out.mono ?_; intro e w5 hg; obtain ⟨A5, c5, he, H5⟩ := HB.out.next hg; subst he; clear hg)
          go_roundw
          case rel => exact ⟨k + 1, A5, c5, by omega, by go_num, rfl, H5⟩
          case measure => simp [intOf]; omega
        · obtain rfl : k = m := by omega
          clear hlt hk
          obtain ⟨st, hst⟩ : ∃ st, st = stW (padL xs) k := ⟨_, rfl⟩
          have HST := Lib.hid (show st.length = 8 from by rw [hst]; exact stW_length _ _)
          have hsee := HB.out.1
          rw [← hst] at hsee
          obtain ⟨gh, oh, rfl, hgh, hcells⟩ := state_cells HST.out hsee
          have K4 := Lib.hid (show sumL xs = outB st ∧ Kp3 w wr xs Ax from ⟨by rw [hst, sumL, HM.out.1, Nat.mul_div_cancel_left _ (by decide)], K3.out.on HB.out.2⟩)
          clear HB hsee hst HP hpb K3
          obtain ⟨w2, rfl⟩ : ∃ w2 : World, w2 = wr := ⟨_, rfl⟩
          go_wp2_with fail
          go_loopw [12, 13] (fun v j wr => ∃ k : Nat, k ≤ 8 ∧ j = .int .i64 (k : Int) ∧ Hid (O3 w2 st k v wr)) (fun _ j _ => 8 - (intOf j).toNat)
          case atStart => exact ⟨0, by decide, rfl, Lib.hid (O3.start w2 st)⟩
          case round =>
            obtain ⟨j, hj, rfl, HO⟩ := hrel
            have ho := HO.out.1
            obtain ⟨A1, c1, rfl⟩ := own_len ho
            have hsz := HO.out.2.size
            by_cases h8 : j < 8
            · have hx := hcells j h8
              have ag : (Value.slice A1 (4 * j) c1).ownBlock ≠ some gh := fun e => by have := (ho.lt gh e).1; omega
              have hx2 := (HO.out.2.cell (p := ⟨gh, oh + j, none⟩) hgh).trans hx
              have r1 : (0 : Int) ≤ (j : Int) ∧ (j : Int) < 8 := by omega
              have hgw : gh < wr.heap.size := by omega
              go_wp2_with fail
              go_region_held3 (fun w' => w'.cell? ⟨gh, oh + j, none⟩ = some (.int .u32 ((st.getD j 0).toNat : Int)))
                (first
                  | exact keep_far hgrow hgw ag hx2
                  | go_keep)
                ((refine step_append_lies _ (by rfl) (.tmp 62) (.tmp 86) 22 (by rfl) w2.heap.size 5 i0 (.int .u8 0) 1 1 Tryd.underlying22 hi hz0 hz1 hz2 rfl (by decide) (.slice A1 (4 * j) c1) (4 * j) _ (by rfl) ((ho.alloc _).drew) ⟨wr.heap.size, 0, none⟩ 4 4 (bytesV (st[j]?.getD 0)) (by rfl) (by rfl) (World.news_of_block (cs := (bytesV (st[j]?.getD 0)).toArray) (t := 5) (fr := (0, 0)) (heap_alloc_new wr _)) (bytesV_one _) (by omega) (by unfold maxLen; omega) (by omega) (by simp; omega) (wr.heap.size + 1) (by simp) ?_; intro gg cap w6 hown6 hgrow hat hlt))
              go_wp2_with fail
              have H6 := Lib.hid (HO.out.step (by have := HST.out; omega) hown6 hgrow)
              clear hx hx2 ag ho HO hown6 hgrow hat hlt r1 hgw
              go_roundw
              case rel => exact ⟨j + 1, by omega, by go_num, H6⟩
              case measure => simp [intOf]; omega
            · obtain rfl : j = 8 := by omega
              have K5 := Lib.hid (show Kp3 w wr xs Ax from K4.out.2.on HO.out.2)
              have hso := Sees.of_own HO.out.1
              rw [List.take_of_length_le (by have := HST.out; omega), ← K4.out.1] at hso
              have HSO := Lib.hid hso
              clear HO ho h8 hj hsz hso hcells hgh
              go_wp2_with fail
              refine (awake wr K5.out.2.2).mono ?_
              rintro e w7 ⟨rfl, hb7⟩
              have K7 := Lib.hid (show Kp3 w w7 xs Ax ∧ Sees w7 w7.heap.size A1 (Us (sumL xs)) from ⟨K5.out.on hb7, HSO.out.on hb7⟩)
              clear hb7 K5 HSO
              go_wp2_with fail
              refine (digest_sum xs Ax cx w7 hxl (SeesP.iff_sees.2 K7.out.1.1) K7.out.1.2.2.1 K7.out.1.2.2.2.1).mono ?_
              intro e w8 hm8
              obtain ⟨A8, c8, he, g2, g3, g4, hb8⟩ := mk_sees hm8
              have hsl : (sumL xs).length = 32 := by rw [sumL, outB_length, stW_length]
              have HX := ref_same_yes A8 A1 c8 c1 (sumL xs) w8 (SeesP.iff_sees.1 g4) (K7.out.2.on hb8) (by rw [hsl]; decide)
              rw [hsl] at he HX
              subst he
              have HX2 := Lib.hid HX
              have HC := Lib.hid (below_on K7.out.1.2.1 hb8)
              clear hm8 g2 g3 g4 hb8 HX hsl
              go_wp2_with fail
              refine HX2.out.mono ?_
              rintro e w9 ⟨rfl, hb9⟩
              go_wp2_with fail
              go_ret
              exact ⟨rfl, below_on HC.out hb9⟩

/-! ### the given statement, out of the walk -/
set_option maxRecDepth 100000 in
theorem lifted (os : Os) (started : os.Started) (H : Type) (enc : TypeId × Value → H) :
    ReturnsInHanded {} Tryd.checked os 6 .any (fun w args => (Rows.digestGoesOnSpec.pre enc Tryd.prog Tryd.f6 Rows.digestGoesOnRow.domain false w args ∧ laidMetH Tryd.prog laidL w) ∧ sizedMet enc Tryd.prog Tryd.f6 (OpenSpec.ofChange Rows.digestGoesOnSpec) false w args)
      (Rows.digestGoesOnSpec.post enc Tryd.prog Tryd.f6 false true false false) := by
  refine returnsInHanded_of_change_and (C := Tryd.checked) (X := fun w _ => laidMetH Tryd.prog laidL w) (fun _ _ _ hh h => h.of_heap hh) own started (by kernel_rfl) Tryd.func6
    (ChangeSpec.witness_shaped (enc := enc) (C := Tryd.checked) (os := os) (X := fun w _ => laidMetH Tryd.prog laidL w) false (World.laidAll Tryd.prog os laidL) #[.slice none 0 0, .int .u8 0] 8 (World.laidAll_os _ _ _)
      (World.shaped_of_ZipB (by kernel_rfl) (by kernel_rfl)) (by kernel_rfl) (by kernel_rfl) (by kernel_rfl)
      (by rw [MakeChecks.laidMetH_plain _ _ _ (by kernel_rfl)]; exact laidMet_laidAll _ (by kernel_rfl) (by kernel_rfl))) ?_
  intro W base args ds gs before hval0 hW hcnd hsz0 hL _
  have hsz : (DataW.weightsEach Tryd.prog (Tryd.f6.params.toList ++ Rows.digestGoesOnSpec.plain.varTypes Tryd.prog) (ds ++ gs)).all (· ≤ reachBytes) = true := hsz0
  have hval : ∀ (j : Nat) t v, Tryd.f6.params[j]? = some t → args[j]? = some v → Value.okWide Tryd.prog W .any base t v := hval0
  have hW' := hW
  obtain ⟨p, q, hA0, hV, rfl, hfz, hnd⟩ := hW
  have hA : DataW.TrodAll enc Tryd.prog W 0 (fun _ => true) true Tryd.f6.params.toList args.toList ds p := hA0
  rw [Tryd.params6] at hA hval hsz
  obtain ⟨v0, vs0, d0, ds0, p0, q0, hargs, rfl, rfl, h0, r0⟩ := trodAll_cons hA
  obtain ⟨v1, vs1, d1, ds1, p1, q1, rfl, rfl, rfl, h1, r1⟩ := trodAll_cons r0
  obtain ⟨rfl, rfl, rfl⟩ := trodAll_nil r1
  obtain rfl : args = #[v0, v1] := by cases args; simp_all
  obtain ⟨rfl, rfl⟩ := trodVars_none hV
  obtain ⟨a0, len0, cap0, rfl⟩ := okWide_slice Tryd.underlying22 (hval 0 22 v0 rfl rfl)
  have lt0 : ∀ x ∈ p0, x.block < W.heap.size := by obtain ⟨m, hm⟩ := h0; exact DataW.trod_lt m _ _ _ hm
  obtain ⟨x0, rfl, see0, hl0, nn0, hc0⟩ := open_u8s h0 lt0
  have m0 := reach_u8s hsz (j := 0) rfl rfl hl0 hc0
  obtain ⟨n1, rfl, rfl, rfl, w1⟩ := open_int Tryd.underlying5 (hval 1 5 v1 rfl rfl) h1
  clear hA0 hval0
  refine (walk a0 cap0 x0 n1 W (of_laid hL) see0 m0 nn0 w1).mono fun e W' ⟨he, bel⟩ => ?_
  subst he
  exact ⟨_, rfl, _, _, _, [], _, [], hW', trodAll_mk1 (shut_bool Tryd.underlying4 _), (trodAll_cons_mk (Below.trod laidOut (by kernel_rfl) (of_decide_eq_true (by kernel_rfl)) h0 bel lt0) (trodAll_cons_mk (shut_int Tryd.underlying5 w1) trodAll_mk0)), rfl, bel.frame _, fun h => by cases h⟩

theorem said : Rows.DigestGoesOnSaid :=
  OpenClaim.holds_of_wide 6 Tryd.f6 rfl rfl rfl rfl rfl rfl rfl ⟨rfl, rfl, rfl, rfl, rfl⟩ rfl rfl rfl rfl rfl (by kernel_rfl) Tryd.func6 (by kernel_rfl)
    (of_decide_eq_true (by kernel_rfl)) (by unfold Func.isWrapper; first | (rw [if_pos (by decide +kernel)]; kernel_rfl) | (rw [if_neg (by decide +kernel)]; exact ⟨rfl, rfl⟩))
    (fun os started H enc _ => lifted os started H enc)
theorem proved : Rows.DigestGoesOnCardSaid :=
  Claim7.holds_tied_plain_at .later [] laidKinds true Rows.digestGoesOnCard.stood.harness false
    said (fun _ h => by cases h) (by kernel_rfl) (fun _ h => by cases h) digestGoesOn_row_tie rfl ⟨rfl, rfl⟩ (by kernel_rfl) rfl
    (fun f fn hf hfn => by
      obtain rfl : f = 6 := Option.some.inj ((show Tryd.prog.funcNamed "traveldoc/traveldoclaw04.DigestGoesOn" = some 6 by kernel_rfl).symm.trans hf) |>.symm
      obtain rfl : fn = Tryd.f6 := (Option.some.inj (Tryd.func6.symm.trans hfn)).symm
      exact ⟨by kernel_rfl, fun j t ht => by
        rw [Tryd.params6] at ht
        have hm : t ∈ [22, 5] := by simpa using Array.mem_of_getElem? ht
        have hall : ([22, 5].all fun u => !Tryd.prog.wantsStandIn u) = true := by kernel_rfl
        exact (show Tryd.prog.wantsStandIn t = false by simpa using List.all_eq_true.1 hall t hm)⟩)
    (by kernel_rfl)
end Go.Proofs.YtlcenfjpfnldlaaDoor.digestGoesOn
