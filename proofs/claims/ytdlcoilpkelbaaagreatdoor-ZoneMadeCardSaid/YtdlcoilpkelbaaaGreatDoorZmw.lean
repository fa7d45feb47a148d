/-
  What is proved here: the law ZoneMade as a function: true for any numbers.
-/
import Derived.Test.YtdlcoilpkelbaaaGreatDoorZrw
import Derived.Test.YtdlcoilpkelbaaaGreatDoorZod
import Derived.Test.YtdlcoilpkelbaaaGreatDoorY17
namespace Go.Proofs.YtdlcoilpkelbaaaGreatDoor
open Go.RowKit Go.Maps Go.Deep
set_option linter.unusedVariables false

/-- dice that were made first, and a zone's block of the call's own -/
structure Md (w : World) (D : Nat) (cur : World) (g : Nat) (us : List Value) : Prop where
  bl : Below w.heap.size w cur
  dk : DiceOk cur D
  dg : D = w.heap.size
  gt : D < g
  r : RowV cur g us
section
variable {w cur cur' : World} {D g : Nat} {us us' : List Value}
theorem Md.dice (h : Md w D cur g us) (hg : cur.grownBy cur' (some D)) (hd : DiceOk cur' D) : Md w D cur' g us :=
  ⟨below_row h.bl (by rw [← h.dg]; exact hg), hd, h.dg, h.gt, h.r.grown hg (by intro e; injection e with e; have := h.gt; omega)⟩
theorem Md.on (h : Md w D cur g us) (hb : Below cur.heap.size cur cur') : Md w D cur' g us := ⟨below_on h.bl hb, h.dk.below hb, h.dg, h.gt, h.r.on hb⟩
theorem Md.set (h : Md w D cur g us) (hw : Wr cur cur' g) (hr : RowV cur' g us') : Md w D cur' g us' :=
  ⟨Wr.bl h.bl hw (by have := h.gt; have := h.dg; omega), h.dk.grown (grown_wr hw) (fun k e => by injection e with e; have := h.gt; omega), h.dg, h.gt, hr⟩
theorem Md.start (hb : Below w.heap.size w cur) (hd : DiceOk cur D) (e : D = w.heap.size) (hf : Fresh cur cur' g) (hr : RowV cur' g us) : Md w D cur' g us :=
  ⟨below_on hb hf.bw, hd.below hf.bw, e, by have := hd.lt; have := hf.1; omega, hr⟩
end
theorem nu_short {z : Zn} (hz : vE z = 0) : z.nu.length ≤ 1000 := by
  obtain ⟨h1, h2, h3, h4, h5, h6, h7, h8⟩ := vE_ok hz
  have : maxN z.fm ≤ 20 := by unfold maxN; repeat (first | omega | split)
  omega

set_option maxHeartbeats 6400000 in
set_option maxRecDepth 40000 in
theorem zm_walk (A0 : Option Addr) (c : Nat) (x : List Int) (w : World) (hM : Mm w) (see : SeesP w (· < w.heap.size) A0 (x.map (Value.int .i64))) (m : x.length ≤ 140737488351232) (rng : ∀ y ∈ x, -9223372036854775808 ≤ y ∧ y ≤ 9223372036854775807) :
    Calls Tryz.prog 5 #[.slice A0 x.length c] w fun e w' => e = .returned (.bool true) ∧ Below w.heap.size w w' := by
  have HM := Lib.hid hM
  have HL := Lib.hid (made_light A0 x.length c w m)
  by_cases hx : ¬ x.length ≤ 400
  · have d : decide (x.length ≤ 400) = false := decide_eq_false hx
    rw [d] at HL
    clear hM see m rng hx d
    go_enter Tryz.func5, Tryz.ntmps5
    go_wp2_with (first
      | (go_at_call 20; refine HL.out.mono ?_; rintro e w' ⟨rfl, hw⟩; rw [hw]; clear hw)
      | (go_at_call 14; ((with_reducible refine (zone_awake _ HM.out).mono ?_); rintro e w1 ⟨rfl, hb⟩); have HB := Lib.hid hb; clear hb))
    go_ret
    exact ⟨rfl, HB.out⟩
  have d : decide (x.length ≤ 400) = true := decide_eq_true (Classical.not_not.1 hx)
  have HR := Lib.hid (made_roll A0 c x w m rng see)
  rw [d] at HL
  clear hM see m rng d hx
  go_enter Tryz.func5, Tryz.ntmps5
  go_wp2_with (first
    | (go_at_call 20; refine HL.out.mono ?_; rintro e w' ⟨rfl, hw⟩; rw [hw]; clear hw)
    | (go_at_call 21; refine HR.out.mono ?_; rintro e w1 ⟨rfl, hd1, hb1⟩))
  refine (dice_zone w.heap.size w1 hd1).mono ?_
  rintro e w2 ⟨z, rfl, hz, hbz, hg, hd⟩
  have HZ := Lib.hid (show _ ∧ _ ∧ _ ∧ _ from ⟨hz, hbz, below_row hb1 hg, hd⟩)
  clear hb1 hz hbz hg HL HR hd1 hd
  obtain ⟨D, hD⟩ : ∃ D, w.heap.size = D := ⟨_, rfl⟩
  rw [hD] at HZ ⊢
  have HDD := Lib.hid hD.symm
  clear hD
  obtain ⟨us, hus⟩ : ∃ us, zV z = us := ⟨_, rfl⟩
  rw [hus]
  have HUL : Hid (us.length = zon0.length ∧ (∀ u ∈ us, u.oneCell' = true) ∧ (Tryz.prog.info? 23).map (·.size) = some us.length) := Lib.hid (by rw [← hus]; exact ⟨rfl, zV_one _, size_z⟩)
  have HU := Lib.hid hus
  clear hus
  go_wp2_with (first
    | ((with_reducible refine at_alloc_ (d := 4) ?_); refine wpList_alloc_v (op := ⟨some 4, _, _, _, _, _⟩) rfl 23 rfl zon0 info_z ?_; intro g4 v4a hf hr; have HQ := Lib.hid (Md.start (by have := HZ.out.2.2.1; rwa [HDD.out] at this) HZ.out.2.2.2 HDD.out hf hr); clear hf hr)
    | ((with_reducible refine at_store_ (i := 4) ?_); refine wpList_store_v rfl 23 (.tmp 4) (.tmp 14) rfl g4 zon0 us rfl rfl HQ.out.r HUL.out.1 HUL.out.2.1 HUL.out.2.2 ?_; intro v4s hw hr; replace HQ := Lib.hid (HQ.out.set hw hr); clear hw hr))
  refine (dice_one_l D 3 3 _ rfl (by decide) (by decide) HQ.out.dk).mono ?_
  rintro e w4 ⟨q, rfl, hg, hd⟩
  have HQ2 := Lib.hid (HQ.out.dice hg hd)
  clear HQ hg hd
  have HQ := HQ2
  clear HQ2
  go_upto_if 16 with fail
  go_cut [] from 17 to 19 (fun wx => ∃ z' : Zn, Hid (Bears z') ∧ Hid (Md w D wx g4 (zV z')))
  case first =>
    rcases q with _ | _
    · go_wp2_with fail
      go_meet
      exact ⟨z, Lib.hid HZ.out.2.1, by rw [HU.out]; exact HQ⟩
    · go_wp2_with (first
        | ((with_reducible refine at_load_ (d := 18) ?_); refine wpList_load_v rfl 23 (.tmp 4) rfl g4 rfl us _ HQ.out.r Tryz.underlying23 rfl HUL.out.2.2 ?_))
      refine (dice_oddz D z us HU.out HZ.out.2.1 (nu_short HZ.out.1) _ HQ.out.dk).mono ?_
      rintro e w5 ⟨z', rfl, hb', hg, hd⟩
      have HQ2 := Lib.hid (HQ.out.dice hg hd)
      have HB' := Lib.hid hb'
      clear HQ hg hd hb'
      have HQ := HQ2
      clear HQ2
      obtain ⟨vs, hvs⟩ : ∃ vs, zV z' = vs := ⟨_, rfl⟩
      rw [hvs]
      have HVL : Hid (vs.length = zon0.length ∧ (∀ u ∈ vs, u.oneCell' = true) ∧ (Tryz.prog.info? 23).map (·.size) = some vs.length) := Lib.hid (by rw [← hvs]; exact ⟨rfl, zV_one _, size_z⟩)
      have HVS := Lib.hid hvs
      clear hvs
      go_wp2_with ((with_reducible refine at_store_ (i := 4) ?_); refine wpList_store_v rfl 23 (.tmp 4) (.tmp 19) rfl g4 us vs rfl rfl HQ.out.r (by rw [HVL.out.1, HUL.out.1]) HVL.out.2.1 HVL.out.2.2 ?_; intro v4t hw hr; replace HQ := Lib.hid (HQ.out.set hw hr); clear hw hr)
      go_meet
      exact ⟨z', HB', by rw [HVS.out]; exact HQ⟩
  case rest =>
    clear HQ HU HUL HZ
    obtain ⟨z', HB', HQ⟩ := hcut
    obtain ⟨vs, hvs⟩ : ∃ vs, zV z' = vs := ⟨_, rfl⟩
    rw [hvs] at HQ
    have HVL : Hid (vs.length = zon0.length ∧ (∀ u ∈ vs, u.oneCell' = true) ∧ (Tryz.prog.info? 23).map (·.size) = some vs.length) := Lib.hid (by rw [← hvs]; exact ⟨rfl, zV_one _, size_z⟩)
    obtain ⟨n, hn⟩ : ∃ n, (buildL z').length = n := ⟨_, rfl⟩
    have hn3 : n ≤ 3 := by rw [← hn]; exact build_n z'
    obtain ⟨v, hv⟩ : ∃ v, vE z' = v := ⟨_, rfl⟩
    have HBD : Hid (∀ w, Calls Tryz.prog 11 #[.agg vs.toArray] w fun e w' => ∃ A, e = .returned (.tuple #[.slice A n n, .int .i64 v]) ∧ Strs w' A (buildL z') ∧ Below w.heap.size w w') := Lib.hid (fun w => r_buildB z' vs hvs v hv n hn HB'.out w)
    have HZB : Hid (∀ w, Mm w → Calls Tryz.prog 3 #[.agg vs.toArray] w fun e w' => e = .returned (.bool true) ∧ Below w.heap.size w w') := Lib.hid (fun w hM => zb_walk z' vs hvs HB'.out w hM)
    have HZP : Hid (∀ A w, Mm w → Strs w A (buildL z') → Calls Tryz.prog 4 #[.slice A n n] w fun e w' => e = .returned (.bool true) ∧ Below w.heap.size w w') := Lib.hid (fun A w hM hs => zp_walk (buildL z') A n n hn (by omega) w hM hs)
    clear hvs hn hv
    go_wp2_with (first
      | ((with_reducible refine at_load_ (d := 21) ?_); refine wpList_load_v rfl 23 (.tmp 4) rfl g4 rfl vs _ HQ.out.r Tryz.underlying23 rfl HVL.out.2.2 ?_)
      | (go_at_call 11; ((with_reducible refine (HBD.out _).mono ?_); rintro e w6 ⟨A, rfl, hs, hb⟩); have HS := Lib.hid hs; replace HQ := Lib.hid (HQ.out.on hb); have HB6 := Lib.hid (Below.refl w6.heap.size w6); clear hb hs)
      | ((with_reducible refine at_load_ (d := 25) ?_); refine wpList_load_v rfl 23 (.tmp 4) rfl g4 rfl vs _ HQ.out.r Tryz.underlying23 rfl HVL.out.2.2 ?_)
      | (go_at_call 3; ((with_reducible refine (HZB.out _ (HM.out.on HQ.out.bl)).mono ?_); rintro e w7 ⟨rfl, hb⟩); replace HQ := Lib.hid (HQ.out.on hb); replace HB6 := Lib.hid (below_on HB6.out hb); clear hb)
      | (go_at_call 4; ((with_reducible refine (HZP.out A _ (HM.out.on HQ.out.bl) (HS.out.on HB6.out)).mono ?_); rintro e w8 ⟨rfl, hb⟩); replace HQ := Lib.hid (HQ.out.on hb); clear hb))
    go_ret
    exact ⟨rfl, HQ.out.bl⟩
end Go.Proofs.YtdlcoilpkelbaaaGreatDoor
