/-
  What is proved here: what the functions of package sign answer that read the numbers of a signature: numbersOf, inRange, signedPower, Sign; for all numbers and all bytes, where the digest's tables lie in memory.
-/
import Derived.Test.YtaikoeoabgkglaaDoorSg
namespace Go.Proofs.YtaikoeoabgkglaaDoor
open Go.RowKit
set_option linter.unusedVariables false

theorem row_al2 (w : World) (e s : Int) (t : TypeId) : RowV (w.alloc (.cells #[.int .i64 e, .int .i64 s] t)) w.heap.size [.int .i64 e, .int .i64 s] := RowV.new rfl
theorem numbers_of (e s : Int) (w : World) : Calls Tryd.prog 33 #[.agg #[.int .i64 e, .int .i64 s]] w fun en w' => en = .returned (.agg #[.int .i64 e, .int .i64 s]) ∧ Below w.heap.size w w' := by
  go_enter Tryd.func33, Tryd.ntmps33
  go_wp2_with (first
    | (refine wpList_alloc_v (op := ⟨some 2, _, _, _, _, _⟩) rfl 50 rfl [.int .i64 0, .int .i64 0] info_n2 ?_; intro g2 w2 hf2 hr2; have H2 := Lib.hid (And.intro hf2 hr2); have c0 : w2.cell? ⟨w.heap.size, 0, none⟩ = some (.int .i64 e) := ((row_al2 w e s _).fresh hf2).cell 0; have c1 : w2.cell? ⟨w.heap.size, 1, none⟩ = some (.int .i64 s) := ((row_al2 w e s _).fresh hf2).cell 1; clear hf2 hr2)
    | (refine wpList_store_v rfl 50 (.tmp 2) (.tmp 7) rfl g2 [.int .i64 0, .int .i64 0] [.int .i64 e, .int .i64 s] rfl rfl H2.out.2 rfl (one2 e s) size_n2 ?_; intro w3 hw3 hr3; have H3 := Lib.hid (And.intro hw3 hr3); clear hw3 hr3 c0 c1))
  exact bodyPost_ret (results_v rfl _ _ g2 [.int .i64 e, .int .i64 s] (.array 2 3) rfl H3.out.2 Tryd.underlying50 rfl size_n2) rfl ⟨rfl, H3.out.1.bl (H2.out.1.bl (below_al w _)) (H2.out.1.ge (below_al w _))⟩

theorem idx2_0 (e s : Int) (w : World) : (Instr.index 50 (.agg #[.int .i64 e, .int .i64 s]) (.int .i64 0)).run Tryd.prog w = .ok (.int .i64 e) w := by kernel_rfl
theorem idx2_1 (e s : Int) (w : World) : (Instr.index 50 (.agg #[.int .i64 e, .int .i64 s]) (.int .i64 1)).run Tryd.prog w = .ok (.int .i64 s) w := by kernel_rfl
set_option maxHeartbeats 400000 in
theorem in_range (e s : Int) (w : World) : Calls Tryd.prog 32 #[.agg #[.int .i64 e, .int .i64 s]] w fun en w' => en = .returned (.bool (smB e && smB s)) ∧ Below w.heap.size w w' := by
  have i0 := idx2_0 e s
  have i1 := idx2_1 e s
  go_enter Tryd.func32, Tryd.ntmps32
  go_wp2_with (refine wpList_load_v rfl 50 (.tmp 1) rfl w.heap.size rfl [.int .i64 e, .int .i64 s] (.array 2 3) (row_al2 w e s _) Tryd.underlying50 rfl size_n2 ?_)
  go_loop [6] (fun i => ∃ k : Nat, k ≤ 2 ∧ i = .int .i64 (k : Int) ∧ Hid ((1 ≤ k → smB e = true) ∧ (2 ≤ k → smB s = true))) (fun i => 2 - (intOf i).toNat)
  case atStart => exact ⟨0, by omega, rfl, Lib.hid ⟨fun h => by omega, fun h => by omega⟩⟩
  case round =>
    obtain ⟨k, hk, rfl, HK⟩ := hrel
    rcases Nat.lt_or_ge k 1 with h | h
    · obtain rfl : k = 0 := by omega
      by_cases he : smB e = true
      · obtain ⟨e1, e2⟩ := smB_yes he
        have HE := Lib.hid he
        clear he h hk
        go_wp2
        go_round
        case rel => exact ⟨1, by omega, by go_num, Lib.hid ⟨fun _ => HE.out, fun h => by omega⟩⟩
        case measure => simp [intOf]
      · have hf : smB e = false := by simpa using he
        have HF := Lib.hid (show (smB e && smB s) = false by rw [hf]; rfl)
        rcases smB_no hf with h1 | h1
        all_goals
          clear hf he h hk
          go_wp2
          go_ret
          exact ⟨by rw [HF.out]; rfl, below_al w _⟩
    · rcases Nat.lt_or_ge k 2 with h2 | h2
      · obtain rfl : k = 1 := by omega
        by_cases he : smB s = true
        · obtain ⟨e1, e2⟩ := smB_yes he
          have HE := Lib.hid he
          clear he h hk h2
          go_wp2
          go_round
          case rel => exact ⟨2, by omega, by go_num, Lib.hid ⟨fun _ => HK.out.1 (by omega), fun _ => HE.out⟩⟩
          case measure => simp [intOf]
        · have hf : smB s = false := by simpa using he
          have HF := Lib.hid (show (smB e && smB s) = false by rw [hf, Bool.and_false])
          rcases smB_no hf with h1 | h1
          all_goals
            clear hf he h hk h2
            go_wp2
            go_ret
            exact ⟨by rw [HF.out]; rfl, below_al w _⟩
      · obtain rfl : k = 2 := by omega
        have HF := Lib.hid (show (smB e && smB s) = true by rw [HK.out.1 (by omega), HK.out.2 (by omega)]; rfl)
        clear h hk h2 HK
        go_wp2
        go_ret
        exact ⟨by rw [HF.out]; rfl, below_al w _⟩

/-! ### the power that the signer has started with -/
def rvZ (p e s : Int) : Int := muZ (pwZ 4 s) (pwZ p (1073741789 - e))
theorem rvZ_bd (p e s : Int) : 0 ≤ rvZ p e s ∧ rvZ p e s < 2147483579 := muZ_bd _ _
theorem signed_power {p e s : Int} (hp : elB p = true) (he : smB e = true) (hs : smB s = true) (w : World) :
    Calls Tryd.prog 34 #[.int .i64 p, .agg #[.int .i64 e, .int .i64 s]] w (GvZ w (rvZ p e s)) := by
  obtain ⟨e1, e2⟩ := smB_yes he
  obtain ⟨s1, s2⟩ := smB_yes hs
  have r4 : resB 4 = true := by decide
  have rp : resB p = true := elB_res hp
  have p1 := fun w => grp_power_any 4 s w
  rw [(po_yes r4 s1 (by omega)).1, (po_yes r4 s1 (by omega)).2] at p1
  have p2 := fun w => grp_power_any p (1073741789 - e) w
  rw [(po_yes rp (by omega) (by omega)).1, (po_yes rp (by omega) (by omega)).2] at p2
  have u1 : resB (pwZ 4 s) = true := (sub_four.pow s).res
  have u2 : resB (pwZ p (1073741789 - e)) = true := ((el_sub hp).pow _).res
  have p3 := fun w => grp_multiply (pwZ 4 s) (pwZ p (1073741789 - e)) w
  rw [(mu_yes u1 u2).1, (mu_yes u1 u2).2] at p3
  have HZ := Lib.hid (show rvZ p e s = muZ (pwZ 4 s) (pwZ p (1073741789 - e)) from rfl)
  generalize pwZ 4 s = x at *
  generalize pwZ p (1073741789 - e) = y at *
  generalize muZ x y = z at *
  have H := Lib.hid (show _ ∧ _ ∧ _ from ⟨p1, p2, p3⟩)
  clear p1 p2 p3 u1 u2 r4 rp hp he hs
  go_enter Tryd.func34, Tryd.ntmps34
  go_wp2_with (first
    | (go_at_call 22; ((with_reducible refine (H.out.1 _).mono ?_); rintro en w' ⟨rfl, rfl⟩))
    | (go_at_call 22; ((with_reducible refine (H.out.2.1 _).mono ?_); rintro en w' ⟨rfl, rfl⟩))
    | (go_at_call 47; ((with_reducible refine (H.out.2.2 _).mono ?_); rintro en w' ⟨rfl, rfl⟩)))
  go_ret
  rw [HZ.out]
  exact ⟨rfl, below_al w _⟩

/-! ### Sign -/
def sgN (k : Int) (x : List UInt8) : Int := 1 + dgZ k x % 1073741788
theorem sgN_bd (k : Int) (x : List UInt8) : 1 ≤ sgN k x ∧ sgN k x < 1073741789 := by unfold sgN; omega
def sgE (k : Int) (x : List UInt8) : Int := if secB k = true then chZ (pwZ 4 (sgN k x)) x else 0
def sgS (k : Int) (x : List UInt8) : Int := if secB k = true then (sgN k x + chZ (pwZ 4 (sgN k x)) x * k) % 1073741789 else 0
def sgC (k : Int) : Int := if secB k = true then 0 else 3
theorem sg_yes {k : Int} (h : secB k = true) (x : List UInt8) : sgE k x = chZ (pwZ 4 (sgN k x)) x ∧ sgS k x = (sgN k x + chZ (pwZ 4 (sgN k x)) x * k) % 1073741789 ∧ sgC k = 0 := by simp [sgE, sgS, sgC, h]
theorem sg_no {k : Int} (h : secB k = false) (x : List UInt8) : sgE k x = 0 ∧ sgS k x = 0 ∧ sgC k = 3 := by simp [sgE, sgS, sgC, h]
theorem secB_no {k : Int} (h : secB k = false) : k < 1 ∨ 1073741789 ≤ k := by
  rcases Int.lt_or_le k 1 with h1 | h1
  · exact .inl h1
  · right
    rcases Int.lt_or_le k 1073741789 with h2 | h2
    · rw [secB_mk h1 h2] at h; cases h
    · exact h2
/-- a call that hands back a signature and a code -/
def GvS (w : World) (e s c : Int) (en : Ending) (w' : World) : Prop := en = .returned (.tuple #[.agg #[.int .i64 e, .int .i64 s], .int .i64 c]) ∧ Below w.heap.size w w'
theorem prod_bd {a b : Int} (ha : 0 ≤ a) (ha2 : a < 1073741789) (hb : 1 ≤ b) (hb2 : b < 1073741789) : 0 ≤ a * b ∧ a * b < 1152921504606846976 := by
  constructor
  · exact Int.mul_nonneg ha (by omega)
  · have h1 : a * b ≤ 1073741789 * b := Int.mul_le_mul_of_nonneg_right (by omega) (by omega)
    omega
set_option maxHeartbeats 1000000 in
theorem sg_sign {k : Int} {x : List UInt8} {A : Option Addr} {a c : Nat} {w : World} (hx : InB w A a c x) (ht : TabA w) :
    Calls Tryd.prog 8 #[.int .i64 k, .slice A a c] w (GvS w (sgE k x) (sgS k x) (sgC k)) := by
  by_cases hk : secB k = true
  · obtain ⟨v1, v2, v3⟩ := sg_yes hk x
    rw [v1, v2, v3]
    obtain ⟨k1, k2⟩ := secB_yes hk
    have hn := sgN_bd k x
    have hd := dgZ_bd k x
    have HN := Lib.hid (show sgN k x = 1 + dgZ k x % 1073741788 from rfl)
    generalize hnn : sgN k x = n at *
    have p1 := fun w => grp_power_any 4 n w
    rw [(po_yes (show resB 4 = true by decide) (by omega) (by omega)).1, (po_yes (show resB 4 = true by decide) (by omega) (by omega)).2] at p1
    have hr := pwZ_bd 4 n
    generalize pwZ 4 n = r at *
    have hc := chZ_bd r x
    have c1 := fun (w : World) (hx : InB w A a c x) (ht : TabA w) => sg_challenge (r := r) (x := x) (A := A) (a := a) (c := c) (w := w) hr.1 (by omega) hx ht
    have c2 := fun (w : World) (hx : InB w A a c x) (ht : TabA w) => digest_number (n := k) (x := x) (A := A) (a := a) (c := c) (w := w) (by omega) (by omega) hx ht
    generalize chZ r x = ch at *
    generalize dgZ k x = z at *
    have hp := prod_bd hc.1 hc.2 k1 k2
    obtain ⟨q, hq⟩ : ∃ q, ch * k = q := ⟨_, rfl⟩
    rw [hq] at hp
    rw [hq]
    have hw1 : wrap64 (ch * k) = q := by rw [hq]; exact IntWalk.wrap64_in _ (by omega)
    have HW := Lib.hid (show (wrap64 (n + wrap64 (ch * k))).tmod 1073741789 = (n + q) % 1073741789 from by
      rw [hw1, IntWalk.wrap64_in (n + q) (by omega), Int.tmod_eq_emod_of_nonneg (by omega)])
    clear hw1
    have H := Lib.hid (show _ ∧ _ ∧ _ ∧ _ ∧ _ from ⟨hx, ht, p1, c1, c2⟩)
    obtain ⟨n1, n2⟩ := hn
    obtain ⟨r1, r2⟩ := hr
    obtain ⟨h1, h2⟩ := hc
    obtain ⟨q1, q2⟩ := hp
    obtain ⟨z1, z2⟩ := hd
    have HNN := Lib.hid (show 1 + z % 1073741788 = n from HN.out.symm)
    clear v1 v2 v3 hk hnn HN p1 c1 c2 hq hx ht
    go_enter Tryd.func8, Tryd.ntmps8
    go_wp2_with (first
      | (refine wpList_alloc_v (op := ⟨some 4, _, _, _, _, _⟩) rfl 24 rfl [.int .i64 0, .int .i64 0] info_sg ?_; intro g1 w1 hf1 hr1; have H1 := Lib.hid (show Below w.heap.size w w1 ∧ w.heap.size ≤ g1 ∧ RowV w1 g1 _ from ⟨hf1.bw, hf1.ge (Below.refl _ _), hr1⟩); clear hf1 hr1)
      | (go_at_call 21; ((with_reducible refine (H.out.2.2.2.2 _ (H.out.1.on H1.out.1) (H.out.2.1.below H1.out.1)).mono ?_); rintro en w2 ⟨rfl, b2⟩); have H2 := Lib.hid (show Below w.heap.size w w2 ∧ RowV w2 g1 _ from ⟨below_on H1.out.1 b2, H1.out.2.2.on b2⟩); clear b2)
      | (rw [HNN.out]; go_at_call 22; ((with_reducible refine (H.out.2.2.1 _).mono ?_); rintro en w' ⟨rfl, rfl⟩))
      | (go_at_call 22; ((with_reducible refine (H.out.2.2.1 _).mono ?_); rintro en w' ⟨rfl, rfl⟩))
      | (go_at_call 23; ((with_reducible refine (H.out.2.2.2.1 _ (H.out.1.on H2.out.1) (H.out.2.1.below H2.out.1)).mono ?_); rintro en w3 ⟨rfl, b3⟩); have H3 := Lib.hid (show Below w.heap.size w w3 ∧ RowV w3 g1 _ from ⟨below_on H2.out.1 b3, H2.out.2.on b3⟩); clear b3)
      | (refine wpList_store_v rfl 24 (.tmp 4) (.tmp 37) rfl g1 [.int .i64 0, .int .i64 0] [.int .i64 ch, .int .i64 ((wrap64 (n + wrap64 (ch * k))).tmod 1073741789)] rfl rfl H3.out.2 rfl (one2 _ _) size_sg ?_; intro w4 hw4 hr4; rw [HW.out] at hr4; have H4 := Lib.hid (show Below w.heap.size w w4 ∧ RowV w4 g1 _ from ⟨hw4.bl H3.out.1 H1.out.2.1, hr4⟩); clear hw4 hr4))
    exact bodyPost_ret (results_v1 rfl _ _ g1 [.int .i64 ch, .int .i64 ((n + q) % 1073741789)] _ rfl H4.out.2 Tryd.underlying24 rfl size_sg) rfl ⟨rfl, H4.out.1⟩
  · have hf : secB k = false := by simpa using hk
    obtain ⟨v1, v2, v3⟩ := sg_no hf x
    rw [v1, v2, v3]
    have hb := secB_no hf
    clear v1 v2 v3 hk hf hx ht
    rcases hb with h1 | h1
    all_goals
      go_enter Tryd.func8, Tryd.ntmps8
      go_wp2_with (first
        | (refine wpList_alloc_v (op := ⟨some 4, _, _, _, _, _⟩) rfl 24 rfl [.int .i64 0, .int .i64 0] info_sg ?_; intro g1 w1 hf1 hr1; have H1 := Lib.hid (show Below w.heap.size w w1 ∧ w.heap.size ≤ g1 ∧ RowV w1 g1 _ from ⟨hf1.bw, hf1.ge (Below.refl _ _), hr1⟩); clear hf1 hr1)
        | (refine wpList_store_v rfl 24 (.tmp 4) (.tmp 16) rfl g1 [.int .i64 0, .int .i64 0] [.int .i64 0, .int .i64 0] rfl rfl H1.out.2.2 rfl (one2 _ _) size_sg ?_; intro w4 hw4 hr4; have H4 := Lib.hid (show Below w.heap.size w w4 ∧ RowV w4 g1 _ from ⟨hw4.bl H1.out.1 H1.out.2.1, hr4⟩); clear hw4 hr4))
      exact bodyPost_ret (results_v1 rfl _ _ g1 [.int .i64 0, .int .i64 0] _ rfl H4.out.2 Tryd.underlying24 rfl size_sg) rfl ⟨rfl, H4.out.1⟩
end Go.Proofs.YtaikoeoabgkglaaDoor
