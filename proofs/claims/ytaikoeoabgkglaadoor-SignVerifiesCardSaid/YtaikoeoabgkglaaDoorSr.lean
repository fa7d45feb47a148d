/-
  What is proved here: what the reference's functions of the ninth layer answer: challenge, Sign, small, Verify; for all numbers and all bytes, where the digest's tables lie in memory.
-/
import Derived.Test.YtaikoeoabgkglaaDoorSi
import Derived.Test.YtaikoeoabgkglaaDoorRj
import Derived.Test.YtaikoeoabgkglaaDoorSmn
namespace Go.Proofs.YtaikoeoabgkglaaDoor
open Go.RowKit
set_option linter.unusedVariables false

theorem MkN.inB {w w' : World} {n : Nat} {l : List UInt8} {e : Ending} (hl : l.length = n) (hn : n ≤ 140737488351300) (h : MkN w n l e w') : ∃ A c, e = .returned (.slice A n c) ∧ n ≤ c ∧ InB w' A n c l ∧ Below w.heap.size w w' := by
  obtain ⟨A, c, he, h1, h2, h3, h4⟩ := h
  exact ⟨A, c, he, h1, ⟨hl, hn, h2, h3⟩, h4⟩
theorem ref_fourZ9 {n : Int} {w : World} (h0 : 0 ≤ n) (h1 : n < 4294967296) : Calls Tryd.prog 28 #[.int .i64 n] w (GivesI w 4 (four n.toNat)) := by
  obtain ⟨k, rfl⟩ := Int.eq_ofNat_of_zero_le h0
  rw [Int.toNat_natCast]
  refine (ref_four (show k ≤ 4294967296 by omega)).mono fun e w' h => ?_
  obtain ⟨A, c, he, _, hi, hb⟩ := h.inB (four_len k) (by decide)
  exact ⟨A, c, he, hi, hb⟩
theorem ref_join9 {x y : List UInt8} {A B : Option Addr} {a b ca cb L : Nat} {w : World} (hx : InB w A a ca x) (hy : InB w B b cb y) (hL : a + b = L) (hl : L ≤ 140737488351500) :
    Calls Tryd.prog 27 #[.slice A a ca, .slice B b cb] w (MkN w L (x ++ y)) := by
  subst hL
  exact ref_join hx.1 hy.1 hx.2.2.1 hy.2.2.1 hl hx.2.2.2 hy.2.2.2
/-- the digest of a number and a message, in the reference -/
theorem ref_challenge {r : Int} {x : List UInt8} {A : Option Addr} {a c : Nat} {w : World} (h0 : 0 ≤ r) (h1 : r < 4294967296) (hx : InB w A a c x) (ht : TabR w) :
    Calls Tryd.prog 29 #[.int .i64 r, .slice A a c] w (GvZ w (chZ r x)) := by
  obtain ⟨m, hm⟩ : ∃ m, numL ((sumL (four r.toNat ++ x)).take 7) = m := ⟨_, rfl⟩
  have hmb : m < 72057594037927936 := by rw [← hm]; exact num7_lt (take7_sum _)
  have HZ := Lib.hid (show chZ r x = ((m % 1073741789 : Nat) : Int) from by unfold chZ dgZ dgN; rw [hm]; omega)
  obtain ⟨L, hL⟩ : ∃ L, 4 + a = L := ⟨_, rfl⟩
  have H := Lib.hid (show _ ∧ _ ∧ _ ∧ _ from ⟨hx, ht, hm, hL⟩)
  have HN := Lib.hid (show 0 ≤ r ∧ r < 4294967296 from ⟨h0, h1⟩)
  have hLb : L ≤ 140737488351500 := by have := hx.2.1; omega
  have HLL := Lib.hid (show (four r.toNat ++ x).length = L from by rw [List.length_append, four_len, hx.1, hL])
  clear hx ht hm hL h0 h1
  go_enter Tryd.func29, Tryd.ntmps29
  go_wp2_with (first
    | (go_at_call 28; ((with_reducible refine (ref_fourZ9 HN.out.1 HN.out.2).mono ?_); rintro e w1 ⟨A1, c1, rfl, i1, b1⟩); have H1 := Lib.hid (show _ ∧ _ from ⟨i1, b1⟩); clear i1 b1)
    | (go_at_call 27; ((with_reducible refine (ref_join9 H1.out.1 (H.out.1.on H1.out.2) H.out.2.2.2 hLb).mono ?_); rintro e w2 ⟨A2, c2, rfl, l2, n2, s2, b2⟩); have H2 := Lib.hid (show _ ∧ _ ∧ _ from ⟨s2, below_on H1.out.2 b2, n2⟩); clear l2 n2 s2 b2)
    | (go_at_call 26; ((with_reducible refine (ref_sumN HLL.out hLb H2.out.2.2 H2.out.1 (H.out.2.1.below H2.out.2.1)).mono ?_); rintro e w3 ⟨A3, c3, rfl, l3, n3, s3, b3⟩); have H3 := Lib.hid (show _ ∧ _ ∧ 7 ≤ c3 from ⟨s3, below_on H2.out.2.1 b3, by omega⟩); clear n3 s3 b3)
    | (go_at_call 25; ((with_reducible refine (ref_number7q (take7_sum _) H.out.2.2.1 H3.out.2.2 H3.out.1 hmb).mono ?_); rintro e w4 ⟨rfl, rfl⟩)))
  go_ret
  rw [HZ.out]
  exact ⟨rfl, H3.out.2.1⟩
theorem ref_small (n : Int) (w : World) : Calls Tryd.prog 36 #[.int .i64 n] w fun e w' => e = .returned (.bool (smB n)) ∧ w = w' := by
  by_cases h : 0 ≤ n
  · have d : decide (0 ≤ n) = true := by simpa using h
    have hv : smB n = decide (n < 1073741789) := by unfold smB; rw [d, Bool.true_and]
    rw [hv]; clear h hv
    go_enter Tryd.func36, Tryd.ntmps36
    go_wp2
    go_ret
    exact ⟨rfl, rfl⟩
  · have d : decide (0 ≤ n) = false := by simpa using h
    have hv : smB n = false := by unfold smB; rw [d, Bool.false_and]
    rw [hv]; clear h hv
    go_enter Tryd.func36, Tryd.ntmps36
    go_wp2
    go_ret
    exact ⟨rfl, rfl⟩
set_option maxHeartbeats 1000000 in
theorem ref_sign {k : Int} {x : List UInt8} {A : Option Addr} {a c : Nat} {w : World} (hx : InB w A a c x) (ht : TabR w) :
    Calls Tryd.prog 9 #[.int .i64 k, .slice A a c] w (GvS w (sgE k x) (sgS k x) (sgC k)) := by
  have se := fun w => ref_secret k w
  by_cases hk : secB k = true
  · obtain ⟨v1, v2, v3⟩ := sg_yes hk x
    rw [v1, v2, v3]
    rw [hk] at se
    obtain ⟨k1, k2⟩ := secB_yes hk
    obtain ⟨m, hm⟩ : ∃ m, numL ((sumL (four k.toNat ++ x)).take 7) = m := ⟨_, rfl⟩
    have hmb : m < 72057594037927936 := by rw [← hm]; exact num7_lt (take7_sum _)
    have hn := sgN_bd k x
    have HN := Lib.hid (show 1 + ((m % 1073741788 : Nat) : Int) = sgN k x from by unfold sgN dgZ dgN; rw [hm]; omega)
    obtain ⟨mm, hmm⟩ : ∃ mm, mm = m % 1073741788 := ⟨_, rfl⟩
    rw [← hmm] at HN
    have hmm2 : mm < 1073741788 := by omega
    generalize hnn : sgN k x = n at *
    have p1 := fun w => ref_pow 4 n w (by decide) (by decide) (by omega) (by omega)
    have hr := pwZ_bd 4 n
    generalize pwZ 4 n = r at *
    have hc := chZ_bd r x
    have c1 := fun (w : World) (hx : InB w A a c x) (ht : TabR w) => ref_challenge (r := r) (x := x) (A := A) (a := a) (c := c) (w := w) hr.1 (by omega) hx ht
    generalize chZ r x = ch at *
    have hp := prod_bd hc.1 hc.2 k1 k2
    obtain ⟨q, hq⟩ : ∃ q, ch * k = q := ⟨_, rfl⟩
    rw [hq] at hp
    rw [hq]
    have hw1 : wrap64 (ch * k) = q := by rw [hq]; exact IntWalk.wrap64_in _ (by omega)
    have HW := Lib.hid (show (wrap64 (n + wrap64 (ch * k))).tmod 1073741789 = (n + q) % 1073741789 from by
      rw [hw1, IntWalk.wrap64_in (n + q) (by omega), Int.tmod_eq_emod_of_nonneg (by omega)])
    clear hw1
    obtain ⟨L, hL⟩ : ∃ L, 4 + a = L := ⟨_, rfl⟩
    have hLb : L ≤ 140737488351500 := by have := hx.2.1; omega
    have HLL := Lib.hid (show (four k.toNat ++ x).length = L from by rw [List.length_append, four_len, hx.1, hL])
    have H := Lib.hid (show _ ∧ _ ∧ _ ∧ _ ∧ _ from ⟨hx, ht, p1, c1, se⟩)
    have HM := Lib.hid (show _ ∧ _ ∧ _ from ⟨hm, hL, hmm⟩)
    have HK := Lib.hid (show 0 ≤ k ∧ k < 4294967296 by omega)
    obtain ⟨n1, n2⟩ := hn
    obtain ⟨r1, r2⟩ := hr
    obtain ⟨h1, h2⟩ := hc
    obtain ⟨q1, q2⟩ := hp
    clear v1 v2 v3 hk hnn p1 c1 hq hx ht hm hL se hmm
    go_enter Tryd.func9, Tryd.ntmps9
    go_wp2_with (first
      | (refine wpList_alloc_v (op := ⟨some 4, _, _, _, _, _⟩) rfl 24 rfl [.int .i64 0, .int .i64 0] info_sg ?_; intro g1 w0 hf1 hr1; have H0 := Lib.hid (show Below w.heap.size w w0 ∧ w.heap.size ≤ g1 ∧ RowV w0 g1 _ from ⟨hf1.bw, hf1.ge (Below.refl _ _), hr1⟩); clear hf1 hr1)
      | (go_at_call 24; ((with_reducible refine (H.out.2.2.2.2 _).mono ?_); rintro en w' ⟨rfl, rfl⟩))
      | (go_at_call 28; ((with_reducible refine (ref_fourZ9 HK.out.1 HK.out.2).mono ?_); rintro e w1 ⟨A1, c1, rfl, i1, b1⟩); have H1 := Lib.hid (show _ ∧ _ ∧ RowV w1 g1 _ from ⟨i1, below_on H0.out.1 b1, H0.out.2.2.on b1⟩); clear i1 b1)
      | (go_at_call 27; ((with_reducible refine (ref_join9 H1.out.1 (H.out.1.on H1.out.2.1) HM.out.2.1 hLb).mono ?_); rintro e w2 ⟨A2, c2, rfl, l2, n2, s2, b2⟩); have H2 := Lib.hid (show _ ∧ _ ∧ _ ∧ RowV w2 g1 _ from ⟨s2, below_on H1.out.2.1 b2, n2, H1.out.2.2.on b2⟩); clear l2 n2 s2 b2)
      | (go_at_call 26; ((with_reducible refine (ref_sumN HLL.out hLb H2.out.2.2.1 H2.out.1 (H.out.2.1.below H2.out.2.1)).mono ?_); rintro e w3 ⟨A3, c3, rfl, l3, n3, s3, b3⟩); have H3 := Lib.hid (show _ ∧ _ ∧ 7 ≤ c3 ∧ RowV w3 g1 _ from ⟨s3, below_on H2.out.2.1 b3, by omega, H2.out.2.2.2.on b3⟩); clear n3 s3 b3)
      | (go_at_call 25; ((with_reducible refine (ref_number7 (take7_sum _) HM.out.1 H3.out.2.2.1 H3.out.1 hmb).mono ?_); rintro e w4 ⟨rfl, rfl⟩); rw [← HM.out.2.2])
      | (rw [HN.out]; go_at_call 30; ((with_reducible refine (H.out.2.2.1 _).mono ?_); rintro en w' ⟨rfl, rfl⟩))
      | (go_at_call 29; ((with_reducible refine (H.out.2.2.2.1 _ (H.out.1.on H3.out.2.1) (H.out.2.1.below H3.out.2.1)).mono ?_); rintro en w5 ⟨rfl, b3⟩); have H5 := Lib.hid (show Below w.heap.size w w5 ∧ RowV w5 g1 _ from ⟨below_on H3.out.2.1 b3, H3.out.2.2.2.on b3⟩); clear b3)
      | (refine wpList_store_v rfl 24 (.tmp 4) (.tmp 30) rfl g1 [.int .i64 0, .int .i64 0] [.int .i64 ch, .int .i64 ((wrap64 (n + wrap64 (ch * k))).tmod 1073741789)] rfl rfl H5.out.2 rfl (one2 _ _) size_sg ?_; intro w6 hw4 hr4; rw [HW.out] at hr4; have H6 := Lib.hid (show Below w.heap.size w w6 ∧ RowV w6 g1 _ from ⟨hw4.bl H5.out.1 H0.out.2.1, hr4⟩); clear hw4 hr4))
    exact bodyPost_ret (results_v1 rfl _ _ g1 [.int .i64 ch, .int .i64 ((n + q) % 1073741789)] _ rfl H6.out.2 Tryd.underlying24 rfl size_sg) rfl ⟨rfl, H6.out.1⟩
  · have hf : secB k = false := by simpa using hk
    obtain ⟨v1, v2, v3⟩ := sg_no hf x
    rw [v1, v2, v3]
    rw [hf] at se
    have HS := Lib.hid se
    clear v1 v2 v3 hk hf hx ht se
    go_enter Tryd.func9, Tryd.ntmps9
    go_wp2_with (first
      | (refine wpList_alloc_v (op := ⟨some 4, _, _, _, _, _⟩) rfl 24 rfl [.int .i64 0, .int .i64 0] info_sg ?_; intro g1 w1 hf1 hr1; have H1 := Lib.hid (show Below w.heap.size w w1 ∧ w.heap.size ≤ g1 ∧ RowV w1 g1 _ from ⟨hf1.bw, hf1.ge (Below.refl _ _), hr1⟩); clear hf1 hr1)
      | (go_at_call 24; ((with_reducible refine (HS.out _).mono ?_); rintro en w' ⟨rfl, rfl⟩))
      | (refine wpList_store_v rfl 24 (.tmp 4) (.tmp 11) rfl g1 [.int .i64 0, .int .i64 0] [.int .i64 0, .int .i64 0] rfl rfl H1.out.2.2 rfl (one2 _ _) size_sg ?_; intro w4 hw4 hr4; have H4 := Lib.hid (show Below w.heap.size w w4 ∧ RowV w4 g1 _ from ⟨hw4.bl H1.out.1 H1.out.2.1, hr4⟩); clear hw4 hr4))
    exact bodyPost_ret (results_v1 rfl _ _ g1 [.int .i64 0, .int .i64 0] _ rfl H4.out.2 Tryd.underlying24 rfl size_sg) rfl ⟨rfl, H4.out.1⟩
end Go.Proofs.YtaikoeoabgkglaaDoor
