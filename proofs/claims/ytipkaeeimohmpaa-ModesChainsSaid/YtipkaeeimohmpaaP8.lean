/-
  What is proved here: what the program's decrypt answers.
-/
import Derived.Test.YtipkaeeimohmpaaP7
namespace Go.Proofs.Ytipkaeeimohmpaa
open Go.RowKit
set_option linter.unusedVariables false

def EnB (w : World) (g0 g2 g3 g5 gb : Nat) (k b : List UInt8) (wr : World) : Prop := w.heap.size ≤ g0 ∧ w.heap.size ≤ g3 ∧ g0 ≠ g3 ∧ gb ≠ g3 ∧ Below w.heap.size w wr ∧ RowB wr g0 (List.replicate 16 0) ∧ RowB wr g2 k ∧ RowB wr g3 b ∧ RowB wr g5 sb ∧ RowB wr gb isb
theorem EnB.kw {w wr : World} {g0 g2 g3 g5 gb : Nat} {k b : List UInt8} (h : EnB w g0 g2 g3 g5 gb k b wr) : wr.rangeAt g2 0 (Us k) := h.2.2.2.2.2.2.1.whole
theorem EnB.t {w wr : World} {g0 g2 g3 g5 gb : Nat} {k b : List UInt8} (h : EnB w g0 g2 g3 g5 gb k b wr) : TabAt wr g5 0 sb := h.2.2.2.2.2.2.2.2.1.tab sb_length
theorem en_b {w w6 w7 w8 w9 : World} {g0 g2 g3 g5 gb : Nat} {k b : List UInt8} (HA : EnA w g0 g2 g3 g5 k b w6) (hb7 : Below w6.heap.size w6 w7) (H8 : Fresh w7 w8 gb ∧ RowB w8 gb (List.replicate 256 0)) (H9 : Wr w8 w9 gb ∧ RowB w9 gb isb) : EnB w g0 g2 g3 g5 gb k b w9 := by
  obtain ⟨c1, c2, c3, c4, a, q0, q2, q3, q5⟩ := HA
  have a7 := below_on a hb7
  have q0' := q0.on hb7
  have q2' := q2.on hb7
  have q3' := q3.on hb7
  have q5' := q5.on hb7
  exact ⟨c1, c2, c3, (q3'.ne H8.1).symm, H9.1.bl (H8.1.bl a7) (H8.1.ge a7), (q0'.fresh H8.1).wr H9.1 (q0'.ne H8.1), (q2'.fresh H8.1).wr H9.1 (q2'.ne H8.1), (q3'.fresh H8.1).wr H9.1 (q3'.ne H8.1), (q5'.fresh H8.1).wr H9.1 (q5'.ne H8.1), H9.2⟩
def DeR (w : World) (g0 g3 gb g6 : Nat) (k x : List UInt8) (wr : World) : Prop := w.heap.size ≤ g0 ∧ w.heap.size ≤ g3 ∧ g0 ≠ g3 ∧ gb ≠ g3 ∧ g6 ≠ g3 ∧ Below w.heap.size w wr ∧ RowB wr g0 (List.replicate 16 0) ∧ RowB wr g3 x ∧ RowB wr gb isb ∧ RowB wr g6 (kyL k 10)
section
variable {w w1 w2 : World} {g0 g3 gb g6 : Nat} {k x : List UInt8}
theorem DeR.on (h : DeR w g0 g3 gb g6 k x w1) (hb : Below w1.heap.size w1 w2) : DeR w g0 g3 gb g6 k x w2 := by
  obtain ⟨a, b, c, d, e, f, p, q, r, s⟩ := h
  exact ⟨a, b, c, d, e, below_on f hb, p.on hb, q.on hb, r.on hb, s.on hb⟩
theorem DeR.drew (h : DeR w g0 g3 gb g6 k x w1) : DeR w g0 g3 gb g6 k x w1.drew := by
  obtain ⟨a, b, c, d, e, f, p⟩ := h
  exact ⟨a, b, c, d, e, f.drew, p⟩
theorem DeR.put {y : List UInt8} (h : DeR w g0 g3 gb g6 k x w1) (hw : Wr w1 w2 g3 ∧ RowB w2 g3 y) : DeR w g0 g3 gb g6 k y w2 := by
  obtain ⟨a, b, c, d, e, f, p, q, r, s⟩ := h
  exact ⟨a, b, c, d, e, hw.1.bl f b, p.wr hw.1 c, hw.2, r.wr hw.1 d, s.wr hw.1 e⟩
theorem DeR.cur (h : DeR w g0 g3 gb g6 k x w1) : RowB w1 g3 x := h.2.2.2.2.2.2.2.1
theorem DeR.t (h : DeR w g0 g3 gb g6 k x w1) : TabAt w1 gb 0 isb := h.2.2.2.2.2.2.2.2.1.tab isb_length
theorem DeR.ks (h : DeR w g0 g3 gb g6 k x w1) : RowB w1 g6 (kyL k 10) := h.2.2.2.2.2.2.2.2.2
theorem DeR.zero (h : DeR w g0 g3 gb g6 k x w1) : RowB w1 g0 (List.replicate 16 0) := h.2.2.2.2.2.2.1
end
theorem de_e {w w6 w7 w8 w9 : World} {g0 g2 g3 g5 gb g6 : Nat} {k b : List UInt8} (HA : EnB w g0 g2 g3 g5 gb k b w6) (hb7 : Below w6.heap.size w6 w7) (H8 : Fresh w7 w8 g6 ∧ RowB w8 g6 (List.replicate 176 0)) (H9 : Wr w8 w9 g6 ∧ RowB w9 g6 (kyL k 10)) : DeR w g0 g3 gb g6 k b w9 := by
  obtain ⟨c1, c2, c3, c4, a, q0, q2, q3, q5, qb⟩ := HA
  have a7 := below_on a hb7
  have q0' := q0.on hb7
  have q3' := q3.on hb7
  have qb' := qb.on hb7
  exact ⟨c1, c2, c3, c4, (q3'.ne H8.1).symm, H9.1.bl (H8.1.bl a7) (H8.1.ge a7), (q0'.fresh H8.1).wr H9.1 (q0'.ne H8.1), (q3'.fresh H8.1).wr H9.1 (q3'.ne H8.1), (qb'.fresh H8.1).wr H9.1 (qb'.ne H8.1), H9.2⟩
theorem key10 {w : World} {g : Nat} {k : List UInt8} (h : RowB w g (kyL k 10)) (hk : k.length = 16) : w.rangeAt g 160 (Us (rk k 10)) := key_range h hk 10 (by decide)
theorem add_len0 (x r : List UInt8) (hx : x.length = 16) : (addL x r 16).length = (List.replicate 16 (0 : UInt8)).length := by
  rw [addL_length, hx]
  exact (List.length_replicate ..).symm
theorem itab_len : isb.length = (List.replicate 256 (0 : UInt8)).length := by
  rw [isb_length]
  exact (List.length_replicate ..).symm
theorem isub_len16 (x : List UInt8) (hx : x.length = 16) : (subL isb x 16).length = 16 := by rw [subL_length, hx]
theorem isub_len (y x : List UInt8) (hy : y.length = 16) (hx : x.length = 16) : (subL isb y 16).length = x.length := by rw [subL_length, hy, hx]
/-- mixed j times -/
def mxN (y : List UInt8) : Nat → List UInt8
  | 0 => y
  | j + 1 => mixL (mxN y j) 16
theorem mxN_length (y : List UInt8) (hy : y.length = 16) : ∀ j, (mxN y j).length = 16
  | 0 => hy
  | j + 1 => mixL_length _ _
theorem mxN_three (y : List UInt8) : mxN y 3 = m3 y := rfl

set_option maxRecDepth 40000 in
set_option maxHeartbeats 1000000 in
theorem prog_dec (k b : List UInt8) (w : World) (hk : k.length = 16) (hb : b.length = 16) :
    Calls Try.prog 51 #[.agg (Us k).toArray, .agg (Us b).toArray] w fun e w' => e = .returned (.agg (Us (decL k b)).toArray) ∧ Below w.heap.size w w' := by
  obtain ⟨q, hq⟩ : ∃ q, q = rk k 10 := ⟨_, rfl⟩
  obtain ⟨x0, hx0⟩ : ∃ x, x = subL isb (rotL (addL b q 16) 3 16) 16 := ⟨_, rfl⟩
  have HL := Lib.hid (And.intro hk hb)
  have HQL := Lib.hid (show q.length = 16 by rw [hq]; exact rk_len16 k hk 10)
  have H0L := Lib.hid (show x0 = dR k b 0 by rw [hx0, hq, dR])
  have HXE := Lib.hid hx0.symm
  have HQE := Lib.hid hq
  clear hk hb hq hx0
  go_enter Try.func51, Try.ntmps51
  go_wp2_with (first
    | ((with_reducible refine wpList_box_b (op := ⟨some 2, _, _, _, _, _⟩) rfl 65 (.tmp 0) rfl k rfl ?_); intro g2 w1 hf hr; have H2 := Lib.hid (And.intro hf hr); clear hf hr)
    | ((with_reducible refine wpList_box_b (op := ⟨some 3, _, _, _, _, _⟩) rfl 65 (.tmp 1) rfl b rfl ?_); intro g3 w2 hf hr; have H3 := Lib.hid (And.intro hf hr); clear hf hr)
    | ((with_reducible refine wpList_alloc_b (op := ⟨some 4, _, _, _, _, _⟩) rfl 65 rfl 16 info_q ?_); intro g0 w3 hf hr; have H0 := Lib.hid (And.intro hf hr); clear hf hr)
    | (go_at_call 53; ((with_reducible refine (prog_subs _).mono ?_); rintro e w4 ⟨rfl, hb⟩); have HB4 := Lib.hid hb; clear hb)
    | ((with_reducible refine wpList_alloc_b (op := ⟨some 5, _, _, _, _, _⟩) rfl 67 rfl 256 info_t ?_); intro g5 w5 hf hr; have H5 := Lib.hid (And.intro hf hr); clear hf hr)
    | ((with_reducible refine wpList_store_all (ty := 67) (x := .tmp 5) (y := .tmp 9) (g := g5) (l := List.replicate 256 0) (l2 := sb) rfl rfl ?hx ?hy H5.out.2 tab_len (sz_t sb_length) ?_); (case hx => go_simp); (case hy => go_simp); intro w6 hw hr; have H6 := Lib.hid (And.intro hw hr); clear hw hr; have HA := Lib.hid (en_a H2.out H3.out H0.out HB4.out H5.out H6.out); clear H2 H3 H0 HB4 H5 H6; have HT := Lib.hid HA.out.t)
    | (go_at_call 54; ((with_reducible refine (prog_rev g5 _ HT.out).mono ?_); rintro e wa ⟨rfl, hb⟩); have HBa := Lib.hid hb; clear hb)
    | ((with_reducible refine wpList_alloc_b (op := ⟨some 6, _, _, _, _, _⟩) rfl 67 rfl 256 info_t ?_); intro gb wb hf hr; have Hb := Lib.hid (And.intro hf hr); clear hf hr)
    | ((with_reducible refine wpList_store_all (ty := 67) (x := .tmp 6) (y := .tmp 10) (g := gb) (l := List.replicate 256 0) (l2 := isb) rfl rfl ?hx ?hy Hb.out.2 itab_len (sz_t isb_length) ?_); (case hx => go_simp); (case hy => go_simp); intro wc hw hr; have Hc := Lib.hid (And.intro hw hr); clear hw hr; have HB := Lib.hid (en_b HA.out HBa.out Hb.out Hc.out); clear HA HT HBa Hb Hc; have HK := Lib.hid HB.out.kw; have HT := Lib.hid HB.out.t)
    | (with_reducible refine wpList_load_b (op := ⟨some 11, _, _, _, _, _⟩) rfl 65 (.tmp 2) rfl g2 (0) rfl (k) 16 5 HK.out Try.underlying65 (sz_q HL.out.1) ?_)
    | (go_at_call 55; ((with_reducible refine (prog_exp k g5 _ HL.out.1 HT.out).mono ?_); rintro e w7 ⟨rfl, hb⟩); have HB7 := Lib.hid hb; clear hb)
    | ((with_reducible refine wpList_alloc_b (op := ⟨some 7, _, _, _, _, _⟩) rfl 71 rfl 176 info_k ?_); intro g6 w8 hf hr; have H8 := Lib.hid (And.intro hf hr); clear hf hr)
    | ((with_reducible refine wpList_store_all (ty := 71) (x := .tmp 7) (y := .tmp 12) (g := g6) (l := List.replicate 176 0) (l2 := kyL k 10) rfl rfl ?hx ?hy H8.out.2 (ky_len10 k HL.out.1) (ky_size k HL.out.1 10 (by decide)) ?_); (case hx => go_simp); (case hy => go_simp); intro w9 hw hr; have H9 := Lib.hid (And.intro hw hr); clear hw hr; have HE := Lib.hid (de_e HB.out HB7.out H8.out H9.out); clear HB HK HT HB7 H8 H9; have HX := Lib.hid HE.out.cur; have HXW := Lib.hid HE.out.cur.whole; have HK0 := Lib.hid (key10 HE.out.ks HL.out.1); have HT := Lib.hid HE.out.t)
    | (with_reducible refine wpList_load_b (op := ⟨some 13, _, _, _, _, _⟩) rfl 65 (.tmp 3) rfl g3 (0) rfl (b) 16 5 HXW.out Try.underlying65 (sz_q HL.out.2) ?_)
    | (rw [← HQE.out] at HK0; with_reducible refine wpList_load_b (op := ⟨some 15, _, _, _, _, _⟩) rfl 65 (.tmp 14) rfl g6 160 rfl q 16 5 HK0.out Try.underlying65 (sz_q HQL.out) ?_)
    | (go_at_call 58; ((with_reducible refine (prog_add b q _ HL.out.2 HQL.out).mono ?_); rintro e w10 ⟨rfl, hb⟩); have HB10 := Lib.hid hb; clear hb)
    | (go_at_call 57; ((with_reducible refine (prog_rot3 (addL b q 16) _ (add_len16 b _ HL.out.2)).mono ?_); rintro e w11 ⟨rfl, hb⟩); have HB11 := Lib.hid hb; clear hb)
    | (go_at_call 56; ((with_reducible refine (prog_sub isb (rotL (addL b q 16) 3 16) gb _ (rotL_length _ _ _) ((HT.out.on HB10.out).on HB11.out)).mono ?_); rintro e w12 ⟨rfl, hb⟩); have HB12 := Lib.hid hb; clear hb)
    | ((with_reducible refine wpList_store_all (ty := 65) (x := .tmp 3) (y := .tmp 18) (g := g3) (l := b) (l2 := subL isb (rotL (addL b q 16) 3 16) 16) rfl rfl ?hx ?hy (((HX.out.on HB10.out).on HB11.out).on HB12.out) (isub_len _ b (rotL_length _ _ _) HL.out.2) (sz_q (isub_len16 _ (rotL_length _ _ _))) ?_); (case hx => go_simp); (case hy => go_simp); intro w13 hw hr; have H13 := Lib.hid (And.intro hw hr); clear hw hr))
  have HI : Hid (DeR w g0 g3 gb g6 k (dR k b 0) w13) := Lib.hid (by
    have := (((HE.out.on HB10.out).on HB11.out).on HB12.out).put H13.out
    rw [HXE.out, H0L.out] at this
    exact this)
  clear HE HX HXW HK0 HT HB10 HB11 HB12 H13 HXE H0L HQE HQL
  go_loopw [8, 28] (fun i _ wr => ∃ n : Nat, n ≤ 9 ∧ i = .int .i64 (9 - (n : Int)) ∧ Hid (DeR w g0 g3 gb g6 k (dR k b n) wr)) (fun i _ _ => (intOf i).toNat)
  case atStart => exact ⟨0, by decide, rfl, HI⟩
  case round =>
    clear HI
    obtain ⟨n, hn, rfl, HS⟩ := hrel
    by_cases h9 : n < 9
    · obtain ⟨x, hx⟩ : ∃ x, x = dR k b n := ⟨_, rfl⟩
      obtain ⟨r, hr⟩ : ∃ r, r = rk k (9 - n) := ⟨_, rfl⟩
      have HXL := Lib.hid (show x.length = 16 by rw [hx]; exact dR_length k b n)
      have HRL := Lib.hid (show r.length = 16 by rw [hr]; exact rk_len16 k HL.out.1 _)
      rw [← hx] at HS
      obtain ⟨m, hm⟩ : ∃ m, m = 9 - n := ⟨_, rfl⟩
      have em : 9 - (n : Int) = (m : Int) := by omega
      have hm0 : 0 < m := by omega
      have hm1 : m ≤ 9 := by omega
      rw [em]
      have HXW := Lib.hid (show wr.drew.rangeAt g3 0 (Us x) from HS.out.drew.cur.whole)
      have HKW := Lib.hid (show wr.drew.rangeAt g6 (m * 16) (Us r) from by rw [hr, hm]; exact key_range HS.out.drew.ks HL.out.1 (9 - n) (by omega))
      have HX := Lib.hid (show RowB wr.drew g3 x from HS.out.drew.cur)
      have HV := Lib.hid (show _ ∧ _ ∧ _ from ⟨hx, hr, em⟩)
      clear hx hr em hm
      have hd : decide ((0 : Int) < (m : Int)) = true := by simp; omega
      have HS3 := Lib.hid HS.out.drew
      go_wp2_with fail
      have r1 : (0 : Int) ≤ (m : Int) ∧ (m : Int) < 11 := by omega
      refine wp_region_still_tail 4 (by kernel_rfl) (by kernel_rfl) ?_
      simp only [List.take_succ_cons, List.take_zero, List.drop_succ_cons, List.drop_zero]
      refine still_load_b rfl 65 (.tmp 3) rfl g3 0 rfl x 16 5 HXW.out Try.underlying65 (sz_q HXL.out) ?_
      still_step
      still_step
      refine still_load_b rfl 65 (.tmp 25) rfl g6 (m * 16) rfl r 16 5 HKW.out Try.underlying65 (sz_q HRL.out) ?_
      refine wpStill_nil ?_
      change wpList _ _ _ _ _ wr.drew
      clear HXW HKW HS r1
      generalize wr.drew = w8 at *
      go_wp2_with (first
        | (go_at_call 58; ((with_reducible refine (prog_add x r _ HXL.out HRL.out).mono ?_); rintro e w9 ⟨rfl, hb⟩); have HB9 := Lib.hid hb; clear hb)
        | ((with_reducible refine wpList_store_all (ty := 65) (x := .tmp 3) (y := .tmp 27) (g := g3) (l := x) (l2 := addL x r 16) rfl rfl ?hx ?hy (HX.out.on HB9.out) (addL_length _ _ _) (sz_q (add_len16 x _ HXL.out)) ?_); (case hx => go_simp); (case hy => go_simp); intro w10 hw hr; have H10 := Lib.hid (And.intro hw hr); clear hw hr))
      obtain ⟨y, hy⟩ : ∃ y, y = addL x r 16 := ⟨_, rfl⟩
      have HYL := Lib.hid (show y.length = 16 by rw [hy]; exact add_len16 x _ HXL.out)
      have HY := Lib.hid hy
      have HN : Hid (DeR w g0 g3 gb g6 k (mxN y 0) w10) := Lib.hid (by
        have := (HS3.out.on HB9.out).put H10.out
        rw [← hy] at this
        exact this)
      rw [← hy]
      clear HX HS3 HB9 H10 hy
      go_loopw [28] (fun i wr => ∃ j : Nat, j ≤ 3 ∧ i = .int .i64 (j : Int) ∧ Hid (DeR w g0 g3 gb g6 k (mxN y j) wr)) (fun i _ => 3 - (intOf i).toNat)
      case atStart => exact ⟨0, by decide, rfl, HN⟩
      case round =>
        clear HN
        obtain ⟨j, hj, rfl, HS⟩ := hrel
        by_cases h3 : j < 3
        · obtain ⟨z, hz⟩ : ∃ z, z = mxN y j := ⟨_, rfl⟩
          have HZL := Lib.hid (show z.length = 16 by rw [hz]; exact mxN_length y HYL.out j)
          rw [← hz] at HS
          have HZ := Lib.hid hz
          clear hz
          have HX := Lib.hid HS.out.cur
          have HXW := Lib.hid HS.out.cur.whole
          go_wp2_with (first
            | (with_reducible refine wpList_load_b (op := ⟨some 30, _, _, _, _, _⟩) rfl 65 (.tmp 3) rfl g3 (0) rfl (z) 16 5 HXW.out Try.underlying65 (sz_q HZL.out) ?_)
            | (go_at_call 59; ((with_reducible refine (prog_mix z _ HZL.out).mono ?_); rintro e w4 ⟨rfl, hb⟩); have HB4 := Lib.hid hb; clear hb)
            | ((with_reducible refine wpList_store_all (ty := 65) (x := .tmp 3) (y := .tmp 31) (g := g3) (l := z) (l2 := mixL z 16) rfl rfl ?hx ?hy (HX.out.on HB4.out) (mix_len _ z HZL.out) (sz_q (mixL_length _ _)) ?_); (case hx => go_simp); (case hy => go_simp); intro w5 hw hr; have H5 := Lib.hid (And.intro hw hr); clear hw hr))
          have HN : Hid (DeR w g0 g3 gb g6 k (mxN y (j + 1)) w5) := Lib.hid (by
            have := (HS.out.on HB4.out).put H5.out
            rw [HZ.out] at this
            exact this)
          clear HX HXW HB4 H5 HS HZ
          go_roundw
          case rel => exact ⟨j + 1, by omega, by go_num, HN⟩
          case measure => simp [intOf]; omega
        · obtain rfl : j = 3 := by omega
          clear h3 hj
          obtain ⟨z, hz⟩ : ∃ z, z = mxN y 3 := ⟨_, rfl⟩
          have HZL := Lib.hid (show z.length = 16 by rw [hz]; exact mxN_length y HYL.out 3)
          rw [← hz] at HS
          have HZ := Lib.hid hz
          clear hz
          have HX := Lib.hid HS.out.cur
          have HXW := Lib.hid HS.out.cur.whole
          have HT := Lib.hid HS.out.t
          have e8 : (m : Int) - 1 = ((m - 1 : Nat) : Int) := by omega
          go_wp2_with (first
            | (with_reducible refine wpList_load_b (op := ⟨some 33, _, _, _, _, _⟩) rfl 65 (.tmp 3) rfl g3 (0) rfl (z) 16 5 HXW.out Try.underlying65 (sz_q HZL.out) ?_)
            | (go_at_call 57; ((with_reducible refine (prog_rot3 z _ HZL.out).mono ?_); rintro e w4 ⟨rfl, hb⟩); have HB4 := Lib.hid hb; clear hb)
            | (go_at_call 56; ((with_reducible refine (prog_sub isb (rotL z 3 16) gb _ (rotL_length _ _ _) (HT.out.on HB4.out)).mono ?_); rintro e w5 ⟨rfl, hb⟩); have HB5 := Lib.hid hb; clear hb)
            | ((with_reducible refine wpList_store_all (ty := 65) (x := .tmp 3) (y := .tmp 35) (g := g3) (l := z) (l2 := subL isb (rotL z 3 16) 16) rfl rfl ?hx ?hy ((HX.out.on HB4.out).on HB5.out) (isub_len _ z (rotL_length _ _ _) HZL.out) (sz_q (isub_len16 _ (rotL_length _ _ _))) ?_); (case hx => go_simp); (case hy => go_simp); intro w6 hw hr; have H6 := Lib.hid (And.intro hw hr); clear hw hr))
          have HN : Hid (DeR w g0 g3 gb g6 k (dR k b (n + 1)) w6) := Lib.hid (by
            have := ((HS.out.on HB4.out).on HB5.out).put H6.out
            rw [HZ.out, mxN_three, HY.out, HV.out.1, HV.out.2.1] at this
            exact this)
          clear HX HXW HT HB4 HB5 H6 HS HZ
          go_roundw
          case rel => exact ⟨n + 1, by omega, by have := HV.out.2.2; rw [show (9 : Int) - ((n + 1 : Nat) : Int) = (m : Int) - 1 by omega]; first | rfl | rw [e8], HN⟩
          case measure => simp [intOf]; omega
    · obtain rfl : n = 9 := by omega
      clear h9 hn
      obtain ⟨x, hx⟩ : ∃ x, x = dR k b 9 := ⟨_, rfl⟩
      obtain ⟨r, hr⟩ : ∃ r, r = rk k 0 := ⟨_, rfl⟩
      have HXL := Lib.hid (show x.length = 16 by rw [hx]; exact dR_length k b 9)
      have HRL := Lib.hid (show r.length = 16 by rw [hr]; exact rk_len16 k HL.out.1 _)
      rw [← hx] at HS
      have HXW := Lib.hid HS.out.cur.whole
      have HKW := Lib.hid (show wr.rangeAt g6 0 (Us r) from by rw [hr]; exact key0 HS.out.ks HL.out.1)
      have HR0 := Lib.hid HS.out.zero
      have HV := Lib.hid (And.intro hx hr)
      clear hx hr
      rw [show (9 : Int) - ((9 : Nat) : Int) = 0 from rfl]
      go_wp2_with (first
        | (with_reducible refine wpList_load_b (op := ⟨some 36, _, _, _, _, _⟩) rfl 65 (.tmp 3) rfl g3 (0) rfl (x) 16 5 HXW.out Try.underlying65 (sz_q HXL.out) ?_)
        | (with_reducible refine wpList_load_b (op := ⟨some 38, _, _, _, _, _⟩) rfl 65 (.tmp 37) rfl g6 (0) rfl (r) 16 5 HKW.out Try.underlying65 (sz_q HRL.out) ?_)
        | (go_at_call 58; ((with_reducible refine (prog_add x r _ HXL.out HRL.out).mono ?_); rintro e w9 ⟨rfl, hb⟩); have HB9 := Lib.hid hb; clear hb)
        | ((with_reducible refine wpList_store_all (ty := 65) (x := .tmp 4) (y := .tmp 39) (g := g0) (l := List.replicate 16 0) (l2 := addL x r 16) rfl rfl ?hx ?hy (HR0.out.on HB9.out) (add_len0 x r HXL.out) (sz_q (add_len16 x _ HXL.out)) ?_); (case hx => go_simp); (case hy => go_simp); intro w10 hw hr; have H10 := Lib.hid (And.intro hw hr); clear hw hr))
      have HZ := Lib.hid (show RowB w10 g0 (decL k b) from by rw [decL, ← HV.out.1, ← HV.out.2]; exact H10.out.2)
      have HB := Lib.hid (H10.out.1.bl (HS.out.on HB9.out).2.2.2.2.2.1 HS.out.1)
      exact bodyPost_ret (results_b rfl _ _ g0 (decL k b) 16 5 rfl HZ.out Try.underlying65 (sz_q (decL_length k b))) rfl ⟨rfl, HB.out⟩

end Go.Proofs.Ytipkaeeimohmpaa
