/-
  What is proved here: what the program's mixed answers.
-/
import Derived.Test.YtipkaeeimohmpaaP3
namespace Go.Proofs.Ytipkaeeimohmpaa
open Go.RowKit
set_option linter.unusedVariables false

def MiR (w : World) (g0 g1 g2 : Nat) (b : List UInt8) (i : Nat) (wr : World) : Prop := w.heap.size ≤ g0 ∧ w.heap.size ≤ g2 ∧ g0 ≠ g2 ∧ g1 ≠ g2 ∧ Below w.heap.size w wr ∧ RowB wr g0 (List.replicate 16 0) ∧ RowB wr g1 b ∧ RowB wr g2 (mixL b i)
theorem MiR.drew {w wr : World} {g0 g1 g2 i : Nat} {b : List UInt8} (h : MiR w g0 g1 g2 b i wr) : MiR w g0 g1 g2 b i wr.drew := ⟨h.1, h.2.1, h.2.2.1, h.2.2.2.1, h.2.2.2.2.1.drew, h.2.2.2.2.2⟩
theorem MiR.drewN {w wr : World} {g0 g1 g2 i : Nat} {b : List UInt8} (h : MiR w g0 g1 g2 b i wr) (n : Nat) : MiR w g0 g1 g2 b i (wr.drewN n) := ⟨h.1, h.2.1, h.2.2.1, h.2.2.2.1, below_dn h.2.2.2.2.1 n, h.2.2.2.2.2⟩
theorem MiR.step {w wr : World} {g0 g1 g2 c r : Nat} {b : List UInt8} {s x y : UInt8} (h : MiR w g0 g1 g2 b (4 * c + r) wr) (hr : r < 4) (es : s = sumC b c) (ex : x = b.getD (4 * c + r) 0) (ey : y = b.getD (4 * c + (r + 1) % 4) 0) :
    MiR w g0 g1 g2 b (4 * c + (r + 1)) (wr.setCell ⟨g2, 4 * c + r, none⟩ (.int .u8 (((s ^^^ x) ^^^ dbl (x ^^^ y)).toNat : Int))) := by
  obtain ⟨a, d, f, i, j, p, q, t⟩ := h
  refine ⟨a, d, f, i, j.setCell d _, p.far f _, q.far i _, ?_⟩
  have := t.set (4 * c + r) (s ^^^ x ^^^ dbl (x ^^^ y))
  rw [← Nat.add_assoc, mixL, show (4 * c + r) / 4 = c by omega, show (4 * c + r) % 4 = r by omega, ← es, ← ex, ← ey]
  exact this
theorem dbl_x (x y : UInt8) (w : World) : Calls Try.prog 63 #[.int .u8 (bits .xor .u8 (x.toNat : Int) (y.toNat : Int))] w fun e w' => e = .returned (.int .u8 ((dbl (x ^^^ y)).toNat : Int)) ∧ w = w' := by
  rw [b_xor]
  exact prog_dbl _ w
theorem slice_q (g c q : Nat) (hc : c < 4) (hq : q = 16 - 4 * c) (w : World) : (Instr.sliceAt 65 (.pointer (some ⟨g, 0, none⟩)) (some (.int .i64 (4 * (c : Int)))) none none).run Try.prog w = .ok (.slice (some ⟨g, 4 * c, none⟩) q q) w := by
  subst hq
  have h := run_sliceAt_array_l (P := Try.prog) w 65 ⟨g, 0, none⟩ Try.underlying65 .i64 (4 * (c : Int)) (by omega) (by
    have : Try.prog.arrayLen 65 = 16 := by kernel_rfl
    rw [this]; omega)
  rw [h]
  have e1 : Try.prog.arrayLen 65 = 16 := by kernel_rfl
  have e2 : (sizeOf (Try.prog.elem 65)).run Try.prog w = .ok 1 w := by kernel_rfl
  rw [e2, e1]
  simp only [Result.andThen, slicedAt]
  have e3 : (4 * (c : Int)).toNat = 4 * c := by omega
  rw [e3, if_neg (by omega)]
  congr 3
  unfold Addr.add; split <;> simp_all
set_option maxRecDepth 40000 in
set_option maxHeartbeats 2000000 in
theorem prog_mix (b : List UInt8) (w : World) (hb : b.length = 16) :
    Calls Try.prog 59 #[.agg (Us b).toArray] w fun e w' => e = .returned (.agg (Us (mixL b 16)).toArray) ∧ Below w.heap.size w w' := by
  have HL := Lib.hid hb
  clear hb
  go_enter Try.func59, Try.ntmps59
  go_wp2_with (first
    | (refine wpList_box_b (op := ⟨some 1, _, _, _, _, _⟩) rfl 65 (.tmp 0) rfl b rfl ?_; intro g1 w1 hf1 hr1; have H1 := Lib.hid (And.intro hf1 hr1); clear hf1 hr1)
    | (refine wpList_alloc_b (op := ⟨some 2, _, _, _, _, _⟩) rfl 65 rfl 16 info_q ?_; intro g0 w2 hf0 hr0; have H0 := Lib.hid (And.intro hf0 hr0); clear hf0 hr0)
    | (refine wpList_alloc_b (op := ⟨some 3, _, _, _, _, _⟩) rfl 65 rfl 16 info_q ?_; intro g2 w3 hf2 hr2; have H2 := Lib.hid (And.intro hf2 hr2); clear hf2 hr2))
  have HI : Hid (MiR w g0 g1 g2 b (4 * 0) w3) := by
    have b1 := H1.out.1.bl (Below.refl w.heap.size w)
    have b2 := H0.out.1.bl b1
    exact Lib.hid ⟨H0.out.1.ge b1, H2.out.1.ge b2, H0.out.2.ne H2.out.1, (H1.out.2.fresh H0.out.1).ne H2.out.1, H2.out.1.bl b2, H0.out.2.fresh H2.out.1, (H1.out.2.fresh H0.out.1).fresh H2.out.1, H2.out.2⟩
  clear H0 H1 H2
  go_loopw [4, 5, 6, 7, 8, 9, 10, 32] (fun _ _ _ _ _ _ i _ wr => ∃ c : Nat, c ≤ 4 ∧ i = .int .i64 (c : Int) ∧ Hid (MiR w g0 g1 g2 b (4 * c) wr)) (fun _ _ _ _ _ _ i _ _ => 4 - (intOf i).toNat)
  case atStart => exact ⟨0, by decide, rfl, HI⟩
  case round =>
    clear HI
    obtain ⟨c, hc, rfl, HS⟩ := hrel
    by_cases h4 : c < 4
    · have y0 := HS.out.2.2.2.2.2.2.1.cell (k := 4 * c) (by rw [HL.out]; omega)
      have y1 := HS.out.2.2.2.2.2.2.1.cell (k := 4 * c + 1) (by rw [HL.out]; omega)
      have y2 := HS.out.2.2.2.2.2.2.1.cell (k := 4 * c + 2) (by rw [HL.out]; omega)
      have y3 := HS.out.2.2.2.2.2.2.1.cell (k := 4 * c + 3) (by rw [HL.out]; omega)
      have hcd : decide ((c : Int) < 4) = true := by simp; omega
      obtain ⟨v0, hv0⟩ : ∃ v, v = b.getD (4 * c) 0 := ⟨_, rfl⟩
      obtain ⟨v1, hv1⟩ : ∃ v, v = b.getD (4 * c + 1) 0 := ⟨_, rfl⟩
      obtain ⟨v2, hv2⟩ : ∃ v, v = b.getD (4 * c + 2) 0 := ⟨_, rfl⟩
      obtain ⟨v3, hv3⟩ : ∃ v, v = b.getD (4 * c + 3) 0 := ⟨_, rfl⟩
      rw [← hv0] at y0
      rw [← hv1] at y1
      rw [← hv2] at y2
      rw [← hv3] at y3
      have HV := Lib.hid (show sumC b c = v0 ^^^ v1 ^^^ v2 ^^^ v3 from by rw [hv0, hv1, hv2, hv3]; rfl)
      clear hv0 hv1 hv2 hv3
      obtain ⟨q, hq⟩ : ∃ q, q = 16 - 4 * c := ⟨_, rfl⟩
      have hsl := slice_q g1 c q h4 hq
      have hq4 : 4 ≤ q := by omega
      have hq5 : (4 : Int) ≤ (q : Int) := by omega
      have hq6 : q ≤ 16 := by omega
      clear hq
      go_wp2_with fail
      go_quiet (fail)
      go_wp2_with fail
      obtain ⟨t1, ht1⟩ : ∃ t, t = v0 ^^^ v1 := ⟨_, rfl⟩
      obtain ⟨t2, ht2⟩ : ∃ t, t = t1 ^^^ v2 := ⟨_, rfl⟩
      obtain ⟨s, hs⟩ : ∃ s, s = t2 ^^^ v3 := ⟨_, rfl⟩
      rw [b_xor, ← ht1, b_xor, ← ht2, b_xor, ← hs]
      have HS2 : Hid (MiR w g0 g1 g2 b (4 * c + 0) (wr.drewN nq)) := Lib.hid (HS.out.drewN nq)
      clear y0 y1 y2 y3 hsl HS
      generalize wr.drewN nq = wo at *
      have HV2 := Lib.hid (show s = sumC b c from by rw [HV.out, hs, ht2, ht1])
      clear hs HV ht1 ht2
      go_loopw [7, 8, 9, 32] (fun _ _ _ i wr => ∃ r : Nat, r ≤ 4 ∧ i = .int .i64 (r : Int) ∧ Hid (MiR w g0 g1 g2 b (4 * c + r) wr)) (fun _ _ _ i _ => 4 - (intOf i).toNat)
      case atStart => exact ⟨0, by decide, rfl, HS2⟩
      case round =>
        clear HS2
        obtain ⟨r, hr, rfl, HS⟩ := hrel
        by_cases hr4 : r < 4
        · obtain ⟨m, hm⟩ : ∃ m, m = (r + 1) % 4 := ⟨_, rfl⟩
          have hm4 : m < 4 := by omega
          obtain ⟨x, hx⟩ : ∃ x, x = b.getD (4 * c + r) 0 := ⟨_, rfl⟩
          obtain ⟨y, hy⟩ : ∃ y, y = b.getD (4 * c + m) 0 := ⟨_, rfl⟩
          have y1 := HS.out.2.2.2.2.2.2.1.cell (k := 4 * c + r) (by rw [HL.out]; omega)
          have y2 := HS.out.2.2.2.2.2.2.1.cell (k := 4 * c + m) (by rw [HL.out]; omega)
          rw [← hx] at y1
          rw [← hy] at y2
          have e1 : IntKind.i64.wrap ((r : Int) + 1) = (r : Int) + 1 := by rw [IntKind.wrap_i64]; omega
          have e2 : ((r : Int) + 1).tmod 4 = (m : Int) := by rw [Int.tmod_eq_emod_of_nonneg (by omega)]; omega
          have e3 : ((r : Int) + 1) % 4 = (m : Int) := by omega
          have e4 : IntKind.i64.wrap (m : Int) = (m : Int) := by rw [IntKind.wrap_i64]; omega
          have r1 : (0 : Int) ≤ (m : Int) ∧ (m : Int) < 4 := by omega
          have r2 : (m : Int) < 4 := by omega
          have r3 : (r : Int) < 4 := by omega
          have HM := Lib.hid (show _ ∧ _ ∧ _ from ⟨hm, hx, hy⟩)
          clear hm hx hy
          go_wp2_with fail
          go_quiet (fail)
          have HS3 : Hid (MiR w g0 g1 g2 b (4 * c + r) (wr.drewN nq)) := Lib.hid (HS.out.drewN nq)
          clear y1 y2 e1 e2 e3 e4 HS
          generalize wr.drewN nq = w4 at *
          have y3 := HS3.out.2.2.2.2.2.2.2.cell (k := 4 * c + r) (by rw [mixL_length]; omega)
          have yf := HS3.out.2.2.2.2.2.2.2.free (4 * c + r)
          have e5 : 4 * (c : Int) + (r : Int) < 16 := by omega
          go_wp2_with (go_at_call 63; (with_reducible refine (dbl_x _ _ _).mono ?_); rintro e w' ⟨rfl, rfl⟩)
          go_roundw
          case rel => exact ⟨r + 1, by omega, by go_num, Lib.hid (by rw [b_xor, b_xor]; exact HS3.out.step hr4 HV2.out HM.out.2.1 (by rw [← HM.out.1]; exact HM.out.2.2))⟩
          case measure => simp [intOf]; omega
        · obtain rfl : r = 4 := by omega
          go_wp2_with fail
          go_roundw
          case rel => exact ⟨c + 1, by omega, by go_num, HS⟩
          case measure => simp [intOf]; omega
    · obtain rfl : c = 4 := by omega
      clear h4 hc
      have HR := Lib.hid (show RowB wr g2 (mixL b 16) ∧ RowB wr g0 (List.replicate 16 0) ∧ Below w.heap.size w wr ∧ w.heap.size ≤ g0 from ⟨HS.out.2.2.2.2.2.2.2, HS.out.2.2.2.2.2.1, HS.out.2.2.2.2.1, HS.out.1⟩)
      clear HS
      go_wp2_with (first | (refine wpList_load_b rfl 65 (.tmp 3) rfl g2 0 rfl (mixL b 16) 16 5 HR.out.1.whole Try.underlying65 (by rw [mixL_length]; exact size_q) ?_) | (refine wpList_store_all rfl 65 (.tmp 2) (.tmp 60) rfl g0 (List.replicate 16 0) (mixL b 16) rfl rfl HR.out.2.1 (by rw [mixL_length]; exact (List.length_replicate ..).symm) (by rw [mixL_length]; exact size_q) ?_; intro w5 hw5 hr5; have HE := Lib.hid (And.intro hw5 hr5); clear hw5 hr5))
      exact bodyPost_ret (results_b rfl _ _ g0 (mixL b 16) 16 5 rfl HE.out.2 Try.underlying65 (by rw [mixL_length]; exact size_q)) rfl ⟨rfl, HE.out.1.bl HR.out.2.2.1 HR.out.2.2.2⟩

end Go.Proofs.Ytipkaeeimohmpaa
