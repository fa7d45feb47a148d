/-
  What is proved here: what the program's substitutes and reversed answer.
-/
import Derived.Test.YtipkaeeimohmpaaP1
namespace Go.Proofs.Ytipkaeeimohmpaa
open Go.RowKit
set_option linter.unusedVariables false

theorem b_or (x y : UInt8) : bits .or .u8 (x.toNat : Int) (y.toNat : Int) = ((x ||| y).toNat : Int) := by
  rw [u8_or_nat _ _ x.toNat_lt y.toNat_lt, UInt8.toNat_or]
theorem b_shr (x : UInt8) (n : Nat) (h : n < 8) : (x.toNat : Int) / 2 ^ n = ((x >>> UInt8.ofNat n).toNat : Int) := by
  rw [UInt8.toNat_shiftRight, UInt8.toNat_ofNat', Nat.mod_eq_of_lt (a := n) (by omega), Nat.mod_eq_of_lt (a := n) (by omega), Nat.shiftRight_eq_div_pow]
  norm_cast
theorem b_shl (x : UInt8) (n : Nat) (h : n < 8) : (x.toNat : Int) * 2 ^ n % 256 = ((x <<< UInt8.ofNat n).toNat : Int) := by
  rw [UInt8.toNat_shiftLeft, UInt8.toNat_ofNat', Nat.mod_eq_of_lt (a := n) (by omega), Nat.mod_eq_of_lt (a := n) (by omega), Nat.shiftLeft_eq]
  have e : ∀ a : Nat, ((a % 2 ^ 8 : Nat) : Int) = (a : Int) % 256 := fun a => by omega
  rw [e, Int.natCast_mul, Int.natCast_pow]
  rfl
theorem and7 : ∀ n : Fin 8, 1 ≤ n.val → bits .and .u64 (IntKind.u64.wrap (-(n.val : Int))) 7 = ((8 - n.val : Nat) : Int) := by decide +kernel
theorem rot_left8 (x : UInt8) (n : Nat) (h1 : 1 ≤ n) (h2 : n ≤ 7) (w : World) :
    Calls Try.prog 61 #[.int .u8 (x.toNat : Int), .int .i64 (-(n : Int))] w fun e w' => e = .returned (.int .u8 ((rot8 x n).toNat : Int)) ∧ w' = w := by
  obtain ⟨m, hm⟩ : ∃ m, m = 8 - n := ⟨_, rfl⟩
  have e : bits .and .u64 (IntKind.u64.wrap (-(n : Int))) 7 = (m : Int) := by
    rw [hm]
    exact and7 ⟨n, by omega⟩ h1
  have b1 : m ≤ 7 := by omega
  have b2 : 1 ≤ m := by omega
  have e3 : 8 - m = n := by omega
  have E := Lib.hid (And.intro hm e3)
  clear hm e3
  go_enter Try.func61, Try.ntmps61
  go_wp2
  rw [b_shl x m (by omega), E.out.2, b_shr x n (by omega), b_or]
  go_ret
  refine ⟨?_, rfl⟩
  have e4 : (x <<< UInt8.ofNat m ||| x >>> UInt8.ofNat n) = rot8 x n := by
    unfold rot8
    rw [E.out.1, UInt8.or_comm]
  rw [← e4]
  rfl

theorem rot_left8z (x : UInt8) (z : Int) (h : 1 ≤ z ∧ z ≤ 7) (w : World) :
    Calls Try.prog 61 #[.int .u8 (x.toNat : Int), .int .i64 (-z)] w fun e w' => e = .returned (.int .u8 ((rot8 x z.toNat).toNat : Int)) ∧ w' = w := by
  obtain ⟨n, rfl⟩ := Int.eq_ofNat_of_zero_le (show 0 ≤ z by omega)
  exact rot_left8 x n (by omega) (by omega) w

theorem mixR_succ (b : UInt8) (j : Nat) : mixR b (j + 1) = mixR b j ^^^ rot8 b (j + 4) := rfl
theorem mixR_zero (b : UInt8) : mixR b 0 = b := rfl
def SbR (w : World) (g0 g1 k j : Nat) (wr : World) : Prop := w.heap.size ≤ g0 ∧ w.heap.size ≤ g1 ∧ g0 ≠ g1 ∧ Below w.heap.size w wr ∧ RowB wr g0 (List.replicate 256 0) ∧ RowB wr g1 ((sbL k).set k (mixR ((ivL 255).getD k 0) j))
theorem SbR.drew {w wr : World} {g0 g1 k j : Nat} (h : SbR w g0 g1 k j wr) : SbR w g0 g1 k j wr.drew := ⟨h.1, h.2.1, h.2.2.1, h.2.2.2.1.drew, h.2.2.2.2⟩
theorem sb_len (k j : Nat) (x : UInt8) : ((sbL k).set j x).length = 256 := by rw [List.length_set, sbL_length]
theorem sb_at (k : Nat) (x : UInt8) (h : k < 256) : ((sbL k).set k x).getD k 0 = x := by
  rw [List.getD, List.getElem?_set_self (by rw [sbL_length]; exact h)]
  rfl
theorem sb_put (k : Nat) : (sbL k).set k ((ivL 255).getD k 0) = sbL k := by
  rw [← sbL_get k k (Nat.le_refl _)]
  rcases Nat.lt_or_ge k (sbL k).length with h | h
  · rw [getD_b h, List.set_getElem_self]
  · rw [List.set_eq_of_length_le h]
theorem SbR.step {w wr : World} {g0 g1 k j : Nat} (h : SbR w g0 g1 k j wr) : SbR w g0 g1 k (j + 1) (wr.setCell ⟨g1, k, none⟩ (.int .u8 (bits .xor .u8 ((mixR ((ivL 255).getD k 0) j).toNat : Int) ((rot8 ((ivL 255).getD k 0) (j + 4)).toNat : Int)))) := by
  obtain ⟨a, b, c, d, p, q⟩ := h
  refine ⟨a, b, c, d.setCell b _, p.far c _, ?_⟩
  generalize (ivL 255).getD k 0 = iv at q ⊢
  rw [b_xor, ← mixR_succ]
  have := q.set k (mixR iv (j + 1))
  rw [List.set_set] at this
  exact this
theorem SbR.step' {w wr : World} {g0 g1 k j : Nat} {b : UInt8} (h : SbR w g0 g1 k j wr) (e : b = (ivL 255).getD k 0) : SbR w g0 g1 k (j + 1) (wr.setCell ⟨g1, k, none⟩ (.int .u8 (bits .xor .u8 ((mixR b j).toNat : Int) ((rot8 b ((j : Int) + 4).toNat).toNat : Int)))) := by
  rw [show ((j : Int) + 4).toNat = j + 4 by omega, e]
  exact h.step
theorem SbR.next {w wr : World} {g0 g1 k : Nat} (h : SbR w g0 g1 k 4 wr) : SbR w g0 g1 (k + 1) 0 (wr.setCell ⟨g1, k, none⟩ (.int .u8 (bits .xor .u8 ((mixR ((ivL 255).getD k 0) 4).toNat : Int) 99))) := by
  obtain ⟨a, b, c, d, p, q⟩ := h
  refine ⟨a, b, c, d.setCell b _, p.far c _, ?_⟩
  rw [show (99 : Int) = ((99 : UInt8).toNat : Int) from rfl, b_xor, mixR_zero, sb_put, sbL]
  generalize (ivL 255).getD k 0 = iv at q ⊢
  have := q.set k (mixR iv 4 ^^^ 99)
  rw [List.set_set] at this
  exact this

set_option maxRecDepth 40000 in
set_option maxHeartbeats 2000000 in
theorem prog_subs (w : World) : Calls Try.prog 53 #[] w fun e w' => e = .returned (.agg (Us sb).toArray) ∧ Below w.heap.size w w' := by
  go_enter Try.func53, Try.ntmps53
  go_wp2_with (first
    | (refine wpList_alloc_b (op := ⟨some 0, _, _, _, _, _⟩) rfl 67 rfl 256 info_t ?_; intro g0 w1 hf0 hr0; have H0 := Lib.hid (And.intro hf0 hr0); clear hf0 hr0)
    | (go_at_call 60; (with_reducible refine (prog_inverses _).mono ?_); rintro e w2 ⟨rfl, hb2⟩; have H1 := Lib.hid hb2; clear hb2)
    | (refine wpList_alloc_b (op := ⟨some 1, _, _, _, _, _⟩) rfl 67 rfl 256 info_t ?_; intro g1 w3 hf1 hr1; have H2 := Lib.hid (And.intro hf1 hr1); clear hf1 hr1)
    | (refine wpList_store_all rfl 67 (.tmp 1) (.tmp 5) rfl g1 (List.replicate 256 0) (ivL 255) rfl rfl H2.out.2 (by rw [ivL_length]; exact (List.length_replicate ..).symm) (by rw [ivL_length]; exact size_t) ?_; intro w4 hw4 hr4; have H3 := Lib.hid (And.intro hw4 hr4); clear hw4 hr4))
  have HI : Hid (SbR w g0 g1 0 0 w4) := by
    have b1 := H0.out.1.bl (Below.refl w.heap.size w)
    have b2 := below_on b1 H1.out
    have b3 := H2.out.1.bl b2
    have r0 := (H0.out.2.on H1.out)
    refine Lib.hid ⟨H0.out.1.ge (Below.refl _ _), H2.out.1.ge b2, r0.ne H2.out.1, H3.out.1.bl b3 (H2.out.1.ge b2), (r0.fresh H2.out.1).wr H3.out.1 (r0.ne H2.out.1), ?_⟩
    rw [mixR_zero, sb_put]
    exact H3.out.2
  clear H0 H1 H2 H3
  go_loopw [2, 3, 4, 6] (fun _ _ _ i wr => ∃ k : Nat, k ≤ 256 ∧ i = .int .i64 (k : Int) ∧ Hid (SbR w g0 g1 k 0 wr)) (fun _ _ _ i _ => 256 - (intOf i).toNat)
  case atStart => exact ⟨0, by decide, rfl, HI⟩
  case round =>
    clear HI
    obtain ⟨k, hk, rfl, HS⟩ := hrel
    by_cases h256 : k < 256
    · obtain ⟨b, hb⟩ : ∃ b, b = (ivL 255).getD k 0 := ⟨_, rfl⟩
      have y1 := HS.out.2.2.2.2.2.cell (k := k) (by rw [sb_len]; exact h256)
      rw [sb_at k _ h256, mixR_zero, ← hb] at y1
      have r1 : (k : Int) < 256 := by omega
      have HB := Lib.hid hb
      clear hb
      go_wp2_with fail
      obtain ⟨wo, hwo⟩ : ∃ wo : World, wo = wr := ⟨_, rfl⟩
      rw [← hwo] at HS y1 ⊢
      clear hwo wr y1
      go_loopw [4] (fun i wr => ∃ j : Nat, j ≤ 4 ∧ i = .int .i64 ((j : Int) + 4) ∧ Hid (SbR w g0 g1 k j wr)) (fun i _ => 8 - (intOf i).toNat)
      case atStart => exact ⟨0, by decide, rfl, HS⟩
      case round =>
        clear HS
        obtain ⟨j, hj, rfl, HS⟩ := hrel
        by_cases h4 : j < 4
        · have y1 := HS.out.2.2.2.2.2.cell (k := k) (by rw [sb_len]; exact h256)
          rw [sb_at k _ h256, ← HB.out] at y1
          have yf := HS.out.2.2.2.2.2.free k
          go_wp2_with fail
          have e1 : IntKind.i64.wrap (-((j : Int) + 4)) = -((j : Int) + 4) := by rw [IntKind.wrap_i64]; omega
          go_still_tail 9, (by kernel_rfl)
          still_call (rot_left8z _ _ (by omega) _)
          repeat still_step
          refine wpStill_nil ?_
          change wpList _ _ _ _ _ wr.drew
          have y1' : wr.drew.cell? _ = _ := y1
          have yf' : wr.drew.frozen? _ = _ := yf
          have HS2 : Hid (SbR w g0 g1 k j wr.drew) := Lib.hid HS.out.drew
          clear HS y1 yf e1
          generalize wr.drew = w4 at *
          go_wp2_with fail
          go_roundw
          case rel => exact ⟨j + 1, by omega, by go_num, Lib.hid (HS2.out.step' HB.out)⟩
          case measure => simp [intOf]; omega
        · obtain rfl : j = 4 := by omega
          have y1 := HS.out.2.2.2.2.2.cell (k := k) (by rw [sb_len]; exact h256)
          rw [sb_at k _ h256] at y1
          have yf := HS.out.2.2.2.2.2.free k
          clear h4 hj
          go_wp2_with fail
          go_roundw
          case rel => exact ⟨k + 1, by omega, by go_num, Lib.hid HS.out.next⟩
          case measure => simp [intOf]; omega
    · obtain rfl : k = 256 := by omega
      clear h256 hk
      have HR := Lib.hid (show RowB wr g1 (sb) ∧ RowB wr g0 (List.replicate 256 0) ∧ Below w.heap.size w wr ∧ w.heap.size ≤ g0 from ⟨by have := HS.out.2.2.2.2.2; rw [mixR_zero, sb_put, sb_all] at this; exact this, HS.out.2.2.2.2.1, HS.out.2.2.2.1, HS.out.1⟩)
      clear HS
      go_wp2_with (first | (refine wpList_load_b rfl 67 (.tmp 1) rfl g1 0 rfl (sb) 256 5 HR.out.1.whole Try.underlying67 (by rw [sb_length]; exact size_t) ?_) | (refine wpList_store_all rfl 67 (.tmp 0) (.tmp 31) rfl g0 (List.replicate 256 0) (sb) rfl rfl HR.out.2.1 (by rw [sb_length]; exact (List.length_replicate ..).symm) (by rw [sb_length]; exact size_t) ?_; intro w5 hw5 hr5; have HE := Lib.hid (And.intro hw5 hr5); clear hw5 hr5))
      exact bodyPost_ret (results_b rfl _ _ g0 (sb) 256 5 rfl HE.out.2 Try.underlying67 (by rw [sb_length]; exact size_t)) rfl ⟨rfl, HE.out.1.bl HR.out.2.2.1 HR.out.2.2.2⟩

def RvR (w : World) (g0 g1 gt k : Nat) (wr : World) : Prop := w.heap.size ≤ g0 ∧ w.heap.size ≤ g1 ∧ g0 ≠ g1 ∧ Below w.heap.size w wr ∧ RowB wr g0 (List.replicate 256 0) ∧ RowB wr g1 (rvL k)
/-- the substitutes lie in memory -/
def TabAt (w : World) (g o : Nat) (t : List UInt8) : Prop := g < w.heap.size ∧ ∀ j, j < 256 → w.cell? ⟨g, o + j, none⟩ = some (.int .u8 ((t.getD j 0).toNat : Int))
theorem TabAt.on {w wr : World} {g o : Nat} {t : List UInt8} (h : TabAt w g o t) (hb : Below w.heap.size w wr) : TabAt wr g o t :=
  ⟨Nat.lt_of_lt_of_le h.1 hb.size, fun j hj => (hb.cell (p := ⟨g, o + j, none⟩) h.1).trans (h.2 j hj)⟩
theorem RowB.tab {w : World} {g : Nat} {t : List UInt8} (h : RowB w g t) (hl : t.length = 256) : TabAt w g 0 t :=
  ⟨h.lt, fun j hj => by rw [Nat.zero_add]; exact h.cell (by omega)⟩
theorem rv_step {w wr : World} {g0 g1 gt k : Nat} {v : UInt8} (h : RvR w g0 g1 gt k wr) (e : v = sb.getD k 0) (hk : k < 256) : RvR w g0 g1 gt (k + 1) (wr.setCell ⟨g1, v.toNat, none⟩ (.int .u8 (k : Int))) := by
  obtain ⟨a, b, c, d, p, q⟩ := h
  refine ⟨a, b, c, d.setCell b _, p.far c _, ?_⟩
  have := q.set v.toNat (UInt8.ofNat k)
  rw [show ((UInt8.ofNat k).toNat : Int) = (k : Int) by rw [UInt8.toNat_ofNat']; omega] at this
  rw [e] at this ⊢
  exact this
set_option maxRecDepth 40000 in
set_option maxHeartbeats 2000000 in
theorem prog_rev (gt : Nat) (w : World) (ht : TabAt w gt 0 sb) : Calls Try.prog 54 #[.pointer (some ⟨gt, 0, none⟩)] w fun e w' => e = .returned (.agg (Us isb).toArray) ∧ Below w.heap.size w w' := by
  have HT := Lib.hid ht
  clear ht
  go_enter Try.func54, Try.ntmps54
  go_wp2_with (first
    | (refine wpList_alloc_b (op := ⟨some 2, _, _, _, _, _⟩) rfl 67 rfl 256 info_t ?_; intro g0 w1 hf0 hr0; have H0 := Lib.hid (And.intro hf0 hr0); clear hf0 hr0)
    | (refine wpList_alloc_b (op := ⟨some 3, _, _, _, _, _⟩) rfl 67 rfl 256 info_t ?_; intro g1 w3 hf1 hr1; have H2 := Lib.hid (And.intro hf1 hr1); clear hf1 hr1))
  have HI : Hid (RvR w g0 g1 gt 0 w3) := by
    have b1 := H0.out.1.bl (Below.refl w.heap.size w)
    exact Lib.hid ⟨H0.out.1.ge (Below.refl _ _), H2.out.1.ge b1, H0.out.2.ne H2.out.1, H2.out.1.bl b1, H0.out.2.fresh H2.out.1, H2.out.2⟩
  clear H0 H2
  go_loopw [4, 5] (fun _ i wr => ∃ k : Nat, k ≤ 256 ∧ i = .int .i64 (k : Int) ∧ Hid (RvR w g0 g1 gt k wr)) (fun _ i _ => 256 - (intOf i).toNat)
  case atStart => exact ⟨0, by decide, rfl, HI⟩
  case round =>
    clear HI
    obtain ⟨k, hk, rfl, HS⟩ := hrel
    by_cases h256 : k < 256
    · obtain ⟨v, hv⟩ : ∃ v, v = sb.getD k 0 := ⟨_, rfl⟩
      have hvl := v.toNat_lt
      have y1 := (HT.out.on HS.out.2.2.2.1).2 k h256
      rw [← hv, Nat.zero_add] at y1
      have y3 := HS.out.2.2.2.2.2.cell (k := v.toNat) (by rw [rvL_length]; exact hvl)
      have yf := HS.out.2.2.2.2.2.free v.toNat
      have r4 : (v.toNat : Int) < 256 := by omega
      have HV := Lib.hid hv
      clear hv
      go_wp2_with fail
      go_roundw
      case rel => exact ⟨k + 1, by omega, by go_num, Lib.hid (rv_step HS.out HV.out h256)⟩
      case measure => simp [intOf]; omega
    · obtain rfl : k = 256 := by omega
      clear h256 hk
      have HR := Lib.hid (show RowB wr g1 (isb) ∧ RowB wr g0 (List.replicate 256 0) ∧ Below w.heap.size w wr ∧ w.heap.size ≤ g0 from ⟨by have := HS.out.2.2.2.2.2; rw [rv_all] at this; exact this, HS.out.2.2.2.2.1, HS.out.2.2.2.1, HS.out.1⟩)
      clear HS
      go_wp2_with (first | (refine wpList_load_b rfl 67 (.tmp 3) rfl g1 0 rfl (isb) 256 5 HR.out.1.whole Try.underlying67 (by rw [isb_length]; exact size_t) ?_) | (refine wpList_store_all rfl 67 (.tmp 2) (.tmp 17) rfl g0 (List.replicate 256 0) (isb) rfl rfl HR.out.2.1 (by rw [isb_length]; exact (List.length_replicate ..).symm) (by rw [isb_length]; exact size_t) ?_; intro w5 hw5 hr5; have HE := Lib.hid (And.intro hw5 hr5); clear hw5 hr5))
      exact bodyPost_ret (results_b rfl _ _ g0 (isb) 256 5 rfl HE.out.2 Try.underlying67 (by rw [isb_length]; exact size_t)) rfl ⟨rfl, HE.out.1.bl HR.out.2.2.1 HR.out.2.2.2⟩

end Go.Proofs.Ytipkaeeimohmpaa
