/-
  What is proved here: what the program's expand answers.
-/
import Derived.Test.YtipkaeeimohmpaaP5
namespace Go.Proofs.Ytipkaeeimohmpaa
open Go.RowKit
set_option linter.unusedVariables false

theorem info_k : (Try.prog.info? 71).map (fun i => (i.zero, i.size)) = some (some (.agg (Us (List.replicate 176 0)).toArray), 176) := by kernel_rfl
theorem size_k : (Try.prog.info? 71).map (·.size) = some 176 := by kernel_rfl
theorem len16 {k : List UInt8} (h : k.length = 16) : ∃ a0 a1 a2 a3 a4 a5 a6 a7 a8 a9 a10 a11 a12 a13 a14 a15, k = [a0, a1, a2, a3, a4, a5, a6, a7, a8, a9, a10, a11, a12, a13, a14, a15] := by
  match k, h with
  | [a0, a1, a2, a3, a4, a5, a6, a7, a8, a9, a10, a11, a12, a13, a14, a15], _ => exact ⟨a0, a1, a2, a3, a4, a5, a6, a7, a8, a9, a10, a11, a12, a13, a14, a15, rfl⟩
theorem built_lit (a0 a1 a2 a3 a4 a5 a6 a7 a8 a9 a10 a11 a12 a13 a14 a15 : UInt8) : Try.prog.built 71 [(0, .agg (Us [a0, a1, a2, a3, a4, a5, a6, a7, a8, a9, a10, a11, a12, a13, a14, a15]).toArray)] = some (Us ([a0, a1, a2, a3, a4, a5, a6, a7, a8, a9, a10, a11, a12, a13, a14, a15] ++ List.replicate 160 0)).toArray := by kernel_rfl
theorem built_k (k : List UInt8) (h : k.length = 16) : Try.prog.built 71 [(0, .agg (Us k).toArray)] = some (Us (kyL k 0)).toArray := by
  obtain ⟨a0, a1, a2, a3, a4, a5, a6, a7, a8, a9, a10, a11, a12, a13, a14, a15, rfl⟩ := len16 h
  exact built_lit a0 a1 a2 a3 a4 a5 a6 a7 a8 a9 a10 a11 a12 a13 a14 a15
theorem wpList_build_b {P : Program} {ops : Array Oper} {rest : List Oper} {op : Oper} {a : Act} {w : World} {Q : Exit → Act → World → Prop} (hgd : op.guard = none) (ty : TypeId) (x : Operand) (ho : op.op = .build ty #[(0, x)]) (l l2 : List UInt8)
    (hx : a.eval x = .agg (Us l).toArray) (hb : P.built ty [(0, .agg (Us l).toArray)] = some (Us l2).toArray) (hK : wpList P ops Q rest (a.put op.dst (.agg (Us l2).toArray)) w) : wpList P ops Q (op :: rest) a w := by
  have e : (#[(0, x)].map fun (p : Nat × Operand) => (p.1, a.eval p.2)).toList = [(0, .agg (Us l).toArray)] := by simp [hx]
  refine wpList_build hgd ty #[(0, x)] ho ?_ ?_
  · rw [show ((#[(0, x)].map fun (i, y) => (i, a.eval y)).toList) = [(0, .agg (Us l).toArray)] from e, hb]; rfl
  · rw [show ((#[(0, x)].map fun (i, y) => (i, a.eval y)).toList) = [(0, .agg (Us l).toArray)] from e, hb]; exact hK

theorem kyL_length (k : List UInt8) (hk : k.length = 16) (n : Nat) (hn : n ≤ 10) : (kyL k n).length = 176 := by
  rw [kyL, List.length_append, rkA_length, List.length_replicate, hk]
  omega
theorem kyL_at (k : List UInt8) (hk : k.length = 16) (n : Nat) (hn : n ≤ 10) : ((kyL k n).drop (n * 16)).take 16 = rk k n := by
  have hl : (rkA k n).length = n * 16 := by rw [rkA_length, hk]
  have hr : (rk k n).length = 16 := by rw [rk_length, hk]
  rw [kyL, rkA, List.append_assoc, List.drop_append_of_le_length (by omega), List.drop_of_length_le (by omega), List.nil_append, List.take_append_of_le_length (by omega), List.take_of_length_le (by omega)]
theorem kyL_put (k : List UInt8) (hk : k.length = 16) (n : Nat) (hn : n < 10) : (kyL k n).take ((n + 1) * 16) ++ rk k (n + 1) ++ (kyL k n).drop ((n + 1) * 16 + (rk k (n + 1)).length) = kyL k (n + 1) := by
  have hl : (rkA k (n + 1)).length = (n + 1) * 16 := by rw [rkA_length, hk]
  have hr : (rk k (n + 1)).length = 16 := by rw [rk_length, hk]
  rw [hr, kyL, List.take_append_of_le_length (by omega), List.take_of_length_le (by omega), List.drop_append, List.drop_of_length_le (by omega), List.nil_append, hl, List.drop_replicate, kyL]
  rw [show rkA k (n + 1 + 1) = rkA k (n + 1) ++ rk k (n + 1) from rfl]
  have e : 160 - 16 * n - ((n + 1) * 16 + 16 - (n + 1) * 16) = 160 - 16 * (n + 1) := by omega
  rw [e]
def ExR (w : World) (g0 g1 : Nat) (k : List UInt8) (n : Nat) (wr : World) : Prop := w.heap.size ≤ g0 ∧ w.heap.size ≤ g1 ∧ g0 ≠ g1 ∧ Below w.heap.size w wr ∧ RowB wr g0 (List.replicate 176 0) ∧ RowB wr g1 (kyL k n)
theorem ExR.on {w w1 w2 : World} {g0 g1 n : Nat} {k : List UInt8} (h : ExR w g0 g1 k n w1) (hb : Below w1.heap.size w1 w2) : ExR w g0 g1 k n w2 :=
  ⟨h.1, h.2.1, h.2.2.1, below_on h.2.2.2.1 hb, h.2.2.2.2.1.on hb, h.2.2.2.2.2.on hb⟩
theorem ExR.step {w w1 w2 : World} {g0 g1 n : Nat} {k : List UInt8} (h : ExR w g0 g1 k n w1) (hw : Wr w1 w2 g1) (hr : RowB w2 g1 ((kyL k n).take ((n + 1) * 16) ++ rk k (n + 1) ++ (kyL k n).drop ((n + 1) * 16 + (rk k (n + 1)).length))) (hk : k.length = 16) (hn : n < 10) : ExR w g0 g1 k (n + 1) w2 := by
  obtain ⟨a, b, c, d, p, q⟩ := h
  rw [kyL_put k hk n hn] at hr
  exact ⟨a, b, c, hw.bl d b, p.wr hw c, hr⟩
theorem next_at (k : List UInt8) (n gt : Nat) (w : World) (hk : k.length = 16) (ht : TabAt w gt 0 sb) :
    Calls Try.prog 62 #[.agg (Us (rk k n)).toArray, .int .u8 ((rc n).toNat : Int), .pointer (some ⟨gt, 0, none⟩)] w fun e w' => e = .returned (.agg (Us (rk k (n + 1))).toArray) ∧ Below w.heap.size w w' :=
  prog_next (rk k n) (rc n) gt w (by rw [rk_length, hk]) ht
theorem dbl_rc (n : Nat) (w : World) : Calls Try.prog 63 #[.int .u8 ((rc n).toNat : Int)] w fun e w' => e = .returned (.int .u8 ((rc (n + 1)).toNat : Int)) ∧ w = w' := prog_dbl (rc n) w

theorem ky_len0 (k : List UInt8) (hk : k.length = 16) : (kyL k 0).length = (List.replicate 176 (0 : UInt8)).length := by
  rw [kyL_length k hk 0 (by decide)]
  exact (List.length_replicate ..).symm
theorem ky_size (k : List UInt8) (hk : k.length = 16) (n : Nat) (hn : n ≤ 10) : (Try.prog.info? 71).map (·.size) = some (kyL k n).length := by
  rw [kyL_length k hk n hn]
  exact size_k
theorem ky_fit (k : List UInt8) (hk : k.length = 16) (n : Nat) (hn : n < 10) : (n + 1) * 16 + (rk k (n + 1)).length ≤ (kyL k n).length := by
  rw [rk_length, hk, kyL_length k hk n (by omega)]
  omega
set_option maxRecDepth 40000 in
set_option maxHeartbeats 400000 in
theorem prog_exp (k : List UInt8) (gt : Nat) (w : World) (hk : k.length = 16) (ht : TabAt w gt 0 sb) :
    Calls Try.prog 55 #[.agg (Us k).toArray, .pointer (some ⟨gt, 0, none⟩)] w fun e w' => e = .returned (.agg (Us (kyL k 10)).toArray) ∧ Below w.heap.size w w' := by
  have HL := Lib.hid (And.intro hk ht)
  clear hk ht
  go_enter Try.func55, Try.ntmps55
  go_wp2_with (first
    | ((with_reducible refine wpList_box_b (op := ⟨some 2, _, _, _, _, _⟩) rfl 65 (.tmp 0) rfl k rfl ?_); intro g2 w1 hf1 hr1; have H1 := Lib.hid (And.intro hf1 hr1); clear hf1 hr1)
    | ((with_reducible refine wpList_alloc_b (op := ⟨some 4, _, _, _, _, _⟩) rfl 71 rfl 176 info_k ?_); intro g0 w2 hf0 hr0; have H0 := Lib.hid (And.intro hf0 hr0); clear hf0 hr0)
    | (with_reducible refine wpList_load_b (op := ⟨some 8, _, _, _, _, _⟩) rfl 65 (.tmp 2) rfl g2 0 rfl k 16 5 (H1.out.2.fresh H0.out.1).whole Try.underlying65 (by rw [HL.out.1]; exact size_q) ?_)
    | (with_reducible refine wpList_build_b (op := ⟨some 9, _, _, _, _, _⟩) rfl 71 (.tmp 8) rfl k (kyL k 0) rfl (built_k k HL.out.1) ?_)
    | ((with_reducible refine wpList_alloc_b (op := ⟨some 5, _, _, _, _, _⟩) rfl 71 rfl 176 info_k ?_); intro g1 w3 hf2 hr2; have H2 := Lib.hid (And.intro hf2 hr2); clear hf2 hr2)
    | ((with_reducible refine wpList_store_all (ty := 71) (x := .tmp 5) (y := .tmp 9) (g := g1) (l := List.replicate 176 0) (l2 := kyL k 0) rfl rfl rfl ?hy H2.out.2 (ky_len0 k HL.out.1) (ky_size k HL.out.1 0 (by decide)) ?_); (case hy => go_simp); intro w4 hw4 hr4; have H3 := Lib.hid (And.intro hw4 hr4); clear hw4 hr4))
  have HI : Hid (ExR w g0 g1 k 0 w4) := by
    have b1 := H1.out.1.bl (Below.refl w.heap.size w)
    have b2 := H0.out.1.bl b1
    have b3 := H2.out.1.bl b2
    exact Lib.hid ⟨H0.out.1.ge b1, H2.out.1.ge b2, H0.out.2.ne H2.out.1, H3.out.1.bl b3 (H2.out.1.ge b2), (H0.out.2.fresh H2.out.1).wr H3.out.1 (H0.out.2.ne H2.out.1), H3.out.2⟩
  clear H0 H1 H2 H3
  go_loopw [6, 7, 10] (fun c _ i wr => ∃ n : Nat, n ≤ 10 ∧ i = .int .i64 (n : Int) ∧ c = .int .u8 ((rc n).toNat : Int) ∧ Hid (ExR w g0 g1 k n wr)) (fun _ _ i _ => 10 - (intOf i).toNat)
  case atStart => exact ⟨0, by decide, rfl, rfl, HI⟩
  case round =>
    clear HI
    obtain ⟨n, hn, rfl, rfl, HS⟩ := hrel
    by_cases h10 : n < 10
    · have HG := Lib.hid (show wr.rangeAt g1 (n * 16) (Us (rk k n)) from by
        have := HS.out.2.2.2.2.2.range (n * 16) 16 (by rw [kyL_length k HL.out.1 n hn]; omega)
        rw [kyL_at k HL.out.1 n hn] at this
        exact this)
      have HTW := Lib.hid (show TabAt wr gt 0 sb from HL.out.2.on HS.out.2.2.2.1)
      have HRW := Lib.hid (show RowB wr g1 (kyL k n) from HS.out.2.2.2.2.2)
      go_wp2_with (first
        | (with_reducible refine wpList_load_b (op := ⟨some 17, _, _, _, _, _⟩) rfl 65 (.tmp 16) rfl g1 (n * 16) rfl (rk k n) 16 5 HG.out Try.underlying65 (by rw [rk_length, HL.out.1]; exact size_q) ?_)
        | (go_at_call 62; ((with_reducible refine (next_at k n gt _ HL.out.1 HTW.out).mono ?_); rintro e w5 ⟨rfl, hb5⟩); have HB := Lib.hid hb5; clear hb5)
        | (go_at_call 63; ((with_reducible refine (dbl_rc n _).mono ?_); rintro e w7 ⟨rfl, rfl⟩))
        | ((with_reducible refine wpList_store_b (ty := 65) (x := .tmp 21) (y := .tmp 20) (g := g1) (o := (n + 1) * 16) (l := kyL k n) (l2 := rk k (n + 1)) rfl rfl ?hx ?hy (HRW.out.on HB.out) (ky_fit k HL.out.1 n h10) (by rw [rk_length, HL.out.1]; exact size_q) ?_); (case hx => go_simp); (case hy => go_simp); intro w6 hw6 hr6; have HE := Lib.hid (And.intro hw6 hr6); clear hw6 hr6))
      have HN : Hid (ExR w g0 g1 k (n + 1) w6) := Lib.hid ((HS.out.on HB.out).step HE.out.1 HE.out.2 HL.out.1 h10)
      clear HE HB HRW HTW HG HS
      go_roundw
      case rel => exact ⟨n + 1, by omega, by go_num, rfl, HN⟩
      case measure => simp [intOf]; omega
    · obtain rfl : n = 10 := by omega
      clear h10 hn
      have HR := Lib.hid (show RowB wr g1 (kyL k 10) ∧ RowB wr g0 (List.replicate 176 0) ∧ Below w.heap.size w wr ∧ w.heap.size ≤ g0 from ⟨HS.out.2.2.2.2.2, HS.out.2.2.2.2.1, HS.out.2.2.2.1, HS.out.1⟩)
      clear HS
      go_wp2_with (first | (refine wpList_load_b rfl 71 (.tmp 5) rfl g1 0 rfl (kyL k 10) 11 65 HR.out.1.whole Try.underlying71 (by rw [kyL_length k HL.out.1 10 (by decide)]; exact size_k) ?_) | (refine wpList_store_all rfl 71 (.tmp 4) (.tmp 25) rfl g0 (List.replicate 176 0) (kyL k 10) rfl rfl HR.out.2.1 (by rw [kyL_length k HL.out.1 10 (by decide)]; exact (List.length_replicate ..).symm) (by rw [kyL_length k HL.out.1 10 (by decide)]; exact size_k) ?_; intro w5 hw5 hr5; have HE := Lib.hid (And.intro hw5 hr5); clear hw5 hr5))
      exact bodyPost_ret (results_b rfl _ _ g0 (kyL k 10) 11 65 rfl HE.out.2 Try.underlying71 (by rw [kyL_length k HL.out.1 10 (by decide)]; exact size_k)) rfl ⟨rfl, HE.out.1.bl HR.out.2.2.1 HR.out.2.2.2⟩

end Go.Proofs.Ytipkaeeimohmpaa
