/-
  What is proved here: what the program's encrypt answers.
-/
import Derived.Test.YtipkaeeimohmpaaP6
import Derived.Deep.RegionHeld3
namespace Go.Proofs.Ytipkaeeimohmpaa
open Go.RowKit
set_option linter.unusedVariables false

theorem Wr.refl (w : World) (g : Nat) : Wr w w g := ⟨rfl, rfl, rfl, rfl, fun _ _ => rfl⟩
theorem Wr.trans {w w1 w2 : World} {g : Nat} (h : Wr w w1 g) (k : Wr w1 w2 g) : Wr w w2 g :=
  ⟨k.1.trans h.1, k.2.1.trans h.2.1, k.2.2.1.trans h.2.2.1, k.2.2.2.1.trans h.2.2.2.1, fun j hj => (k.2.2.2.2 j hj).trans (h.2.2.2.2 j hj)⟩
theorem Wr.cells (g : Nat) : ∀ (vs : List Value) (o : Nat) (w : World), Wr w (w.setCells g o vs) g
  | [], _, w => Wr.refl w g
  | v :: r, o, w => (Wr.cell w ⟨g, o, none⟩ v).trans (Wr.cells g r (o + 1) _)
theorem set_cells (g : Nat) : ∀ (l2 : List UInt8) (o : Nat) (l : List UInt8) (w : World), RowB w g l → o + l2.length ≤ l.length → RowB (w.setCells g o (Us l2)) g (l.take o ++ l2 ++ l.drop (o + l2.length))
  | [], o, l, w, h, hl => by
    have e : l.take o ++ [] ++ l.drop (o + ([] : List UInt8).length) = l := by simp
    rw [e]; exact h
  | v :: r, o, l, w, h, hl => by
    simp only [List.length_cons] at hl
    have h1 := set_cells g r (o + 1) (l.set o v) _ (h.set o v) (by rw [List.length_set]; omega)
    have e : (l.set o v).take (o + 1) ++ r ++ (l.set o v).drop (o + 1 + r.length) = l.take o ++ (v :: r) ++ l.drop (o + (v :: r).length) := by
      have ea : l.set o v = (l.take o ++ [v]) ++ l.drop (o + 1) := by
        rw [List.set_eq_take_append_cons_drop, if_pos (by omega)]
        simp
      have hA : (l.take o ++ [v]).length = o + 1 := by
        rw [List.length_append, List.length_take, List.length_singleton]
        omega
      have e2 : ((l.take o ++ [v]) ++ l.drop (o + 1)).drop (o + 1 + r.length) = l.drop (o + (r.length + 1)) := by
        rw [← List.drop_drop, List.drop_left' hA, List.drop_drop]
        congr 1
        omega
      rw [ea, List.take_left' hA, e2]
      simp
    rw [e] at h1
    exact h1
theorem RowB.setCells {w : World} {g : Nat} {l l2 : List UInt8} (h : RowB w g l) (hl : l2.length = l.length) : RowB (w.setCells g 0 (Us l2)) g l2 := by
  have h1 := set_cells g l2 0 l w h (by omega)
  have e : l.take 0 ++ l2 ++ l.drop (0 + l2.length) = l2 := by
    rw [List.drop_of_length_le (by omega)]
    simp
  rw [e] at h1
  exact h1
theorem RowB.there {w : World} {g : Nat} {l : List UInt8} (h : RowB w g l) : w.there g 0 l.length := fun j hj => by
  rw [Nat.zero_add]
  exact ⟨by rw [h.cell hj]; rfl, h.free j⟩
theorem tab_len : sb.length = (List.replicate 256 (0 : UInt8)).length := by
  rw [sb_length]
  exact (List.length_replicate ..).symm
theorem ky_len10 (k : List UInt8) (hk : k.length = 16) : (kyL k 10).length = (List.replicate 176 (0 : UInt8)).length := by
  rw [kyL_length k hk 10 (by decide)]
  exact (List.length_replicate ..).symm
theorem rk_len16 (k : List UInt8) (hk : k.length = 16) (n : Nat) : (rk k n).length = 16 := by rw [rk_length, hk]
theorem add_len16 (x y : List UInt8) (hx : x.length = 16) : (addL x y 16).length = 16 := by rw [addL_length, hx]
theorem mix_len (y x : List UInt8) (hx : x.length = 16) : (mixL y 16).length = x.length := by rw [mixL_length, hx]
theorem sub_len16 (x : List UInt8) (hx : x.length = 16) : (subL sb x 16).length = 16 := by rw [subL_length, hx]
theorem rkA_split (k : List UInt8) (n : Nat) : ∀ m, ∃ l, rkA k (n + 1 + m) = rkA k (n + 1) ++ l
  | 0 => ⟨[], by simp⟩
  | m + 1 => by
    obtain ⟨l, e⟩ := rkA_split k n m
    exact ⟨l ++ rk k (n + 1 + m), by rw [← Nat.add_assoc, rkA, e, List.append_assoc]⟩
theorem ky_all (k : List UInt8) (hk : k.length = 16) (n : Nat) (hn : n < 10) : ((kyL k 10).drop (n * 16)).take 16 = rk k n := by
  have hl : (rkA k n).length = n * 16 := by rw [rkA_length, hk]
  have hr : (rk k n).length = 16 := by rw [rk_length, hk]
  obtain ⟨l, e⟩ := rkA_split k n (10 - n)
  rw [show n + 1 + (10 - n) = 10 + 1 by omega] at e
  rw [kyL, e, rkA, List.append_assoc, List.append_assoc, List.drop_append_of_le_length (by omega), List.drop_of_length_le (by omega), List.nil_append, List.take_append_of_le_length (by omega), List.take_of_length_le (by omega)]
theorem range_on {w w' : World} {g o : Nat} {cs : List Value} (h : w.rangeAt g o cs) (hb : Below w.heap.size w w') : w'.rangeAt g o cs := fun j v hv => by
  have h1 := h j v hv
  exact (hb.cell (p := ⟨g, o + j, none⟩) (World.block_lt_of_cell? w _ h1)).trans h1
theorem sz_q {l : List UInt8} (h : l.length = 16) : (Try.prog.info? 65).map (·.size) = some l.length := by rw [h]; exact size_q
theorem sz_t {l : List UInt8} (h : l.length = 256) : (Try.prog.info? 67).map (·.size) = some l.length := by rw [h]; exact size_t
theorem key_range {w : World} {g : Nat} {k : List UInt8} (h : RowB w g (kyL k 10)) (hk : k.length = 16) (n : Nat) (hn : n ≤ 10) : w.rangeAt g (n * 16) (Us (rk k n)) := by
  have := h.range (n * 16) 16 (by rw [kyL_length k hk 10 (by decide)]; omega)
  have e : ((kyL k 10).drop (n * 16)).take 16 = rk k n := by
    rcases Nat.lt_or_ge n 10 with h10 | h10
    · exact ky_all k hk n h10
    · obtain rfl : n = 10 := by omega
      exact kyL_at k hk 10 (by decide)
  rw [e] at this
  exact this
def EnR (w : World) (g0 g3 g5 g6 : Nat) (k x : List UInt8) (wr : World) : Prop := w.heap.size ≤ g0 ∧ w.heap.size ≤ g3 ∧ g0 ≠ g3 ∧ g5 ≠ g3 ∧ g6 ≠ g3 ∧ Below w.heap.size w wr ∧ RowB wr g0 (List.replicate 16 0) ∧ RowB wr g3 x ∧ RowB wr g5 sb ∧ RowB wr g6 (kyL k 10)
section
variable {w w1 w2 : World} {g0 g3 g5 g6 : Nat} {k x : List UInt8}
theorem EnR.on (h : EnR w g0 g3 g5 g6 k x w1) (hb : Below w1.heap.size w1 w2) : EnR w g0 g3 g5 g6 k x w2 := by
  obtain ⟨a, b, c, d, e, f, p, q, r, s⟩ := h
  exact ⟨a, b, c, d, e, below_on f hb, p.on hb, q.on hb, r.on hb, s.on hb⟩
theorem EnR.drew (h : EnR w g0 g3 g5 g6 k x w1) : EnR w g0 g3 g5 g6 k x w1.drew := by
  obtain ⟨a, b, c, d, e, f, p⟩ := h
  exact ⟨a, b, c, d, e, f.drew, p⟩
theorem EnR.put {y : List UInt8} (h : EnR w g0 g3 g5 g6 k x w1) (hw : Wr w1 w2 g3 ∧ RowB w2 g3 y) : EnR w g0 g3 g5 g6 k y w2 := by
  obtain ⟨a, b, c, d, e, f, p, q, r, s⟩ := h
  exact ⟨a, b, c, d, e, hw.1.bl f b, p.wr hw.1 c, hw.2, r.wr hw.1 d, s.wr hw.1 e⟩
theorem EnR.cur (h : EnR w g0 g3 g5 g6 k x w1) : RowB w1 g3 x := h.2.2.2.2.2.2.2.1
theorem EnR.whole (h : EnR w g0 g3 g5 g6 k x w1) : w1.rangeAt g3 0 (Us x) := h.cur.whole
theorem EnR.t (h : EnR w g0 g3 g5 g6 k x w1) : TabAt w1 g5 0 sb := h.2.2.2.2.2.2.2.2.1.tab sb_length
theorem EnR.ks (h : EnR w g0 g3 g5 g6 k x w1) : RowB w1 g6 (kyL k 10) := h.2.2.2.2.2.2.2.2.2
end
def EnA (w : World) (g0 g2 g3 g5 : Nat) (k b : List UInt8) (wr : World) : Prop := w.heap.size ≤ g0 ∧ w.heap.size ≤ g3 ∧ g0 ≠ g3 ∧ g5 ≠ g3 ∧ Below w.heap.size w wr ∧ RowB wr g0 (List.replicate 16 0) ∧ RowB wr g2 k ∧ RowB wr g3 b ∧ RowB wr g5 sb
theorem EnA.kw {w wr : World} {g0 g2 g3 g5 : Nat} {k b : List UInt8} (h : EnA w g0 g2 g3 g5 k b wr) : wr.rangeAt g2 0 (Us k) := h.2.2.2.2.2.2.1.whole
theorem EnA.t {w wr : World} {g0 g2 g3 g5 : Nat} {k b : List UInt8} (h : EnA w g0 g2 g3 g5 k b wr) : TabAt wr g5 0 sb := h.2.2.2.2.2.2.2.2.tab sb_length
theorem en_a {w w1 w2 w3 w4 w5 w6 : World} {g0 g2 g3 g5 : Nat} {k b : List UInt8} (H2 : Fresh w w1 g2 ∧ RowB w1 g2 k) (H3 : Fresh w1 w2 g3 ∧ RowB w2 g3 b) (H0 : Fresh w2 w3 g0 ∧ RowB w3 g0 (List.replicate 16 0)) (hb4 : Below w3.heap.size w3 w4) (H5 : Fresh w4 w5 g5 ∧ RowB w5 g5 (List.replicate 256 0)) (H6 : Wr w5 w6 g5 ∧ RowB w6 g5 sb) : EnA w g0 g2 g3 g5 k b w6 := by
  have b1 := H2.1.bl (Below.refl w.heap.size w)
  have b2 := H3.1.bl b1
  have b3 := H0.1.bl b2
  have b4 := below_on b3 hb4
  have b5 := H5.1.bl b4
  have q2 := ((H2.2.fresh H3.1).fresh H0.1).on hb4
  have q3 := (H3.2.fresh H0.1).on hb4
  have q0 := H0.2.on hb4
  exact ⟨H0.1.ge b2, H3.1.ge b1, (H3.2.ne H0.1).symm, (q3.ne H5.1).symm, H6.1.bl b5 (H5.1.ge b4), (q0.fresh H5.1).wr H6.1 (q0.ne H5.1), (q2.fresh H5.1).wr H6.1 (q2.ne H5.1), (q3.fresh H5.1).wr H6.1 (q3.ne H5.1), H6.2⟩
theorem en_e {w w6 w7 w8 w9 : World} {g0 g2 g3 g5 g6 : Nat} {k b : List UInt8} (HA : EnA w g0 g2 g3 g5 k b w6) (hb7 : Below w6.heap.size w6 w7) (H8 : Fresh w7 w8 g6 ∧ RowB w8 g6 (List.replicate 176 0)) (H9 : Wr w8 w9 g6 ∧ RowB w9 g6 (kyL k 10)) : EnR w g0 g3 g5 g6 k b w9 := by
  obtain ⟨c1, c2, c3, c4, a, q0, q2, q3, q5⟩ := HA
  have a7 := below_on a hb7
  have q0' := q0.on hb7
  have q3' := q3.on hb7
  have q5' := q5.on hb7
  exact ⟨c1, c2, c3, c4, (q3'.ne H8.1).symm, H9.1.bl (H8.1.bl a7) (H8.1.ge a7), (q0'.fresh H8.1).wr H9.1 (q0'.ne H8.1), (q3'.fresh H8.1).wr H9.1 (q3'.ne H8.1), (q5'.fresh H8.1).wr H9.1 (q5'.ne H8.1), H9.2⟩
theorem en_g {w w6 w7 w8 : World} {g0 g2 g3 g5 g6 : Nat} {k b : List UInt8} (HA : EnA w g0 g2 g3 g5 k b w6) (hb7 : Below w6.heap.size w6 w7) (H8 : Fresh w7 w8 g6 ∧ RowB w8 g6 (List.replicate 176 0)) : g6 ≠ g0 := ((HA.2.2.2.2.2.1.on hb7).ne H8.1).symm
/-- what the last round reads -/
def EnS (g3 g6 : Nat) (x k : List UInt8) (w : World) : Prop := RowB w g3 x ∧ RowB w g6 (kyL k 10)
theorem EnS.whole {g3 g6 : Nat} {x k : List UInt8} {w : World} (h : EnS g3 g6 x k w) : w.rangeAt g3 0 (Us x) := h.1.whole
theorem EnR.s {w w1 : World} {g0 g3 g5 g6 : Nat} {k x : List UInt8} (h : EnR w g0 g3 g5 g6 k x w1) : EnS g3 g6 x k w1 := ⟨h.cur, h.ks⟩
theorem EnS.wr {g0 g3 g6 : Nat} {x k : List UInt8} {w w' : World} (h : EnS g3 g6 x k w) (hw : Wr w w' g0) (h3 : g3 ≠ g0) (h6 : g6 ≠ g0) : EnS g3 g6 x k w' := ⟨h.1.wr hw h3, h.2.wr hw h6⟩
theorem wp_store_b {P : Program} {op : Oper} {a : Act} {w : World} {K : Act → World → Prop} {Q : Exit → Act → World → Prop} (ty : TypeId) (x y : Operand) (ho : op.op = .store ty x y) (g : Nat) (l l2 : List UInt8)
    (hx : a.eval x = .pointer (some ⟨g, 0, none⟩)) (hy : a.eval y = .agg (Us l2).toArray) (h : RowB w g l) (hl : l2.length = l.length) (hi : (P.info? ty).map (·.size) = some l2.length)
    (hK : ∀ w', Wr w w' g → RowB w' g l2 → K (a.put op.dst undef) w') : op.wp P a w K Q := by
  refine wp_store_mid ty x y ho g 0 _ hx hy ?_ ?_ (Us_all l2) ?_
  · have := h.there
    simpa [Us_length, hl] using this
  · simpa [Us_length] using hi
  · refine hK _ (Wr.cells g _ 0 w) ?_
    simpa using h.setCells hl
theorem key0 {w : World} {g : Nat} {k : List UInt8} (h : RowB w g (kyL k 10)) (hk : k.length = 16) : w.rangeAt g 0 (Us (rk k 0)) := by
  have := key_range h hk 0 (by decide)
  rwa [Nat.zero_mul] at this
theorem eR_len_eq (k b : List UInt8) (hb : b.length = 16) (n : Nat) : (eR k b n).length = b.length := by rw [eR_length k b hb n, hb]
def rsL (b : List UInt8) : List UInt8 := rotL (subL sb b 16) 1 16
theorem rsL_length (b : List UInt8) : (rsL b).length = 16 := rotL_length _ _ _

set_option maxRecDepth 40000 in
set_option maxHeartbeats 1000000 in
theorem prog_enc (k b : List UInt8) (w : World) (hk : k.length = 16) (hb : b.length = 16) :
    Calls Try.prog 52 #[.agg (Us k).toArray, .agg (Us b).toArray] w fun e w' => e = .returned (.agg (Us (encL k b)).toArray) ∧ Below w.heap.size w w' := by
  have HL := Lib.hid (And.intro hk hb)
  clear hk hb
  go_enter Try.func52, Try.ntmps52
  go_wp2_with (first
    | ((with_reducible refine wpList_box_b (op := ⟨some 2, _, _, _, _, _⟩) rfl 65 (.tmp 0) rfl k rfl ?_); intro g2 w1 hf hr; have H2 := Lib.hid (And.intro hf hr); clear hf hr)
    | ((with_reducible refine wpList_box_b (op := ⟨some 3, _, _, _, _, _⟩) rfl 65 (.tmp 1) rfl b rfl ?_); intro g3 w2 hf hr; have H3 := Lib.hid (And.intro hf hr); clear hf hr)
    | ((with_reducible refine wpList_alloc_b (op := ⟨some 4, _, _, _, _, _⟩) rfl 65 rfl 16 info_q ?_); intro g0 w3 hf hr; have H0 := Lib.hid (And.intro hf hr); clear hf hr)
    | (go_at_call 53; ((with_reducible refine (prog_subs _).mono ?_); rintro e w4 ⟨rfl, hb⟩); have HB4 := Lib.hid hb; clear hb)
    | ((with_reducible refine wpList_alloc_b (op := ⟨some 5, _, _, _, _, _⟩) rfl 67 rfl 256 info_t ?_); intro g5 w5 hf hr; have H5 := Lib.hid (And.intro hf hr); clear hf hr)
    | ((with_reducible refine wpList_store_all (ty := 67) (x := .tmp 5) (y := .tmp 8) (g := g5) (l := List.replicate 256 0) (l2 := sb) rfl rfl ?hx ?hy H5.out.2 tab_len (sz_t sb_length) ?_); (case hx => go_simp); (case hy => go_simp); intro w6 hw hr; have H6 := Lib.hid (And.intro hw hr); clear hw hr; have HA := Lib.hid (en_a H2.out H3.out H0.out HB4.out H5.out H6.out); clear H2 H3 H0 HB4 H5 H6; have HK := Lib.hid HA.out.kw; have HT := Lib.hid HA.out.t)
    | (with_reducible refine wpList_load_b (op := ⟨some 9, _, _, _, _, _⟩) rfl 65 (.tmp 2) rfl g2 (0) rfl (k) 16 5 HK.out Try.underlying65 (sz_q HL.out.1) ?_)
    | (go_at_call 55; ((with_reducible refine (prog_exp k g5 _ HL.out.1 HT.out).mono ?_); rintro e w7 ⟨rfl, hb⟩); have HB7 := Lib.hid hb; clear hb)
    | ((with_reducible refine wpList_alloc_b (op := ⟨some 6, _, _, _, _, _⟩) rfl 71 rfl 176 info_k ?_); intro g6 w8 hf hr; have H8 := Lib.hid (And.intro hf hr); clear hf hr)
    | ((with_reducible refine wpList_store_all (ty := 71) (x := .tmp 6) (y := .tmp 10) (g := g6) (l := List.replicate 176 0) (l2 := kyL k 10) rfl rfl ?hx ?hy H8.out.2 (ky_len10 k HL.out.1) (ky_size k HL.out.1 10 (by decide)) ?_); (case hx => go_simp); (case hy => go_simp); intro w9 hw hr; have H9 := Lib.hid (And.intro hw hr); clear hw hr; have HE := Lib.hid (en_e HA.out HB7.out H8.out H9.out); have HG := Lib.hid (en_g HA.out HB7.out H8.out); clear HA HK HT HB7 H8 H9; have HX := Lib.hid HE.out.cur; have HXW := Lib.hid HE.out.cur.whole; have HK0 := Lib.hid (key0 HE.out.ks HL.out.1))
    | (with_reducible refine wpList_load_b (op := ⟨some 11, _, _, _, _, _⟩) rfl 65 (.tmp 3) rfl g3 (0) rfl (b) 16 5 HXW.out Try.underlying65 (sz_q HL.out.2) ?_)
    | (with_reducible refine wpList_load_b (op := ⟨some 13, _, _, _, _, _⟩) rfl 65 (.tmp 12) rfl g6 (0) rfl (rk k 0) 16 5 HK0.out Try.underlying65 (sz_q (rk_len16 k HL.out.1 0)) ?_)
    | (go_at_call 58; ((with_reducible refine (prog_add b (rk k 0) _ HL.out.2 (rk_len16 k HL.out.1 0)).mono ?_); rintro e w10 ⟨rfl, hb⟩); have HB10 := Lib.hid hb; clear hb)
    | ((with_reducible refine wpList_store_all (ty := 65) (x := .tmp 3) (y := .tmp 14) (g := g3) (l := b) (l2 := addL b (rk k 0) 16) rfl rfl ?hx ?hy (HX.out.on HB10.out) (addL_length _ _ _) (sz_q (add_len16 b _ HL.out.2)) ?_); (case hx => go_simp); (case hy => go_simp); intro w11 hw hr; have H11 := Lib.hid (And.intro hw hr); clear hw hr))
  have HI : Hid (EnR w g0 g3 g5 g6 k (eR k b 0) w11) := Lib.hid (by rw [eR]; exact (HE.out.on HB10.out).put H11.out)
  clear HE HX HXW HK0 HB10 H11
  go_loopw [7] (fun i wr => ∃ n : Nat, n ≤ 9 ∧ i = .int .i64 ((n : Int) + 1) ∧ Hid (EnR w g0 g3 g5 g6 k (eR k b n) wr)) (fun i _ => 10 - (intOf i).toNat)
  case atStart => exact ⟨0, by decide, rfl, HI⟩
  case round =>
    clear HI
    obtain ⟨n, hn, rfl, HS⟩ := hrel
    by_cases h9 : n < 9
    · obtain ⟨x, hx⟩ : ∃ x, x = eR k b n := ⟨_, rfl⟩
      have HXL := Lib.hid (show x.length = 16 by rw [hx]; exact eR_length k b HL.out.2 n)
      rw [← hx] at HS
      have HV := Lib.hid hx
      clear hx
      have HX := Lib.hid HS.out.cur
      have HXW := Lib.hid HS.out.cur.whole
      have HT := Lib.hid HS.out.t
      go_wp2_with (first
        | (with_reducible refine wpList_load_b (op := ⟨some 19, _, _, _, _, _⟩) rfl 65 (.tmp 3) rfl g3 (0) rfl (x) 16 5 HXW.out Try.underlying65 (sz_q HXL.out) ?_)
        | (go_at_call 56; ((with_reducible refine (prog_sub sb x g5 _ HXL.out HT.out).mono ?_); rintro e w4 ⟨rfl, hb⟩); have HB4 := Lib.hid hb; clear hb)
        | (go_at_call 57; ((with_reducible refine (prog_rot1 (subL sb x 16) _ (sub_len16 x HXL.out)).mono ?_); rintro e w5 ⟨rfl, hb⟩); have HB5 := Lib.hid hb; clear hb)
        | (go_at_call 59; ((with_reducible refine (prog_mix (rotL (subL sb x 16) 1 16) _ (rotL_length _ _ _)).mono ?_); rintro e w6 ⟨rfl, hb⟩); have HB6 := Lib.hid hb; clear hb)
        | ((with_reducible refine wpList_store_all (ty := 65) (x := .tmp 3) (y := .tmp 22) (g := g3) (l := x) (l2 := mixL (rotL (subL sb x 16) 1 16) 16) rfl rfl ?hx ?hy (((HX.out.on HB4.out).on HB5.out).on HB6.out) (mix_len _ x HXL.out) (sz_q (mixL_length _ _)) ?_); (case hx => go_simp); (case hy => go_simp); intro w7 hw hr; have H7 := Lib.hid (And.intro hw hr); clear hw hr))
      have HS2 : Hid (EnR w g0 g3 g5 g6 k (mixL (rotL (subL sb x 16) 1 16) 16) w7) := Lib.hid ((((HS.out.on HB4.out).on HB5.out).on HB6.out).put H7.out)
      clear HS HX HXW HT HB4 HB5 HB6 H7
      obtain ⟨y, hy⟩ : ∃ y, y = mixL (rotL (subL sb x 16) 1 16) 16 := ⟨_, rfl⟩
      have HYL := Lib.hid (show y.length = 16 by rw [hy]; exact mixL_length _ _)
      rw [← hy] at HS2
      have HY := Lib.hid hy
      clear hy
      have HXW := Lib.hid (show w7.drew.rangeAt g3 0 (Us y) from HS2.out.drew.cur.whole)
      have HKW := Lib.hid (show w7.drew.rangeAt g6 ((n + 1) * 16) (Us (rk k (n + 1))) from key_range HS2.out.drew.ks HL.out.1 (n + 1) (by omega))
      have HX := Lib.hid (show RowB w7.drew g3 y from HS2.out.drew.cur)
      have HS3 := Lib.hid HS2.out.drew
      have r1 : (0 : Int) ≤ (n : Int) + 1 ∧ (n : Int) + 1 < 11 := by omega
      have r2 : ((n : Int) + 1).toNat = n + 1 := by omega
      refine wp_region_still_tail 4 (by kernel_rfl) (by kernel_rfl) ?_
      simp only [List.take_succ_cons, List.take_zero, List.drop_succ_cons, List.drop_zero]
      refine still_load_b rfl 65 (.tmp 3) rfl g3 0 rfl y 16 5 HXW.out Try.underlying65 (sz_q HYL.out) ?_
      still_step
      still_step
      refine still_load_b rfl 65 (.tmp 25) rfl g6 ((n + 1) * 16) rfl (rk k (n + 1)) 16 5 HKW.out Try.underlying65 (sz_q (rk_len16 k HL.out.1 (n + 1))) ?_
      refine wpStill_nil ?_
      change wpList _ _ _ _ _ w7.drew
      clear HXW HKW HS2
      generalize w7.drew = w8 at *
      go_wp2_with (first
        | (go_at_call 58; ((with_reducible refine (prog_add y (rk k (n + 1)) _ HYL.out (rk_len16 k HL.out.1 (n + 1))).mono ?_); rintro e w9 ⟨rfl, hb⟩); have HB9 := Lib.hid hb; clear hb)
        | ((with_reducible refine wpList_store_all (ty := 65) (x := .tmp 3) (y := .tmp 27) (g := g3) (l := y) (l2 := addL y (rk k (n + 1)) 16) rfl rfl ?hx ?hy (HX.out.on HB9.out) (addL_length _ _ _) (sz_q (add_len16 y _ HYL.out)) ?_); (case hx => go_simp); (case hy => go_simp); intro w10 hw hr; have H10 := Lib.hid (And.intro hw hr); clear hw hr))
      have HN : Hid (EnR w g0 g3 g5 g6 k (eR k b (n + 1)) w10) := Lib.hid (by
        have := (HS3.out.on HB9.out).put H10.out
        rw [HY.out, HV.out] at this
        exact this)
      clear HX HS3 HB9 H10 HY HV r1 r2
      go_roundw
      case rel => exact ⟨n + 1, by omega, by go_num, HN⟩
      case measure => simp [intOf]; omega
    · obtain rfl : n = 9 := by omega
      clear h9 hn
      obtain ⟨x, hx⟩ : ∃ x, x = eR k b 9 := ⟨_, rfl⟩
      obtain ⟨q, hq⟩ : ∃ q, q = rk k 10 := ⟨_, rfl⟩
      have HXL := Lib.hid (show x.length = 16 by rw [hx]; exact eR_length k b HL.out.2 9)
      have HQL := Lib.hid (show q.length = 16 by rw [hq]; exact rk_len16 k HL.out.1 10)
      rw [← hx] at HS
      go_wp2_with fail
      have HKW := Lib.hid (fun (w' : World) (h : EnS g3 g6 x k w') => (show w'.rangeAt g6 160 (Us q) from by rw [hq]; exact key_range h.2 HL.out.1 10 (by decide)))
      have HV := Lib.hid (And.intro hx hq)
      clear hx hq
      have hu := Try.underlying65
      have hi1 : (Try.prog.info? 65).map (·.size) = some (Us x).length := by rw [Us_length]; exact sz_q HXL.out
      have hi2 : (Try.prog.info? 65).map (·.size) = some (Us q).length := by rw [Us_length]; exact sz_q HQL.out
      have HSd := Lib.hid HS.out.drew
      have HT := Lib.hid HSd.out.t
      clear HS
      refine wp_region_noPanic ?_
      refine wp_region_held_drew (S := EnS g3 g6 x k) (by kernel_rfl) HSd.out.s (fun hHeld => ?_)
      refine wpAnyH_take (i := 0) (v := _) rfl (by kernel_rfl) (by kernel_rfl) (by kernel_rfl) (fun _ _ _ h => h) (yieldsIf_load_mid (by rfl) 65 (.tmp 3) rfl g3 0 rfl (Us x) _ (fun w h => EnS.whole h) hu rfl hi1) hHeld ?_
      simp only [Act.put, List.setIfInBounds_toArray]
      refine wpAnyH_take (i := 3) (v := .pointer (some ⟨g6, 160, none⟩)) rfl (by kernel_rfl) (by kernel_rfl) (by kernel_rfl) (fun _ _ _ h => h) (Or.inl ⟨by rfl, ?_⟩) hHeld ?_
      · intro w hSw
        go_simp
      simp only [Act.put]
      refine wpAnyH_take (i := 4) (v := _) rfl (by kernel_rfl) (by kernel_rfl) (by kernel_rfl) (fun _ _ _ h => h) (yieldsIf_load_mid (by rfl) 65 (.tmp 31) rfl g6 160 rfl (Us q) _ HKW.out hu rfl hi2) hHeld ?_
      simp only [Act.put]
      refine wpAnyH_ready (rs := [1]) (by kernel_rfl) (by simp) ?_
      refine AllReadyH.cons rfl (fun K hK => ?_) AllReadyH.nil
      go_simp
      go_wp2_with (go_at_call 56; ((with_reducible refine (prog_sub sb x g5 _ HXL.out HT.out).mono ?_); rintro e w5 ⟨rfl, hb⟩); have HS5 := Lib.hid (HSd.out.on hb); clear hb)
      refine hK.out _ _ HS5.out.s (fun hHeld => ?_)
      clear hK K
      refine wpAnyH_ready (rs := [2]) (by kernel_rfl) (by simp) ?_
      refine AllReadyH.cons rfl (fun K hK => ?_) AllReadyH.nil
      go_simp
      go_wp2_with (go_at_call 57; ((with_reducible refine (prog_rot1 (subL sb x 16) _ (sub_len16 _ HXL.out)).mono ?_); rintro e w6 ⟨rfl, hb⟩); have HS6 := Lib.hid (HS5.out.on hb); clear hb)
      refine hK.out _ _ HS6.out.s (fun hHeld => ?_)
      clear hK K
      refine wpAnyH_ready (rs := [5]) (by kernel_rfl) (by simp) ?_
      refine AllReadyH.cons rfl (fun K hK => ?_) AllReadyH.nil
      go_simp
      go_wp2_with (go_at_call 58; ((with_reducible refine (prog_add (rotL (subL sb x 16) 1 16) q _ (rotL_length _ _ _) HQL.out).mono ?_); rintro e w7 ⟨rfl, hb⟩); have HS7 := Lib.hid (HS6.out.on hb); clear hb)
      refine hK.out _ _ HS7.out.s (fun hHeld => ?_)
      clear hK K
      refine wpAnyH_ready (rs := [6]) (by kernel_rfl) (by simp) ?_
      refine AllReadyH.cons rfl (fun K hK => ?_) AllReadyH.nil
      rw [if_pos (by rfl)]
      have HR0 := Lib.hid (show RowB w7 g0 (List.replicate 16 0) from HS7.out.2.2.2.2.2.2.1)
      have HLe := Lib.hid (show (addL (rotL (subL sb x 16) 1 16) q 16).length = (List.replicate 16 (0 : UInt8)).length from by rw [addL_length, rotL_length, List.length_replicate])
      with_reducible refine wp_store_b (ty := 65) (x := .tmp 4) (y := .tmp 33) (g := g0) (l := List.replicate 16 0) (l2 := addL (rotL (subL sb x 16) 1 16) q 16) rfl ?hx ?hy HR0.out HLe.out (sz_q (add_len16 _ _ (rotL_length _ _ _))) ?_
      case hx => go_simp
      case hy => go_simp
      intro w8 hw8 hr8
      refine hK.out _ _ (HS7.out.s.wr hw8 HS7.out.2.2.1.symm HG.out) (fun hHeld => ?_)
      clear hK K
      refine wpAnyH_done (by kernel_rfl) ?_ _
      refine NoPanic.normal ?_
      have HZ := Lib.hid (show RowB w8 g0 (encL k b) from by rw [encL, ← HV.out.1, ← HV.out.2]; exact hr8)
      have HB := Lib.hid (hw8.bl HS7.out.2.2.2.2.2.1 HS7.out.1)
      clear hw8 hr8 HV
      go_wp2_with fail
      exact bodyPost_ret (results_b rfl _ _ g0 (encL k b) 16 5 rfl HZ.out Try.underlying65 (sz_q (encL_length k b))) rfl ⟨rfl, HB.out⟩

end Go.Proofs.Ytipkaeeimohmpaa
