/-
  What is proved here: what the program's nextKey answers.
-/
import Derived.Test.YtipkaeeimohmpaaP4
namespace Go.Proofs.Ytipkaeeimohmpaa
open Go.RowKit
set_option linter.unusedVariables false

theorem info_w : (Try.prog.info? 64).map (fun i => (i.zero, i.size)) = some (some (.agg (Us (List.replicate 4 0)).toArray), 4) := by kernel_rfl

def NaR (w : World) (g0 g1 g2 : Nat) (k : List UInt8) (r : Nat) (wr : World) : Prop := w.heap.size ≤ g0 ∧ w.heap.size ≤ g1 ∧ w.heap.size ≤ g2 ∧ g0 ≠ g1 ∧ g0 ≠ g2 ∧ g1 ≠ g2 ∧ Below w.heap.size w wr ∧ RowB wr g0 (List.replicate 16 0) ∧ RowB wr g1 k ∧ RowB wr g2 (wdL k r)
theorem NaR.drew {w wr : World} {g0 g1 g2 r : Nat} {k : List UInt8} (h : NaR w g0 g1 g2 k r wr) : NaR w g0 g1 g2 k r wr.drew := ⟨h.1, h.2.1, h.2.2.1, h.2.2.2.1, h.2.2.2.2.1, h.2.2.2.2.2.1, h.2.2.2.2.2.2.1.drew, h.2.2.2.2.2.2.2⟩
theorem NaR.step {w wr : World} {g0 g1 g2 r m : Nat} {k : List UInt8} {v : UInt8} (h : NaR w g0 g1 g2 k r wr) (e : m = (r + 1) % 4 ∧ v = k.getD (12 + m) 0) : NaR w g0 g1 g2 k (r + 1) (wr.setCell ⟨g2, r, none⟩ (.int .u8 ((sb.getD v.toNat 0).toNat : Int))) := by
  obtain ⟨e1, e2⟩ := e
  obtain ⟨a1, a2, a3, a4, a5, a6, a7, p, q, s⟩ := h
  refine ⟨a1, a2, a3, a4, a5, a6, a7.setCell a3 _, p.far a5 _, q.far a6 _, ?_⟩
  have := s.set r (sb.getD v.toNat 0)
  rw [wdL, ← e1, ← e2]
  exact this
def NbR (w : World) (g0 g1 g2 : Nat) (k : List UInt8) (c : UInt8) (i : Nat) (wr : World) : Prop := w.heap.size ≤ g0 ∧ w.heap.size ≤ g1 ∧ w.heap.size ≤ g2 ∧ g0 ≠ g1 ∧ g0 ≠ g2 ∧ g1 ≠ g2 ∧ Below w.heap.size w wr ∧ RowB wr g0 (List.replicate 16 0) ∧ RowB wr g1 (nkL k c i).2 ∧ RowB wr g2 (nkL k c i).1
theorem NbR.drew {w wr : World} {g0 g1 g2 r : Nat} {k : List UInt8} {c : UInt8} (h : NbR w g0 g1 g2 k c r wr) : NbR w g0 g1 g2 k c r wr.drew := ⟨h.1, h.2.1, h.2.2.1, h.2.2.2.1, h.2.2.2.2.1, h.2.2.2.2.2.1, h.2.2.2.2.2.2.1.drew, h.2.2.2.2.2.2.2⟩
theorem NaR.first {w wr : World} {g0 g1 g2 : Nat} {k : List UInt8} {c v : UInt8} (h : NaR w g0 g1 g2 k 4 wr) (e : v = (wdL k 4).getD 0 0) : NbR w g0 g1 g2 k c 0 (wr.setCell ⟨g2, 0, none⟩ (.int .u8 (bits .xor .u8 (v.toNat : Int) (c.toNat : Int)))) := by
  obtain ⟨a1, a2, a3, a4, a5, a6, a7, p, q, s⟩ := h
  rw [b_xor, e]
  exact ⟨a1, a2, a3, a4, a5, a6, a7.setCell a3 _, p.far a5 _, q.far a6 _, s.set 0 _⟩
theorem NbR.step {w wr : World} {g0 g1 g2 i m : Nat} {k : List UInt8} {c v : UInt8} (h : NbR w g0 g1 g2 k c i wr) (e : m = i % 4 ∧ v = (nkL k c i).1.getD m 0 ^^^ (nkL k c i).2.getD i 0) :
    NbR w g0 g1 g2 k c (i + 1) ((wr.setCell ⟨g2, m, none⟩ (.int .u8 (v.toNat : Int))).setCell ⟨g1, i, none⟩ (.int .u8 (v.toNat : Int))) := by
  obtain ⟨e1, e2⟩ := e
  obtain ⟨a1, a2, a3, a4, a5, a6, a7, p, q, s⟩ := h
  refine ⟨a1, a2, a3, a4, a5, a6, (a7.setCell a3 _).setCell a2 _, (p.far a5 _).far a4 _, ?_, ?_⟩
  · have := (q.far (a := ⟨g2, m, none⟩) a6 (.int .u8 (v.toNat : Int))).set i v
    rw [nkL, ← e1, ← e2]
    exact this
  · have := (s.set m v).far (a := ⟨g1, i, none⟩) a6.symm (.int .u8 (v.toNat : Int))
    rw [nkL, ← e1, ← e2]
    exact this
theorem nk_mid {w wr : World} {g0 g1 g2 i m : Nat} {k : List UInt8} {c v : UInt8} (h : NbR w g0 g1 g2 k c i wr) (hm : m < 4) : (wr.setCell ⟨g2, m, none⟩ (.int .u8 (v.toNat : Int))).cell? ⟨g2, m, none⟩ = some (.int .u8 (v.toNat : Int)) := by
  have h2 := (h.2.2.2.2.2.2.2.2.2.set m v).cell (k := m) (by rw [List.length_set, (nkL_length k c i).1]; exact hm)
  have hl : m < (nkL k c i).1.length := by rw [(nkL_length k c i).1]; exact hm
  rw [List.getD, List.getElem?_set_self hl] at h2
  exact h2

set_option maxRecDepth 40000 in
set_option maxHeartbeats 2000000 in
theorem prog_next (k : List UInt8) (c : UInt8) (gt : Nat) (w : World) (hk : k.length = 16) (ht : TabAt w gt 0 sb) :
    Calls Try.prog 62 #[.agg (Us k).toArray, .int .u8 (c.toNat : Int), .pointer (some ⟨gt, 0, none⟩)] w fun e w' => e = .returned (.agg (Us (nkL k c 16).2).toArray) ∧ Below w.heap.size w w' := by
  have HL := Lib.hid (And.intro hk ht)
  clear hk ht
  go_enter Try.func62, Try.ntmps62
  go_wp2_with (first
    | (refine wpList_box_b (op := ⟨some 3, _, _, _, _, _⟩) rfl 65 (.tmp 0) rfl k rfl ?_; intro g1 w1 hf1 hr1; have H1 := Lib.hid (And.intro hf1 hr1); clear hf1 hr1)
    | (refine wpList_alloc_b (op := ⟨some 6, _, _, _, _, _⟩) rfl 65 rfl 16 info_q ?_; intro g0 w2 hf0 hr0; have H0 := Lib.hid (And.intro hf0 hr0); clear hf0 hr0)
    | (refine wpList_alloc_b (op := ⟨some 7, _, _, _, _, _⟩) rfl 64 rfl 4 info_w ?_; intro g2 w3 hf2 hr2; have H2 := Lib.hid (And.intro hf2 hr2); clear hf2 hr2))
  have HI : Hid (NaR w g0 g1 g2 k 0 w3) := by
    have b1 := H1.out.1.bl (Below.refl w.heap.size w)
    have b2 := H0.out.1.bl b1
    exact Lib.hid ⟨H0.out.1.ge b1, H1.out.1.ge (Below.refl _ _), H2.out.1.ge b2, (H1.out.2.ne H0.out.1).symm, H0.out.2.ne H2.out.1, (H1.out.2.fresh H0.out.1).ne H2.out.1, H2.out.1.bl b2, H0.out.2.fresh H2.out.1, (H1.out.2.fresh H0.out.1).fresh H2.out.1, H2.out.2⟩
  clear H0 H1 H2
  go_loopw [8, 10] (fun _ i wr => ∃ r : Nat, r ≤ 4 ∧ i = .int .i64 (r : Int) ∧ Hid (NaR w g0 g1 g2 k r wr)) (fun _ i _ => 4 - (intOf i).toNat)
  case atStart => exact ⟨0, by decide, rfl, HI⟩
  case round =>
    clear HI
    obtain ⟨r, hr, rfl, HS⟩ := hrel
    by_cases hr4 : r < 4
    · obtain ⟨m, hm⟩ : ∃ m, m = (r + 1) % 4 := ⟨_, rfl⟩
      have hm4 : m < 4 := by omega
      obtain ⟨v, hv⟩ : ∃ v, v = k.getD (12 + m) 0 := ⟨_, rfl⟩
      have hvl := v.toNat_lt
      have y1 := HS.out.2.2.2.2.2.2.2.2.1.cell (k := 12 + m) (by rw [HL.out.1]; omega)
      rw [← hv] at y1
      have y2 := (HL.out.2.on HS.out.2.2.2.2.2.2.1).2 v.toNat hvl
      rw [Nat.zero_add] at y2
      have y3 := HS.out.2.2.2.2.2.2.2.2.2.cell (k := r) (by rw [wdL_length]; exact hr4)
      have yf := HS.out.2.2.2.2.2.2.2.2.2.free r
      have HM := Lib.hid (And.intro hm hv)
      go_wp2_with fail
      have e1 : IntKind.i64.wrap ((r : Int) + 1) = (r : Int) + 1 := by rw [IntKind.wrap_i64]; omega
      have e2 : ((r : Int) + 1).tmod 4 = (m : Int) := by rw [Int.tmod_eq_emod_of_nonneg (by omega)]; omega
      have e4 : IntKind.i64.wrap (m : Int) = (m : Int) := by rw [IntKind.wrap_i64]; omega
      have e5 : IntKind.i64.wrap (12 + (m : Int)) = 12 + (m : Int) := by rw [IntKind.wrap_i64]; omega
      have e6 : (12 + (m : Int)).toNat = 12 + m := by omega
      have r1 : (0 : Int) ≤ 12 + (m : Int) ∧ 12 + (m : Int) < 16 := by omega
      have r2 : (v.toNat : Int) < 256 := by omega
      have r3 : (r : Int) < 4 := by omega
      clear hm hv
      go_still_tail 12, (by kernel_rfl)
      change wpList _ _ _ _ _ wr.drew
      have y3' : wr.drew.cell? _ = _ := y3
      have yf' : wr.drew.frozen? _ = _ := yf
      have HS2 : Hid (NaR w g0 g1 g2 k r wr.drew) := Lib.hid HS.out.drew
      clear HS y1 y2 y3 yf e1 e2 e4 e5 e6 r1
      generalize wr.drew = w4 at *
      go_wp2_with fail
      go_roundw
      case rel => exact ⟨r + 1, by omega, by go_num, Lib.hid (HS2.out.step HM.out)⟩
      case measure => simp [intOf]; omega
    · obtain rfl : r = 4 := by omega
      clear hr4 hr
      obtain ⟨v, hv⟩ : ∃ v, v = (wdL k 4).getD 0 0 := ⟨_, rfl⟩
      have y3 := HS.out.2.2.2.2.2.2.2.2.2.cell (k := 0) (by rw [wdL_length]; decide)
      rw [← hv] at y3
      have yf := HS.out.2.2.2.2.2.2.2.2.2.free 0
      have HV := Lib.hid hv
      clear hv
      go_wp2_with fail
      have HI : Hid (NbR w g0 g1 g2 k c 0 _) := Lib.hid (HS.out.first HV.out)
      clear y3 yf HS HV
      generalize (wr.setCell ⟨g2, 0, none⟩ (.int .u8 (bits .xor .u8 (v.toNat : Int) (c.toNat : Int)))) = wb at *
      rw [show ((4 : Nat) : Int) = 4 from rfl]
      go_loopw [9, 31] (fun _ i wr => ∃ r : Nat, r ≤ 16 ∧ i = .int .i64 (r : Int) ∧ Hid (NbR w g0 g1 g2 k c r wr)) (fun _ i _ => 16 - (intOf i).toNat)
      case atStart => exact ⟨0, by decide, rfl, HI⟩
      case round =>
        clear HI
        obtain ⟨r, hr, rfl, HS⟩ := hrel
        by_cases hr4 : r < 16
        · obtain ⟨m, hm⟩ : ∃ m, m = r % 4 := ⟨_, rfl⟩
          have hm4 : m < 4 := by omega
          obtain ⟨x, hx⟩ : ∃ v, v = (nkL k c r).1.getD m 0 := ⟨_, rfl⟩
          obtain ⟨y, hy⟩ : ∃ v, v = (nkL k c r).2.getD r 0 := ⟨_, rfl⟩
          have y1 := HS.out.2.2.2.2.2.2.2.2.2.cell (k := m) (by rw [(nkL_length k c r).1]; exact hm4)
          have y2 := HS.out.2.2.2.2.2.2.2.2.1.cell (k := r) (by rw [(nkL_length k c r).2, HL.out.1]; exact hr4)
          rw [← hx] at y1
          rw [← hy] at y2
          have yf := HS.out.2.2.2.2.2.2.2.2.2.free m
          have HM := Lib.hid (show m = r % 4 ∧ x ^^^ y = (nkL k c r).1.getD m 0 ^^^ (nkL k c r).2.getD r 0 from ⟨hm, by rw [hx, hy]⟩)
          go_wp2_with fail
          have e2 : (r : Int).tmod 4 = (m : Int) := by rw [Int.tmod_eq_emod_of_nonneg (by omega)]; omega
          have e3 : (r : Int) % 4 = (m : Int) := by omega
          have e4 : IntKind.i64.wrap (m : Int) = (m : Int) := by rw [IntKind.wrap_i64]; omega
          have r1 : (m : Int) < 4 := by omega
          have r3 : (r : Int) < 16 := by omega
          clear hm hx hy
          go_still_tail 9, (by kernel_rfl)
          change wpList _ _ _ _ _ wr.drew
          have y1' : wr.drew.cell? _ = _ := y1
          have yf' : wr.drew.frozen? _ = _ := yf
          have HS2 : Hid (NbR w g0 g1 g2 k c r wr.drew) := Lib.hid HS.out.drew
          clear HS y1 y2 yf
          generalize wr.drew = w4 at *
          rw [b_xor x y]
          obtain ⟨v, hv⟩ : ∃ v, v = x ^^^ y := ⟨_, rfl⟩
          rw [← hv]
          have HM2 := Lib.hid (show _ ∧ v = _ from ⟨HM.out.1, hv.trans HM.out.2⟩)
          clear hv HM
          have y5 := nk_mid (v := v) HS2.out hm4
          have y6 := (HS2.out.2.2.2.2.2.2.2.2.1.far (a := ⟨g2, m, none⟩) HS2.out.2.2.2.2.2.1 (.int .u8 (v.toNat : Int))).cell (k := r) (by rw [(nkL_length k c r).2, HL.out.1]; exact hr4)
          have y7 := (HS2.out.2.2.2.2.2.2.2.2.1.far (a := ⟨g2, m, none⟩) HS2.out.2.2.2.2.2.1 (.int .u8 (v.toNat : Int))).free r
          go_wp2_with fail
          go_roundw
          case rel => exact ⟨r + 1, by omega, by go_num, Lib.hid (HS2.out.step HM2.out)⟩
          case measure => simp [intOf]; omega
        · obtain rfl : r = 16 := by omega
          clear hr4 hr
          have HR := Lib.hid (show RowB wr g1 ((nkL k c 16).2) ∧ RowB wr g0 (List.replicate 16 0) ∧ Below w.heap.size w wr ∧ w.heap.size ≤ g0 from ⟨HS.out.2.2.2.2.2.2.2.2.1, HS.out.2.2.2.2.2.2.2.1, HS.out.2.2.2.2.2.2.1, HS.out.1⟩)
          clear HS
          go_wp2_with (first | (refine wpList_load_b rfl 65 (.tmp 3) rfl g1 0 rfl ((nkL k c 16).2) 16 5 HR.out.1.whole Try.underlying65 (by rw [(nkL_length k c 16).2, HL.out.1]; exact size_q) ?_) | (refine wpList_store_all rfl 65 (.tmp 6) (.tmp 50) rfl g0 (List.replicate 16 0) ((nkL k c 16).2) rfl rfl HR.out.2.1 (by rw [(nkL_length k c 16).2, HL.out.1]; exact (List.length_replicate ..).symm) (by rw [(nkL_length k c 16).2, HL.out.1]; exact size_q) ?_; intro w5 hw5 hr5; have HE := Lib.hid (And.intro hw5 hr5); clear hw5 hr5))
          exact bodyPost_ret (results_b rfl _ _ g0 ((nkL k c 16).2) 16 5 rfl HE.out.2 Try.underlying65 (by rw [(nkL_length k c 16).2, HL.out.1]; exact size_q)) rfl ⟨rfl, HE.out.1.bl HR.out.2.2.1 HR.out.2.2.2⟩

end Go.Proofs.Ytipkaeeimohmpaa
