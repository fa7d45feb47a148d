/-
  What is proved here: what the program's steps on a block answer (combined, substituted, rotated).
-/
import Derived.Test.YtipkaeeimohmpaaP2
namespace Go.Proofs.Ytipkaeeimohmpaa
open Go.RowKit
set_option linter.unusedVariables false

theorem info_q : (Try.prog.info? 65).map (fun i => (i.zero, i.size)) = some (some (.agg (Us (List.replicate 16 0)).toArray), 16) := by kernel_rfl
theorem size_q : (Try.prog.info? 65).map (·.size) = some 16 := by kernel_rfl

def AdR (w : World) (g0 g1 g2 : Nat) (b k : List UInt8) (i : Nat) (wr : World) : Prop := w.heap.size ≤ g0 ∧ w.heap.size ≤ g1 ∧ g0 ≠ g1 ∧ g2 ≠ g1 ∧ Below w.heap.size w wr ∧ RowB wr g0 (List.replicate 16 0) ∧ RowB wr g1 (addL b k i) ∧ RowB wr g2 k
theorem AdR.drew {w wr : World} {g0 g1 g2 i : Nat} {b k : List UInt8} (h : AdR w g0 g1 g2 b k i wr) : AdR w g0 g1 g2 b k i wr.drew := ⟨h.1, h.2.1, h.2.2.1, h.2.2.2.1, h.2.2.2.2.1.drew, h.2.2.2.2.2⟩
theorem AdR.step {w wr : World} {g0 g1 g2 i : Nat} {b k : List UInt8} (h : AdR w g0 g1 g2 b k i wr) : AdR w g0 g1 g2 b k (i + 1) (wr.setCell ⟨g1, i, none⟩ (.int .u8 (bits .xor .u8 (((addL b k i).getD i 0).toNat : Int) ((k.getD i 0).toNat : Int)))) := by
  obtain ⟨a, b, c, d, e, p, q, r⟩ := h
  rw [b_xor]
  exact ⟨a, b, c, d, e.setCell b _, p.far c _, q.set i _, r.far d _⟩
set_option maxRecDepth 40000 in
set_option maxHeartbeats 1000000 in
theorem prog_add (b k : List UInt8) (w : World) (hb : b.length = 16) (hk : k.length = 16) :
    Calls Try.prog 58 #[.agg (Us b).toArray, .agg (Us k).toArray] w fun e w' => e = .returned (.agg (Us (addL b k 16)).toArray) ∧ Below w.heap.size w w' := by
  have HL := Lib.hid (And.intro hb hk)
  clear hb hk
  go_enter Try.func58, Try.ntmps58
  go_wp2_with (first
    | (refine wpList_box_b (op := ⟨some 2, _, _, _, _, _⟩) rfl 65 (.tmp 0) rfl b rfl ?_; intro g1 w1 hf1 hr1; have H1 := Lib.hid (And.intro hf1 hr1); clear hf1 hr1)
    | (refine wpList_box_b (op := ⟨some 3, _, _, _, _, _⟩) rfl 65 (.tmp 1) rfl k rfl ?_; intro g2 w2 hf2 hr2; have H2 := Lib.hid (And.intro hf2 hr2); clear hf2 hr2)
    | (refine wpList_alloc_b (op := ⟨some 4, _, _, _, _, _⟩) rfl 65 rfl 16 info_q ?_; intro g0 w3 hf0 hr0; have H0 := Lib.hid (And.intro hf0 hr0); clear hf0 hr0))
  have HI : Hid (AdR w g0 g1 g2 b k 0 w3) := by
    have b1 := H1.out.1.bl (Below.refl w.heap.size w)
    have b2 := H2.out.1.bl b1
    exact Lib.hid ⟨H0.out.1.ge b2, H1.out.1.ge (Below.refl _ _), (((H1.out.2.fresh H2.out.1).ne H0.out.1).symm), (H1.out.2.ne H2.out.1).symm, H0.out.1.bl b2, H0.out.2, (H1.out.2.fresh H2.out.1).fresh H0.out.1, H2.out.2.fresh H0.out.1⟩
  clear H0 H1 H2
  go_loopw [5, 6] (fun _ i wr => ∃ n : Nat, n ≤ 16 ∧ i = .int .i64 (n : Int) ∧ Hid (AdR w g0 g1 g2 b k n wr)) (fun _ i _ => 16 - (intOf i).toNat)
  case atStart => exact ⟨0, by decide, rfl, HI⟩
  case round =>
    clear HI
    obtain ⟨n, hn, rfl, HS⟩ := hrel
    by_cases h16 : n < 16
    · have y1 := HS.out.2.2.2.2.2.2.1.cell (k := n) (by rw [addL_length, HL.out.1]; exact h16)
      have y2 := HS.out.2.2.2.2.2.2.2.cell (k := n) (by rw [HL.out.2]; exact h16)
      have yf := HS.out.2.2.2.2.2.2.1.free n
      have r1 : (n : Int) < 16 := by omega
      go_wp2_with fail
      go_still_tail 8, (by kernel_rfl)
      change wpList _ _ _ _ _ wr.drew
      have y1' : wr.drew.cell? _ = _ := y1
      have yf' : wr.drew.frozen? _ = _ := yf
      have HS2 : Hid (AdR w g0 g1 g2 b k n wr.drew) := Lib.hid HS.out.drew
      clear HS y1 y2 yf
      generalize wr.drew = w4 at *
      go_wp2_with fail
      go_roundw
      case rel => exact ⟨n + 1, by omega, by go_num, Lib.hid HS2.out.step⟩
      case measure => simp [intOf]; omega
    · obtain rfl : n = 16 := by omega
      clear h16 hn
      have HR := Lib.hid (show RowB wr g1 (addL b k 16) ∧ RowB wr g0 (List.replicate 16 0) ∧ Below w.heap.size w wr ∧ w.heap.size ≤ g0 from ⟨HS.out.2.2.2.2.2.2.1, HS.out.2.2.2.2.2.1, HS.out.2.2.2.2.1, HS.out.1⟩)
      clear HS
      go_wp2_with (first | (refine wpList_load_b rfl 65 (.tmp 2) rfl g1 0 rfl (addL b k 16) 16 5 HR.out.1.whole Try.underlying65 (by rw [addL_length, HL.out.1]; exact size_q) ?_) | (refine wpList_store_all rfl 65 (.tmp 4) (.tmp 18) rfl g0 (List.replicate 16 0) (addL b k 16) rfl rfl HR.out.2.1 (by rw [addL_length, HL.out.1]; exact (List.length_replicate ..).symm) (by rw [addL_length, HL.out.1]; exact size_q) ?_; intro w5 hw5 hr5; have HE := Lib.hid (And.intro hw5 hr5); clear hw5 hr5))
      exact bodyPost_ret (results_b rfl _ _ g0 (addL b k 16) 16 5 rfl HE.out.2 Try.underlying65 (by rw [addL_length, HL.out.1]; exact size_q)) rfl ⟨rfl, HE.out.1.bl HR.out.2.2.1 HR.out.2.2.2⟩

def SuR (w : World) (g0 g1 gt : Nat) (t b : List UInt8) (i : Nat) (wr : World) : Prop := w.heap.size ≤ g0 ∧ w.heap.size ≤ g1 ∧ g0 ≠ g1 ∧ Below w.heap.size w wr ∧ RowB wr g0 (List.replicate 16 0) ∧ RowB wr g1 (subL t b i)
theorem SuR.drew {w wr : World} {g0 g1 gt i : Nat} {t b : List UInt8} (h : SuR w g0 g1 gt t b i wr) : SuR w g0 g1 gt t b i wr.drew := ⟨h.1, h.2.1, h.2.2.1, h.2.2.2.1.drew, h.2.2.2.2⟩
theorem SuR.step {w wr : World} {g0 g1 gt i : Nat} {t b : List UInt8} {v : UInt8} (h : SuR w g0 g1 gt t b i wr) (e : v = (subL t b i).getD i 0) : SuR w g0 g1 gt t b (i + 1) (wr.setCell ⟨g1, i, none⟩ (.int .u8 ((t.getD v.toNat 0).toNat : Int))) := by
  obtain ⟨a, b, c, d, p, q⟩ := h
  rw [e]
  exact ⟨a, b, c, d.setCell b _, p.far c _, q.set i _⟩
set_option maxRecDepth 40000 in
set_option maxHeartbeats 1000000 in
theorem prog_sub (t b : List UInt8) (gt : Nat) (w : World) (hb : b.length = 16) (ht : TabAt w gt 0 t) :
    Calls Try.prog 56 #[.agg (Us b).toArray, .pointer (some ⟨gt, 0, none⟩)] w fun e w' => e = .returned (.agg (Us (subL t b 16)).toArray) ∧ Below w.heap.size w w' := by
  have HL := Lib.hid (And.intro hb ht)
  clear hb ht
  go_enter Try.func56, Try.ntmps56
  go_wp2_with (first
    | (refine wpList_box_b (op := ⟨some 2, _, _, _, _, _⟩) rfl 65 (.tmp 0) rfl b rfl ?_; intro g1 w1 hf1 hr1; have H1 := Lib.hid (And.intro hf1 hr1); clear hf1 hr1)
    | (refine wpList_alloc_b (op := ⟨some 4, _, _, _, _, _⟩) rfl 65 rfl 16 info_q ?_; intro g0 w3 hf0 hr0; have H0 := Lib.hid (And.intro hf0 hr0); clear hf0 hr0))
  have HI : Hid (SuR w g0 g1 gt t b 0 w3) := by
    have b1 := H1.out.1.bl (Below.refl w.heap.size w)
    exact Lib.hid ⟨H0.out.1.ge b1, H1.out.1.ge (Below.refl _ _), (H1.out.2.ne H0.out.1).symm, H0.out.1.bl b1, H0.out.2, H1.out.2.fresh H0.out.1⟩
  clear H0 H1
  go_loopw [5, 6] (fun _ i wr => ∃ n : Nat, n ≤ 16 ∧ i = .int .i64 (n : Int) ∧ Hid (SuR w g0 g1 gt t b n wr)) (fun _ i _ => 16 - (intOf i).toNat)
  case atStart => exact ⟨0, by decide, rfl, HI⟩
  case round =>
    clear HI
    obtain ⟨n, hn, rfl, HS⟩ := hrel
    by_cases h16 : n < 16
    · obtain ⟨v, hv⟩ : ∃ v, v = (subL t b n).getD n 0 := ⟨_, rfl⟩
      have hvl := v.toNat_lt
      have y1 := HS.out.2.2.2.2.2.cell (k := n) (by rw [subL_length, HL.out.1]; exact h16)
      rw [← hv] at y1
      have y2 := (HL.out.2.on HS.out.2.2.2.1).2 v.toNat hvl
      rw [Nat.zero_add] at y2
      have yf := HS.out.2.2.2.2.2.free n
      have r1 : (n : Int) < 16 := by omega
      have r2 : (v.toNat : Int) < 256 := by omega
      have HV := Lib.hid hv
      clear hv
      go_wp2_with fail
      go_still_tail 9, (by kernel_rfl)
      change wpList _ _ _ _ _ wr.drew
      have y1' : wr.drew.cell? _ = _ := y1
      have yf' : wr.drew.frozen? _ = _ := yf
      have HS2 : Hid (SuR w g0 g1 gt t b n wr.drew) := Lib.hid HS.out.drew
      clear HS y1 y2 yf
      generalize wr.drew = w4 at *
      go_wp2_with fail
      go_roundw
      case rel => exact ⟨n + 1, by omega, by go_num, Lib.hid (HS2.out.step HV.out)⟩
      case measure => simp [intOf]; omega
    · obtain rfl : n = 16 := by omega
      clear h16 hn
      have HR := Lib.hid (show RowB wr g1 (subL t b 16) ∧ RowB wr g0 (List.replicate 16 0) ∧ Below w.heap.size w wr ∧ w.heap.size ≤ g0 from ⟨HS.out.2.2.2.2.2, HS.out.2.2.2.2.1, HS.out.2.2.2.1, HS.out.1⟩)
      clear HS
      go_wp2_with (first | (refine wpList_load_b rfl 65 (.tmp 2) rfl g1 0 rfl (subL t b 16) 16 5 HR.out.1.whole Try.underlying65 (by rw [subL_length, HL.out.1]; exact size_q) ?_) | (refine wpList_store_all rfl 65 (.tmp 4) (.tmp 19) rfl g0 (List.replicate 16 0) (subL t b 16) rfl rfl HR.out.2.1 (by rw [subL_length, HL.out.1]; exact (List.length_replicate ..).symm) (by rw [subL_length, HL.out.1]; exact size_q) ?_; intro w5 hw5 hr5; have HE := Lib.hid (And.intro hw5 hr5); clear hw5 hr5))
      exact bodyPost_ret (results_b rfl _ _ g0 (subL t b 16) 16 5 rfl HE.out.2 Try.underlying65 (by rw [subL_length, HL.out.1]; exact size_q)) rfl ⟨rfl, HE.out.1.bl HR.out.2.2.1 HR.out.2.2.2⟩

def RoR (w : World) (g0 g1 g2 : Nat) (b : List UInt8) (t i : Nat) (wr : World) : Prop := w.heap.size ≤ g0 ∧ w.heap.size ≤ g2 ∧ g0 ≠ g2 ∧ g1 ≠ g2 ∧ Below w.heap.size w wr ∧ RowB wr g0 (List.replicate 16 0) ∧ RowB wr g1 b ∧ RowB wr g2 (rotL b t i)
theorem RoR.drew {w wr : World} {g0 g1 g2 t i : Nat} {b : List UInt8} (h : RoR w g0 g1 g2 b t i wr) : RoR w g0 g1 g2 b t i wr.drew := ⟨h.1, h.2.1, h.2.2.1, h.2.2.2.1, h.2.2.2.2.1.drew, h.2.2.2.2.2⟩
theorem RoR.step {w wr : World} {g0 g1 g2 t c r m : Nat} {b : List UInt8} (h : RoR w g0 g1 g2 b t (4 * c + r) wr) (hr : r < 4) (e : m = 4 * ((c + r * t) % 4) + r) : RoR w g0 g1 g2 b t (4 * c + (r + 1)) (wr.setCell ⟨g2, 4 * c + r, none⟩ (.int .u8 ((b.getD m 0).toNat : Int))) := by
  obtain ⟨a, d, f, i, j, p, q, s⟩ := h
  rw [e]
  refine ⟨a, d, f, i, j.setCell d _, p.far f _, q.far i _, ?_⟩
  have := s.set (4 * c + r) (b.getD (4 * ((c + r * t) % 4) + r) 0)
  rw [← Nat.add_assoc, rotL, show (4 * c + r) / 4 = c by omega, show (4 * c + r) % 4 = r by omega]
  exact this
set_option maxRecDepth 40000 in
set_option maxHeartbeats 1000000 in
theorem prog_rot1 (b : List UInt8) (w : World) (hb : b.length = 16) :
    Calls Try.prog 57 #[.agg (Us b).toArray, .int .i64 1] w fun e w' => e = .returned (.agg (Us (rotL b 1 16)).toArray) ∧ Below w.heap.size w w' := by
  have HL := Lib.hid hb
  clear hb
  go_enter Try.func57, Try.ntmps57
  go_wp2_with (first
    | (refine wpList_box_b (op := ⟨some 2, _, _, _, _, _⟩) rfl 65 (.tmp 0) rfl b rfl ?_; intro g1 w1 hf1 hr1; have H1 := Lib.hid (And.intro hf1 hr1); clear hf1 hr1)
    | (refine wpList_alloc_b (op := ⟨some 4, _, _, _, _, _⟩) rfl 65 rfl 16 info_q ?_; intro g0 w2 hf0 hr0; have H0 := Lib.hid (And.intro hf0 hr0); clear hf0 hr0)
    | (refine wpList_alloc_b (op := ⟨some 5, _, _, _, _, _⟩) rfl 65 rfl 16 info_q ?_; intro g2 w3 hf2 hr2; have H2 := Lib.hid (And.intro hf2 hr2); clear hf2 hr2))
  have HI : Hid (RoR w g0 g1 g2 b 1 (4 * 0) w3) := by
    have b1 := H1.out.1.bl (Below.refl w.heap.size w)
    have b2 := H0.out.1.bl b1
    exact Lib.hid ⟨H0.out.1.ge b1, H2.out.1.ge b2, H0.out.2.ne H2.out.1, (H1.out.2.fresh H0.out.1).ne H2.out.1, H2.out.1.bl b2, H0.out.2.fresh H2.out.1, (H1.out.2.fresh H0.out.1).fresh H2.out.1, H2.out.2⟩
  clear H0 H1 H2
  go_loopw [6, 7, 8, 11] (fun _ _ i _ wr => ∃ c : Nat, c ≤ 4 ∧ i = .int .i64 (c : Int) ∧ Hid (RoR w g0 g1 g2 b 1 (4 * c) wr)) (fun _ _ i _ _ => 4 - (intOf i).toNat)
  case atStart => exact ⟨0, by decide, rfl, HI⟩
  case round =>
    clear HI
    obtain ⟨c, hc, rfl, HS⟩ := hrel
    by_cases h4 : c < 4
    · go_wp2_with fail
      obtain ⟨wo, hwo⟩ : ∃ wo : World, wo = wr := ⟨_, rfl⟩
      rw [← hwo] at HS ⊢
      clear hwo wr
      go_loopw [7, 11] (fun _ i wr => ∃ r : Nat, r ≤ 4 ∧ i = .int .i64 (r : Int) ∧ Hid (RoR w g0 g1 g2 b 1 (4 * c + r) wr)) (fun _ i _ => 4 - (intOf i).toNat)
      case atStart => exact ⟨0, by decide, rfl, HS⟩
      case round =>
        clear HS
        obtain ⟨r, hr, rfl, HS⟩ := hrel
        by_cases hr4 : r < 4
        · have y1 := HS.out.2.2.2.2.2.2.1.cell (k := 4 * ((c + r) % 4) + r) (by rw [HL.out]; omega)
          have y2 := HS.out.2.2.2.2.2.2.2.cell (k := 4 * c + r) (by rw [rotL_length]; omega)
          have yf := HS.out.2.2.2.2.2.2.2.free (4 * c + r)
          have e3 : 4 * (c : Int) + (r : Int) < 16 := by omega
          go_wp2_with fail
          go_roundw
          case rel => exact ⟨r + 1, by omega, by go_num, Lib.hid (HS.out.step hr4 (by omega))⟩
          case measure => simp [intOf]; omega
        · obtain rfl : r = 4 := by omega
          go_wp2_with fail
          go_roundw
          case rel => exact ⟨c + 1, by omega, by go_num, HS⟩
          case measure => simp [intOf]; omega
    · obtain rfl : c = 4 := by omega
      clear h4 hc
      have HR := Lib.hid (show RowB wr g2 (rotL b 1 16) ∧ RowB wr g0 (List.replicate 16 0) ∧ Below w.heap.size w wr ∧ w.heap.size ≤ g0 from ⟨HS.out.2.2.2.2.2.2.2, HS.out.2.2.2.2.2.1, HS.out.2.2.2.2.1, HS.out.1⟩)
      clear HS
      go_wp2_with (first | (refine wpList_load_b rfl 65 (.tmp 5) rfl g2 0 rfl (rotL b 1 16) 16 5 HR.out.1.whole Try.underlying65 (by rw [rotL_length]; exact size_q) ?_) | (refine wpList_store_all rfl 65 (.tmp 4) (.tmp 32) rfl g0 (List.replicate 16 0) (rotL b 1 16) rfl rfl HR.out.2.1 (by rw [rotL_length]; exact (List.length_replicate ..).symm) (by rw [rotL_length]; exact size_q) ?_; intro w5 hw5 hr5; have HE := Lib.hid (And.intro hw5 hr5); clear hw5 hr5))
      exact bodyPost_ret (results_b rfl _ _ g0 (rotL b 1 16) 16 5 rfl HE.out.2 Try.underlying65 (by rw [rotL_length]; exact size_q)) rfl ⟨rfl, HE.out.1.bl HR.out.2.2.1 HR.out.2.2.2⟩
set_option maxRecDepth 40000 in
set_option maxHeartbeats 1000000 in
theorem prog_rot3 (b : List UInt8) (w : World) (hb : b.length = 16) :
    Calls Try.prog 57 #[.agg (Us b).toArray, .int .i64 3] w fun e w' => e = .returned (.agg (Us (rotL b 3 16)).toArray) ∧ Below w.heap.size w w' := by
  have HL := Lib.hid hb
  clear hb
  go_enter Try.func57, Try.ntmps57
  go_wp2_with (first
    | (refine wpList_box_b (op := ⟨some 2, _, _, _, _, _⟩) rfl 65 (.tmp 0) rfl b rfl ?_; intro g1 w1 hf1 hr1; have H1 := Lib.hid (And.intro hf1 hr1); clear hf1 hr1)
    | (refine wpList_alloc_b (op := ⟨some 4, _, _, _, _, _⟩) rfl 65 rfl 16 info_q ?_; intro g0 w2 hf0 hr0; have H0 := Lib.hid (And.intro hf0 hr0); clear hf0 hr0)
    | (refine wpList_alloc_b (op := ⟨some 5, _, _, _, _, _⟩) rfl 65 rfl 16 info_q ?_; intro g2 w3 hf2 hr2; have H2 := Lib.hid (And.intro hf2 hr2); clear hf2 hr2))
  have HI : Hid (RoR w g0 g1 g2 b 3 (4 * 0) w3) := by
    have b1 := H1.out.1.bl (Below.refl w.heap.size w)
    have b2 := H0.out.1.bl b1
    exact Lib.hid ⟨H0.out.1.ge b1, H2.out.1.ge b2, H0.out.2.ne H2.out.1, (H1.out.2.fresh H0.out.1).ne H2.out.1, H2.out.1.bl b2, H0.out.2.fresh H2.out.1, (H1.out.2.fresh H0.out.1).fresh H2.out.1, H2.out.2⟩
  clear H0 H1 H2
  go_loopw [6, 7, 8, 11] (fun _ _ i _ wr => ∃ c : Nat, c ≤ 4 ∧ i = .int .i64 (c : Int) ∧ Hid (RoR w g0 g1 g2 b 3 (4 * c) wr)) (fun _ _ i _ _ => 4 - (intOf i).toNat)
  case atStart => exact ⟨0, by decide, rfl, HI⟩
  case round =>
    clear HI
    obtain ⟨c, hc, rfl, HS⟩ := hrel
    by_cases h4 : c < 4
    · go_wp2_with fail
      obtain ⟨wo, hwo⟩ : ∃ wo : World, wo = wr := ⟨_, rfl⟩
      rw [← hwo] at HS ⊢
      clear hwo wr
      go_loopw [7, 11] (fun _ i wr => ∃ r : Nat, r ≤ 4 ∧ i = .int .i64 (r : Int) ∧ Hid (RoR w g0 g1 g2 b 3 (4 * c + r) wr)) (fun _ i _ => 4 - (intOf i).toNat)
      case atStart => exact ⟨0, by decide, rfl, HS⟩
      case round =>
        clear HS
        obtain ⟨r, hr, rfl, HS⟩ := hrel
        by_cases hr4 : r < 4
        · have y1 := HS.out.2.2.2.2.2.2.1.cell (k := 4 * ((c + r * 3) % 4) + r) (by rw [HL.out]; omega)
          have y2 := HS.out.2.2.2.2.2.2.2.cell (k := 4 * c + r) (by rw [rotL_length]; omega)
          have yf := HS.out.2.2.2.2.2.2.2.free (4 * c + r)
          have e3 : 4 * (c : Int) + (r : Int) < 16 := by omega
          go_wp2_with fail
          go_roundw
          case rel => exact ⟨r + 1, by omega, by go_num, Lib.hid (HS.out.step hr4 (by omega))⟩
          case measure => simp [intOf]; omega
        · obtain rfl : r = 4 := by omega
          go_wp2_with fail
          go_roundw
          case rel => exact ⟨c + 1, by omega, by go_num, HS⟩
          case measure => simp [intOf]; omega
    · obtain rfl : c = 4 := by omega
      clear h4 hc
      have HR := Lib.hid (show RowB wr g2 (rotL b 3 16) ∧ RowB wr g0 (List.replicate 16 0) ∧ Below w.heap.size w wr ∧ w.heap.size ≤ g0 from ⟨HS.out.2.2.2.2.2.2.2, HS.out.2.2.2.2.2.1, HS.out.2.2.2.2.1, HS.out.1⟩)
      clear HS
      go_wp2_with (first | (refine wpList_load_b rfl 65 (.tmp 5) rfl g2 0 rfl (rotL b 3 16) 16 5 HR.out.1.whole Try.underlying65 (by rw [rotL_length]; exact size_q) ?_) | (refine wpList_store_all rfl 65 (.tmp 4) (.tmp 32) rfl g0 (List.replicate 16 0) (rotL b 3 16) rfl rfl HR.out.2.1 (by rw [rotL_length]; exact (List.length_replicate ..).symm) (by rw [rotL_length]; exact size_q) ?_; intro w5 hw5 hr5; have HE := Lib.hid (And.intro hw5 hr5); clear hw5 hr5))
      exact bodyPost_ret (results_b rfl _ _ g0 (rotL b 3 16) 16 5 rfl HE.out.2 Try.underlying65 (by rw [rotL_length]; exact size_q)) rfl ⟨rfl, HE.out.1.bl HR.out.2.2.1 HR.out.2.2.2⟩

end Go.Proofs.Ytipkaeeimohmpaa
