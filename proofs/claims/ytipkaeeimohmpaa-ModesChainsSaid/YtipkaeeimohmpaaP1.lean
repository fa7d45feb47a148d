/-
  What is proved here: what the program's double and inverses answer.
-/
import Derived.Test.YtipkaeeimohmpaaRows
import Derived.Test.YtipkaeeimohmpaaBt
import Derived.Test.YtipkaeeimohmpaaGf
namespace Go.Proofs.Ytipkaeeimohmpaa
open Go.RowKit
set_option linter.unusedVariables false

theorem info_t : (Try.prog.info? 67).map (fun i => (i.zero, i.size)) = some (some (.agg (Us (List.replicate 256 0)).toArray), 256) := by kernel_rfl
theorem info_u : (Try.prog.info? 79).map (fun i => (i.zero, i.size)) = some (some (.agg (Us (List.replicate 255 0)).toArray), 255) := by kernel_rfl
theorem size_t : (Try.prog.info? 67).map (·.size) = some 256 := by kernel_rfl

theorem and128 : ∀ n : Fin 256, bits .and .u8 (n.val : Int) 128 = if n.val < 128 then 0 else 128 := by decide +kernel
theorem dbl_lo : ∀ n : Fin 256, n.val < 128 → ((n.val : Int) * 2) = ((dbl (UInt8.ofNat n.val)).toNat : Int) := by decide +kernel
theorem dbl_hi : ∀ n : Fin 256, ¬ n.val < 128 → bits .xor .u8 ((n.val : Int) * 2 % 256) 27 = ((dbl (UInt8.ofNat n.val)).toNat : Int) := by decide +kernel
theorem prog_dbl (x : UInt8) (w : World) : Calls Try.prog 63 #[.int .u8 (x.toNat : Int)] w fun e w' => e = .returned (.int .u8 ((dbl x).toNat : Int)) ∧ w = w' := by
  have ha := and128 ⟨x.toNat, x.toNat_lt⟩
  have ho : UInt8.ofNat x.toNat = x := by simp
  have hl := x.toNat_lt
  by_cases h : x.toNat < 128
  · have hd := dbl_lo ⟨x.toNat, x.toNat_lt⟩ h
    simp only [if_pos h, ho] at ha hd
    have HD := Lib.hid hd
    clear hd ho
    go_enter Try.func63, Try.ntmps63
    go_wp2
    go_ret
    exact ⟨by show Ending.returned (.int .u8 _) = _; rw [HD.out], rfl⟩
  · have hd := dbl_hi ⟨x.toNat, x.toNat_lt⟩ h
    simp only [if_neg h, ho] at ha hd
    have HD := Lib.hid hd
    clear hd ho
    go_enter Try.func63, Try.ntmps63
    go_wp2
    go_ret
    exact ⟨by first | (show Ending.returned (.int .u8 _) = _; rw [HD.out]) | (rw [HD.out]; rfl), rfl⟩

def IvR (w : World) (g0 g1 g2 k : Nat) (wr : World) : Prop := w.heap.size ≤ g2 ∧ g0 ≠ g2 ∧ g1 ≠ g2 ∧ Below w.heap.size w wr ∧ RowB wr g0 (List.replicate 256 0) ∧ RowB wr g1 (pwL 255) ∧ RowB wr g2 (ivL k)
theorem IvR.drew {w wr : World} {g0 g1 g2 k : Nat} (h : IvR w g0 g1 g2 k wr) : IvR w g0 g1 g2 k wr.drew := ⟨h.1, h.2.1, h.2.2.1, h.2.2.2.1.drew, h.2.2.2.2⟩
theorem IvR.step {w wr : World} {g0 g1 g2 k m : Nat} {v : UInt8} (h : IvR w g0 g1 g2 k wr) (e : m = (255 - k) % 255 ∧ v = (pwL 255).getD k 0) :
    IvR w g0 g1 g2 (k + 1) (wr.setCell ⟨g2, v.toNat, none⟩ (.int .u8 (((pwL 255).getD m 0).toNat : Int))) := by
  obtain ⟨e1, e2⟩ := e
  obtain ⟨a, b, c, d, p, q, r⟩ := h
  refine ⟨a, b, c, d.setCell a _, p.far b _, q.far c _, ?_⟩
  have := r.set v.toNat ((pwL 255).getD m 0)
  rw [e1, e2] at this ⊢
  exact this
set_option maxRecDepth 40000 in
set_option maxHeartbeats 1000000 in
theorem prog_inverses (w : World) : Calls Try.prog 60 #[] w fun e w' => e = .returned (.agg (Us (ivL 255)).toArray) ∧ Below w.heap.size w w' := by
  go_enter Try.func60, Try.ntmps60
  go_wp2_with (first
    | (refine wpList_alloc_b rfl 67 rfl 256 info_t ?_; intro g0 w1 hf0 hr0; have H0 := Lib.hid (And.intro hf0 hr0); clear hf0 hr0)
    | (refine wpList_alloc_b rfl 79 rfl 255 info_u ?_; intro g1 w2 hf1 hr1; have H1 := Lib.hid (And.intro hf1 hr1); clear hf1 hr1))
  have HI : Hid (w.heap.size ≤ g0 ∧ w.heap.size ≤ g1 ∧ g0 ≠ g1 ∧ Below w.heap.size w w2 ∧ RowB w2 g0 (List.replicate 256 0) ∧ RowB w2 g1 (pwL 0)) := by
    have b1 := H0.out.1.bl (Below.refl w.heap.size w)
    exact Lib.hid ⟨H0.out.1.ge (Below.refl _ _), H1.out.1.ge b1, H0.out.2.ne H1.out.1, H1.out.1.bl b1, H0.out.2.fresh H1.out.1, H1.out.2⟩
  clear H0 H1
  go_loopw [2, 3, 6] (fun p _ i wr => ∃ k : Nat, k ≤ 255 ∧ i = .int .i64 (k : Int) ∧ p = .int .u8 ((pw k).toNat : Int) ∧ Hid (w.heap.size ≤ g0 ∧ w.heap.size ≤ g1 ∧ g0 ≠ g1 ∧ Below w.heap.size w wr ∧ RowB wr g0 (List.replicate 256 0) ∧ RowB wr g1 (pwL k))) (fun _ _ i _ => 255 - (intOf i).toNat)
  case atStart => exact ⟨0, by decide, rfl, rfl, HI⟩
  case round =>
    clear HI
    obtain ⟨k, hk, rfl, rfl, HS⟩ := hrel
    by_cases h255 : k < 255
    · have y1 := HS.out.2.2.2.2.2.cell (k := k) (by rw [pwL_length]; exact h255)
      have yf := HS.out.2.2.2.2.2.free k
      go_wp2_with (go_at_call 63; (with_reducible refine (prog_dbl _ _).mono ?_); rintro e w' ⟨rfl, rfl⟩)
      go_roundw
      case rel =>
        exact ⟨k + 1, by omega, by go_num, by rw [b_xor]; rfl, Lib.hid ⟨HS.out.1, HS.out.2.1, HS.out.2.2.1, HS.out.2.2.2.1.setCell HS.out.2.1 _, HS.out.2.2.2.2.1.far HS.out.2.2.1 _, HS.out.2.2.2.2.2.set k (pw k)⟩⟩
      case measure => simp [intOf]; omega
    · obtain rfl : k = 255 := by omega
      clear h255 hk
      go_wp2_with (refine wpList_alloc_b rfl 67 rfl 256 info_t ?_; intro g2 w3 hf2 hr2; have H2 := Lib.hid (And.intro hf2 hr2); clear hf2 hr2)
      have HI : Hid (IvR w g0 g1 g2 0 w3) :=
        Lib.hid ⟨H2.out.1.ge HS.out.2.2.2.1, HS.out.2.2.2.2.1.ne H2.out.1, HS.out.2.2.2.2.2.ne H2.out.1, H2.out.1.bl HS.out.2.2.2.1, HS.out.2.2.2.2.1.fresh H2.out.1, HS.out.2.2.2.2.2.fresh H2.out.1, H2.out.2⟩
      have H0 := Lib.hid HS.out.1
      clear H2 HS
      go_loopw [5, 17] (fun _ i wr => ∃ k : Nat, k ≤ 255 ∧ i = .int .i64 (k : Int) ∧ Hid (IvR w g0 g1 g2 k wr)) (fun _ i _ => 255 - (intOf i).toNat)
      case atStart => exact ⟨0, by decide, rfl, HI⟩
      case round =>
        clear HI
        obtain ⟨k, hk, rfl, HS⟩ := hrel
        by_cases h255 : k < 255
        · obtain ⟨m, hm⟩ : ∃ m, m = (255 - k) % 255 := ⟨_, rfl⟩
          have hm2 : m < 255 := by omega
          have y1 := HS.out.2.2.2.2.2.1.cell (k := k) (by rw [pwL_length]; exact h255)
          have y2 := HS.out.2.2.2.2.2.1.cell (k := m) (by rw [pwL_length]; omega)
          obtain ⟨v, hv⟩ : ∃ v, v = (pwL 255).getD k 0 := ⟨_, rfl⟩
          have hvl := v.toNat_lt
          rw [← hv] at y1
          have y3 := HS.out.2.2.2.2.2.2.cell (k := v.toNat) (by rw [ivL_length]; exact hvl)
          have yf := HS.out.2.2.2.2.2.2.free v.toNat
          have e1 : IntKind.i64.wrap (255 - (k : Int)) = 255 - (k : Int) := by rw [IntKind.wrap_i64]; omega
          have e2 : (255 - (k : Int)).tmod 255 = (m : Int) := by rw [Int.tmod_eq_emod_of_nonneg (by omega)]; omega
          have e3 : (255 - (k : Int)) % 255 = (m : Int) := by omega
          have e4 : IntKind.i64.wrap (m : Int) = (m : Int) := by rw [IntKind.wrap_i64]; omega
          have r1 : (0 : Int) ≤ (m : Int) ∧ (m : Int) < 255 := by omega
          have r2 : (m : Int) < 255 := by omega
          have r3 : (k : Int) < 255 := by omega
          have r4 : (v.toNat : Int) < 256 := by omega
          have HM := Lib.hid (And.intro hm hv)
          clear hm hv
          go_wp2_with fail
          go_still_tail 9, (by kernel_rfl)
          change wpList _ _ _ _ _ wr.drew
          have y3' : wr.drew.cell? _ = _ := y3
          have yf' : wr.drew.frozen? _ = _ := yf
          have HS2 : Hid (IvR w g0 g1 g2 k wr.drew) := Lib.hid HS.out.drew
          clear HS y1 y2 y3 yf
          generalize wr.drew = w4 at *
          go_wp2_with fail
          go_roundw
          case rel => exact ⟨k + 1, by omega, by go_num, Lib.hid (HS2.out.step HM.out)⟩
          case measure => simp [intOf]; omega
        · obtain rfl : k = 255 := by omega
          clear h255 hk
          have HR := Lib.hid (show RowB wr g2 (ivL 255) ∧ RowB wr g0 (List.replicate 256 0) ∧ Below w.heap.size w wr ∧ w.heap.size ≤ g0 from ⟨HS.out.2.2.2.2.2.2, HS.out.2.2.2.2.1, HS.out.2.2.2.1, H0.out⟩)
          clear HS
          go_wp2_with (first | (refine wpList_load_b rfl 67 (.tmp 4) rfl g2 0 rfl (ivL 255) 256 5 HR.out.1.whole Try.underlying67 (by rw [ivL_length]; exact size_t) ?_) | (refine wpList_store_all rfl 67 (.tmp 0) (.tmp 30) rfl g0 (List.replicate 256 0) (ivL 255) rfl rfl HR.out.2.1 (by rw [ivL_length]; exact (List.length_replicate ..).symm) (by rw [ivL_length]; exact size_t) ?_; intro w5 hw5 hr5; have HE := Lib.hid (And.intro hw5 hr5); clear hw5 hr5))
          exact bodyPost_ret (results_b rfl _ _ g0 (ivL 255) 256 5 rfl HE.out.2 Try.underlying67 (by rw [ivL_length]; exact size_t)) rfl ⟨rfl, HE.out.1.bl HR.out.2.2.1 HR.out.2.2.2⟩

end Go.Proofs.Ytipkaeeimohmpaa
