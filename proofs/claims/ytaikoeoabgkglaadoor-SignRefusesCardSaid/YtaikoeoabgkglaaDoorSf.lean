/-
  What is proved here: what the reference's Encode of the ninth layer answers, for all numbers.
-/
import Derived.Test.YtaikoeoabgkglaaDoorSe
import Derived.Deep.RegionHeld3
namespace Go.Proofs.YtaikoeoabgkglaaDoor
open Go.RowKit
set_option linter.unusedVariables false

theorem cells2 {w : World} {g : Nat} {e s : Int} (h : RowV w g [.int .i64 e, .int .i64 s]) : w.cell? ⟨g, 0, none⟩ = some (.int .i64 e) ∧ w.cell? ⟨g, 1, none⟩ = some (.int .i64 s) := ⟨h.cell 0, h.cell 1⟩
theorem ref_join8 {A B : Option Addr} {ca cb : Nat} {x y : List UInt8} {w : World} (hx : InB w A 4 ca x) (hy : InB w B 4 cb y) :
    Calls Tryd.prog 27 #[.slice A 4 ca, .slice B 4 cb] w (MkN w 8 (x ++ y)) := ref_join9 hx hy rfl (by decide)
set_option maxRecDepth 40000 in
set_option maxHeartbeats 1000000 in
theorem ref_encode9 (e s : Int) (w : World) : Calls Tryd.prog 17 #[.agg #[.int .i64 e, .int .i64 s]] w (GivesJ w (ecN e s) (ecX e s) (ecC e s)) := by
  have h1 := fun w => ref_small e w
  have h2 := fun w => ref_small s w
  by_cases he : smB e = true
  · rw [he] at h1
    by_cases hs : smB s = true
    · rw [hs] at h2
      have hb : enB e s = true := by unfold enB; rw [he, hs]; rfl
      obtain ⟨v1, v2, v3⟩ := ec_yes hb
      rw [v1, v2, v3]
      obtain ⟨e1, e2⟩ := smB_yes he
      obtain ⟨s1, s2⟩ := smB_yes hs
      have H := Lib.hid (And.intro h1 h2)
      clear v1 v2 v3 hb he hs h1 h2
      go_enter Tryd.func17, Tryd.ntmps17
      go_wp2_with (first
        | (go_at_call 36; ((with_reducible refine (H.out.1 _).mono ?_); rintro en w' ⟨rfl, rfl⟩))
        | (go_at_call 36; ((with_reducible refine (H.out.2 _).mono ?_); rintro en w' ⟨rfl, rfl⟩)))
      obtain ⟨w2, hw2⟩ : ∃ w2, w2 = w.alloc (.cells #[.int .i64 e, .int .i64 s] 24) := ⟨_, rfl⟩
      have H2 := Lib.hid (show Below w.heap.size w w2.drew ∧ RowV w2.drew w.heap.size [.int .i64 e, .int .i64 s] from by rw [hw2]; exact ⟨(below_al w _).drew, (row_al2 w e s _).drew⟩)
      rw [← hw2]
      clear hw2
      go_region_held3 (fun w' => w'.cell? ⟨w.heap.size, 0, none⟩ = some (.int .i64 e) ∧ w'.cell? ⟨w.heap.size, 1, none⟩ = some (.int .i64 s))
        (first | exact cells2 H5.out.2.2 | exact cells2 H4.out.2.2.2 | exact cells2 H3.out.2.2 | exact cells2 H2.out.2)
        (first
          | (go_at_call 28; ((with_reducible refine (ref_fourZ9 (n := e) e1 (by omega)).mono ?_); rintro en w3 ⟨A3, c3, rfl, i3, b3⟩); have H3 := Lib.hid (show _ ∧ Below w.heap.size w w3 ∧ RowV w3 w.heap.size [.int .i64 e, .int .i64 s] from ⟨i3, below_on H2.out.1 b3, H2.out.2.on b3⟩); clear i3 b3)
          | (go_at_call 28; ((with_reducible refine (ref_fourZ9 (n := s) s1 (by omega)).mono ?_); rintro en w4 ⟨A4, c4, rfl, i4, b4⟩); have H4 := Lib.hid (show _ ∧ _ ∧ Below w.heap.size w w4 ∧ RowV w4 w.heap.size [.int .i64 e, .int .i64 s] from ⟨i4, H3.out.1.on b4, below_on H3.out.2.1 b4, H3.out.2.2.on b4⟩); clear i4 b4)
          | (go_at_call 27; ((with_reducible refine (ref_join8 H4.out.2.1 H4.out.1).mono ?_); rintro en w5 h5; obtain ⟨A5, c5, rfl, l5, i5, b5⟩ := h5.inB (four2_len _ _) (by decide)); have H5 := Lib.hid (show (InB w5 A5 8 c5 _ ∧ 8 ≤ c5) ∧ Below w.heap.size w w5 ∧ RowV w5 w.heap.size [.int .i64 e, .int .i64 s] from ⟨⟨i5, l5⟩, below_on H4.out.2.2.1 b5, H4.out.2.2.2.on b5⟩); clear i5 b5 l5 h5))
      go_wp2
      go_ret2
      exact ⟨A5, c5, rfl, H5.out.1.1, H5.out.1.2, H5.out.2.1⟩
    · have hf : smB s = false := by simpa using hs
      obtain ⟨v1, v2, v3⟩ := ec_no (e := e) (s := s) (by unfold enB; rw [hf, Bool.and_false])
      rw [v1, v2, v3]
      rw [hf] at h2
      have H := Lib.hid (And.intro h1 h2)
      clear v1 v2 v3 he hs h1 h2 hf
      go_enter Tryd.func17, Tryd.ntmps17
      go_wp2_with (first
        | (go_at_call 36; ((with_reducible refine (H.out.1 _).mono ?_); rintro en w' ⟨rfl, rfl⟩))
        | (go_at_call 36; ((with_reducible refine (H.out.2 _).mono ?_); rintro en w' ⟨rfl, rfl⟩)))
      go_ret2
      exact ⟨none, 0, rfl, InB.nil_, Nat.le_refl _, below_al w _⟩
  · have hf : smB e = false := by simpa using he
    obtain ⟨v1, v2, v3⟩ := ec_no (e := e) (s := s) (by unfold enB; rw [hf, Bool.false_and])
    rw [v1, v2, v3]
    rw [hf] at h1
    have H := Lib.hid h1
    clear v1 v2 v3 he h1 h2 hf
    go_enter Tryd.func17, Tryd.ntmps17
    go_wp2_with (go_at_call 36; ((with_reducible refine (H.out _).mono ?_); rintro en w' ⟨rfl, rfl⟩))
    go_ret2
    exact ⟨none, 0, rfl, InB.nil_, Nat.le_refl _, below_al w _⟩
end Go.Proofs.YtaikoeoabgkglaaDoor
