/-
  What is proved here: what Decode of package sign and of the reference's ninth layer answers, for all bytes that lie in memory.
-/
import Derived.Test.YtaikoeoabgkglaaDoorSf
namespace Go.Proofs.YtaikoeoabgkglaaDoor
open Go.RowKit
set_option linter.unusedVariables false

def dA (x : List UInt8) : Int := ((numL (x.take 4) : Nat) : Int)
def dB (x : List UInt8) : Int := ((numL (x.drop 4) : Nat) : Int)
def dcE (x : List UInt8) : Int := if x.length = 8 ∧ enB (dA x) (dB x) = true then dA x else 0
def dcS (x : List UInt8) : Int := if x.length = 8 ∧ enB (dA x) (dB x) = true then dB x else 0
def dcC (x : List UInt8) : Int := if x.length = 8 then (if enB (dA x) (dB x) = true then 0 else 3) else 2
theorem dc_yes {x : List UInt8} (h : x.length = 8) (g : enB (dA x) (dB x) = true) : dcE x = dA x ∧ dcS x = dB x ∧ dcC x = 0 := by simp [dcE, dcS, dcC, h, g]
theorem dc_no {x : List UInt8} (h : x.length = 8) (g : enB (dA x) (dB x) = false) : dcE x = 0 ∧ dcS x = 0 ∧ dcC x = 3 := by simp [dcE, dcS, dcC, h, g]
theorem dc_size {x : List UInt8} (h : ¬ x.length = 8) : dcE x = 0 ∧ dcS x = 0 ∧ dcC x = 2 := by simp [dcE, dcS, dcC, h]
theorem info_int1 : (Tryd.prog.info? 3).map (·.size) = some 1 := by kernel_rfl
/-- both halves of eight bytes -/
theorem halves8 {w : World} {A : Option Addr} {c : Nat} {x : List UInt8} (h : InB w A 8 c x) : ∃ b o, A = some ⟨b, o, none⟩ ∧ SeesP w (· < w.heap.size) (some ⟨b, o, none⟩) (Us (x.take 4)) ∧ SeesP w (· < w.heap.size) (some ⟨b, o + 4, none⟩) (Us (x.drop 4)) := by
  have h8 := h.1
  have hs := SeesP.iff_sees.1 h.2.2.2
  obtain ⟨b, o, rfl, hb, hc⟩ := hs.at_ (k := 0) (by rw [Us_length]; omega)
  refine ⟨b, o, rfl, h.2.2.2.first 4, .inr ⟨b, o + 4, rfl, hb, fun j hj => ?_⟩⟩
  rw [Us_length, List.length_drop] at hj
  rw [Nat.add_assoc, hc _ (by rw [Us_length]; omega), Us_drop, List.getElem?_drop]
/-- what the loop of the program's Decode keeps -/
def dcTo (x : List UInt8) : Nat → List Value
  | 0 => [.int .i64 0, .int .i64 0]
  | 1 => [.int .i64 (dA x), .int .i64 0]
  | _ => [.int .i64 (dA x), .int .i64 (dB x)]
def DcR (w : World) (g1 g2 : Nat) (x : List UInt8) (k : Nat) (wr : World) : Prop := Below w.heap.size w wr ∧ w.heap.size ≤ g1 ∧ w.heap.size ≤ g2 ∧ g1 ≠ g2 ∧ RowV wr g1 [.int .i64 0, .int .i64 0] ∧ RowV wr g2 (dcTo x k)
theorem DcR.next {w wr w2 : World} {g1 g2 k : Nat} {x : List UInt8} (h : DcR w g1 g2 x k wr) (hw : Wr wr w2 g2) (hr : RowV w2 g2 (dcTo x (k + 1))) : DcR w g1 g2 x (k + 1) w2 :=
  ⟨hw.bl h.1 h.2.2.1, h.2.1, h.2.2.1, h.2.2.2.1, h.2.2.2.2.1.wr hw h.2.2.2.1, hr⟩
theorem dc_t0 {w : World} {g : Nat} {x : List UInt8} (h : RowV w g (dcTo x 0)) : RowV w g [.int .i64 0, .int .i64 0] := h
theorem dc_t1 {w : World} {g : Nat} {x : List UInt8} (h : RowV w g (dcTo x 1)) : RowV w g [.int .i64 (dA x), .int .i64 0] := h
theorem dc_s1 {w : World} {g : Nat} {x : List UInt8} (h : RowV w g ([Value.int .i64 0, .int .i64 0].set 0 (.int .i64 (dA x)))) : RowV w g (dcTo x (0 + 1)) := h
theorem dc_s2 {w : World} {g : Nat} {x : List UInt8} (h : RowV w g ([Value.int .i64 (dA x), .int .i64 0].set 1 (.int .i64 (dB x)))) : RowV w g (dcTo x (1 + 1)) := h
set_option maxRecDepth 40000 in
set_option maxHeartbeats 1000000 in
theorem sg_decode {x : List UInt8} {A : Option Addr} {n c : Nat} {w : World} (hx : InB w A n c x) (hc : n ≤ c) : Calls Tryd.prog 18 #[.slice A n c] w (GvS w (dcE x) (dcS x) (dcC x)) := by
  by_cases h8 : n = 8
  · subst h8
    obtain ⟨b, o, rfl, s1, s2⟩ := halves8 hx
    have hi := fun w => in_range (dA x) (dB x) w
    have n1 := fun (w' : World) (c' : Nat) (hb : Below w.heap.size w w') => num4 (x.take 4) (some ⟨b, o, none⟩) 4 c' w' (SeesP.iff_sees.1 (s1.ony hb)) (by rw [List.length_take, hx.1]; rfl) rfl
    have n2 := fun (w' : World) (c' : Nat) (hb : Below w.heap.size w w') => num4 (x.drop 4) (some ⟨b, o + 4, none⟩) 4 c' w' (SeesP.iff_sees.1 (s2.ony hb)) (by rw [List.length_drop, hx.1]) rfl
    have hfin : (enB (dA x) (dB x) = true ∧ dcE x = dA x ∧ dcS x = dB x ∧ dcC x = 0) ∨ (enB (dA x) (dB x) = false ∧ dcE x = 0 ∧ dcS x = 0 ∧ dcC x = 3) := by
      by_cases hb : enB (dA x) (dB x) = true
      · exact .inl ⟨hb, dc_yes hx.1 hb⟩
      · have hf : enB (dA x) (dB x) = false := by simpa using hb
        exact .inr ⟨hf, dc_no hx.1 hf⟩
    have HA := Lib.hid (show ((numL (x.take 4) : Nat) : Int) = dA x ∧ ((numL (x.drop 4) : Nat) : Int) = dB x from ⟨rfl, rfl⟩)
    have HN := Lib.hid (And.intro n1 n2)
    have HF := Lib.hid hfin
    have HI := Lib.hid hi
    clear hx s1 s2 n1 n2 hfin hi
    go_enter Tryd.func18, Tryd.ntmps18
    go_wp2_with (first
      | (refine wpList_alloc_v (op := ⟨some 2, _, _, _, _, _⟩) rfl 24 rfl [.int .i64 0, .int .i64 0] info_sg ?_; intro g1 w1 hf1 hr1; have H1 := Lib.hid (show Below w.heap.size w w1 ∧ w.heap.size ≤ g1 ∧ RowV w1 g1 _ from ⟨hf1.bw, hf1.ge (Below.refl _ _), hr1⟩); clear hf1 hr1)
      | (refine wpList_alloc_v (op := ⟨some 4, _, _, _, _, _⟩) rfl 50 rfl [.int .i64 0, .int .i64 0] info_n2 ?_; intro g2 w2 hf2 hr2; have H2 := Lib.hid (show DcR w g1 g2 x 0 w2 from ⟨hf2.bl H1.out.1, H1.out.2.1, hf2.ge H1.out.1, H1.out.2.2.ne hf2, H1.out.2.2.fresh hf2, hr2⟩); clear hf2 hr2))
    go_loopw [10] (fun i wr => ∃ k : Nat, k ≤ 2 ∧ i = .int .i64 (k : Int) ∧ Hid (DcR w g1 g2 x k wr)) (fun i _ => 2 - (intOf i).toNat)
    case atStart => exact ⟨0, by omega, rfl, H2⟩
    case round =>
      obtain ⟨k, hk, rfl, HK⟩ := hrel
      have HB := Lib.hid (show Below w.heap.size w wr from HK.out.1)
      rcases Nat.lt_or_ge k 1 with h | h
      · obtain rfl : k = 0 := by omega
        clear h hk
        go_wp2_with (first
          | (go_at_call 38; ((with_reducible refine (HN.out.1 _ _ HB.out).mono ?_); rintro en w' ⟨rfl, rfl⟩); rw [HA.out.1])
          | (refine wpList_store_at rfl 3 (.tmp 25) (.tmp 23) rfl g2 0 [.int .i64 0, .int .i64 0] (.int .i64 (dA x)) rfl rfl (dc_t0 HK.out.2.2.2.2.2) (by decide) rfl rfl info_int1 ?_; intro w3 hw3 hr3; have H3 := Lib.hid (HK.out.next hw3 (dc_s1 hr3)); clear hw3 hr3))
        go_roundw
        case rel => exact ⟨1, by omega, by go_num, H3⟩
        case measure => simp [intOf]
      · rcases Nat.lt_or_ge k 2 with h2 | h2
        · obtain rfl : k = 1 := by omega
          clear h hk h2
          go_wp2_with (first
            | (go_at_call 38; ((with_reducible refine (HN.out.2 _ _ HB.out).mono ?_); rintro en w' ⟨rfl, rfl⟩); rw [HA.out.2])
            | (refine wpList_store_at rfl 3 (.tmp 25) (.tmp 23) rfl g2 1 [.int .i64 (dA x), .int .i64 0] (.int .i64 (dB x)) rfl rfl (dc_t1 HK.out.2.2.2.2.2) (by simp) rfl rfl info_int1 ?_; intro w3 hw3 hr3; have H3 := Lib.hid (HK.out.next hw3 (dc_s2 hr3)); clear hw3 hr3))
          go_roundw
          case rel => exact ⟨2, by omega, by go_num, H3⟩
          case measure => simp [intOf]
        · obtain rfl : k = 2 := by omega
          clear h hk h2
          rcases HF.out with ⟨hb, v1, v2, v3⟩ | ⟨hb, v1, v2, v3⟩
          · have HV := Lib.hid (show _ ∧ _ ∧ _ from ⟨v1, v2, v3⟩)
            have HI2 := HI.out
            rw [show (smB (dA x) && smB (dB x)) = true from hb] at HI2
            have HI3 := Lib.hid HI2
            have HR2 := Lib.hid (show RowV wr g2 [.int .i64 (dA x), .int .i64 (dB x)] from HK.out.2.2.2.2.2)
            clear v1 v2 v3 HI2 HI HF HN HA hb
            go_wp2_with (first
              | (refine wpList_load_v (op := ⟨some 27, _, _, _, _, _⟩) rfl 50 (.tmp 4) rfl g2 rfl [.int .i64 (dA x), .int .i64 (dB x)] (.array 2 3) HR2.out Tryd.underlying50 rfl size_n2 ?_)
              | (go_at_call 32; ((with_reducible refine (HI3.out _).mono ?_); rintro en w4 ⟨rfl, b4⟩); have H4 := Lib.hid (show Below w.heap.size w w4 ∧ RowV w4 g1 [.int .i64 0, .int .i64 0] from ⟨below_on HK.out.1 b4, HK.out.2.2.2.2.1.on b4⟩); have c0 : w4.cell? ⟨g2, 0, none⟩ = some (.int .i64 (dA x)) := (HR2.out.on b4).cell 0; have c1 : w4.cell? ⟨g2, 1, none⟩ = some (.int .i64 (dB x)) := (HR2.out.on b4).cell 1; clear b4)
              | (refine wpList_store_v rfl 24 (.tmp 2) (.tmp 35) rfl g1 [.int .i64 0, .int .i64 0] [.int .i64 (dA x), .int .i64 (dB x)] rfl rfl H4.out.2 rfl (one2 _ _) size_sg ?_; intro w5 hw5 hr5; have H5 := Lib.hid (show Below w.heap.size w w5 ∧ RowV w5 g1 _ from ⟨hw5.bl H4.out.1 HK.out.2.1, hr5⟩); clear hw5 hr5 c0 c1))
            exact bodyPost_ret (results_v1 rfl _ _ g1 [.int .i64 (dA x), .int .i64 (dB x)] _ rfl H5.out.2 Tryd.underlying24 rfl size_sg) rfl ⟨by rw [HV.out.1, HV.out.2.1, HV.out.2.2]; rfl, H5.out.1⟩
          · have HV := Lib.hid (show _ ∧ _ ∧ _ from ⟨v1, v2, v3⟩)
            have HI2 := HI.out
            rw [show (smB (dA x) && smB (dB x)) = false from hb] at HI2
            have HI3 := Lib.hid HI2
            have HR2 := Lib.hid (show RowV wr g2 [.int .i64 (dA x), .int .i64 (dB x)] from HK.out.2.2.2.2.2)
            clear v1 v2 v3 HI2 HI HF HN HA hb
            go_wp2_with (first
              | (refine wpList_load_v (op := ⟨some 27, _, _, _, _, _⟩) rfl 50 (.tmp 4) rfl g2 rfl [.int .i64 (dA x), .int .i64 (dB x)] (.array 2 3) HR2.out Tryd.underlying50 rfl size_n2 ?_)
              | (go_at_call 32; ((with_reducible refine (HI3.out _).mono ?_); rintro en w4 ⟨rfl, b4⟩); have H4 := Lib.hid (show Below w.heap.size w w4 ∧ RowV w4 g1 [.int .i64 0, .int .i64 0] from ⟨below_on HK.out.1 b4, HK.out.2.2.2.2.1.on b4⟩); clear b4)
              | (refine wpList_store_v rfl 24 (.tmp 2) (.tmp 30) rfl g1 [.int .i64 0, .int .i64 0] [.int .i64 0, .int .i64 0] rfl rfl H4.out.2 rfl (one2 _ _) size_sg ?_; intro w5 hw5 hr5; have H5 := Lib.hid (show Below w.heap.size w w5 ∧ RowV w5 g1 _ from ⟨hw5.bl H4.out.1 HK.out.2.1, hr5⟩); clear hw5 hr5))
            exact bodyPost_ret (results_v1 rfl _ _ g1 [.int .i64 0, .int .i64 0] _ rfl H5.out.2 Tryd.underlying24 rfl size_sg) rfl ⟨by rw [HV.out.1, HV.out.2.1, HV.out.2.2]; rfl, H5.out.1⟩
  · obtain ⟨v1, v2, v3⟩ := dc_size (x := x) (by rw [hx.1]; exact h8)
    rw [v1, v2, v3]
    have hd : ((n : Int) != 8) = true := by rw [bne_iff_ne]; omega
    clear v1 v2 v3 h8 hx
    go_enter Tryd.func18, Tryd.ntmps18
    go_wp2_with (first
      | (refine wpList_alloc_v (op := ⟨some 2, _, _, _, _, _⟩) rfl 24 rfl [.int .i64 0, .int .i64 0] info_sg ?_; intro g1 w1 hf1 hr1; have H1 := Lib.hid (show Below w.heap.size w w1 ∧ w.heap.size ≤ g1 ∧ RowV w1 g1 _ from ⟨hf1.bw, hf1.ge (Below.refl _ _), hr1⟩); clear hf1 hr1)
      | (refine wpList_store_v rfl 24 (.tmp 2) (.tmp 9) rfl g1 [.int .i64 0, .int .i64 0] [.int .i64 0, .int .i64 0] rfl rfl H1.out.2.2 rfl (one2 _ _) size_sg ?_; intro w4 hw4 hr4; have H4 := Lib.hid (show Below w.heap.size w w4 ∧ RowV w4 g1 _ from ⟨hw4.bl H1.out.1 H1.out.2.1, hr4⟩); clear hw4 hr4))
    exact bodyPost_ret (results_v1 rfl _ _ g1 [.int .i64 0, .int .i64 0] _ rfl H4.out.2 Tryd.underlying24 rfl size_sg) rfl ⟨rfl, H4.out.1⟩
set_option maxHeartbeats 1000000 in
theorem ref_decode9 {x : List UInt8} {A : Option Addr} {n c : Nat} {w : World} (hx : InB w A n c x) (hc : n ≤ c) : Calls Tryd.prog 19 #[.slice A n c] w (GvS w (dcE x) (dcS x) (dcC x)) := by
  by_cases h8 : n = 8
  · subst h8
    obtain ⟨b, o, rfl, s1, s2⟩ := halves8 hx
    have n1 := fun (w' : World) (c' : Nat) (hb : Below w.heap.size w w') => rnum4 (x.take 4) (some ⟨b, o, none⟩) 4 c' w' (SeesP.iff_sees.1 (s1.ony hb)) (by rw [List.length_take, hx.1]; rfl) rfl
    have n2 := fun (w' : World) (c' : Nat) (hb : Below w.heap.size w w') => rnum4 (x.drop 4) (some ⟨b, o + 4, none⟩) 4 c' w' (SeesP.iff_sees.1 (s2.ony hb)) (by rw [List.length_drop, hx.1]) rfl
    have m1 := fun w => ref_small (dA x) w
    have m2 := fun w => ref_small (dB x) w
    have HA := Lib.hid (show ((numL (x.take 4) : Nat) : Int) = dA x ∧ ((numL (x.drop 4) : Nat) : Int) = dB x from ⟨rfl, rfl⟩)
    have HN := Lib.hid (And.intro n1 n2)
    have hl := hx.1
    have hd : ((8 : Int) != 8) = false := rfl
    clear hx s1 s2 n1 n2
    by_cases he : smB (dA x) = true
    · rw [he] at m1
      by_cases hs : smB (dB x) = true
      · rw [hs] at m2
        obtain ⟨v1, v2, v3⟩ := dc_yes hl (by unfold enB; rw [he, hs]; rfl)
        rw [v1, v2, v3]
        have HM := Lib.hid (And.intro m1 m2)
        clear v1 v2 v3 he hs hl m1 m2
        go_enter Tryd.func19, Tryd.ntmps19
        go_wp2_with (first
          | (refine wpList_alloc_v (op := ⟨some 2, _, _, _, _, _⟩) rfl 24 rfl [.int .i64 0, .int .i64 0] info_sg ?_; intro g1 w1 hf1 hr1; have H1 := Lib.hid (show Below w.heap.size w w1 ∧ w.heap.size ≤ g1 ∧ RowV w1 g1 _ from ⟨hf1.bw, hf1.ge (Below.refl _ _), hr1⟩); clear hf1 hr1)
          | (go_at_call 39; ((with_reducible refine (HN.out.1 _ _ H1.out.1).mono ?_); rintro en w' ⟨rfl, rfl⟩); rw [HA.out.1])
          | (go_at_call 39; ((with_reducible refine (HN.out.2 _ _ H1.out.1).mono ?_); rintro en w' ⟨rfl, rfl⟩); rw [HA.out.2])
          | (go_at_call 36; ((with_reducible refine (HM.out.1 _).mono ?_); rintro en w' ⟨rfl, rfl⟩))
          | (go_at_call 36; ((with_reducible refine (HM.out.2 _).mono ?_); rintro en w' ⟨rfl, rfl⟩))
          | (refine wpList_store_v rfl 24 (.tmp 2) (.tmp 35) rfl g1 [.int .i64 0, .int .i64 0] [.int .i64 (dA x), .int .i64 (dB x)] rfl rfl H1.out.2.2 rfl (one2 _ _) size_sg ?_; intro w5 hw5 hr5; have H5 := Lib.hid (show Below w.heap.size w w5 ∧ RowV w5 g1 _ from ⟨hw5.bl H1.out.1 H1.out.2.1, hr5⟩); clear hw5 hr5))
        exact bodyPost_ret (results_v1 rfl _ _ g1 [.int .i64 (dA x), .int .i64 (dB x)] _ rfl H5.out.2 Tryd.underlying24 rfl size_sg) rfl ⟨rfl, H5.out.1⟩
      · have hf : smB (dB x) = false := by simpa using hs
        rw [hf] at m2
        obtain ⟨v1, v2, v3⟩ := dc_no hl (by unfold enB; rw [hf, Bool.and_false])
        rw [v1, v2, v3]
        have HM := Lib.hid (And.intro m1 m2)
        clear v1 v2 v3 he hs hf hl m1 m2
        go_enter Tryd.func19, Tryd.ntmps19
        go_wp2_with (first
          | (refine wpList_alloc_v (op := ⟨some 2, _, _, _, _, _⟩) rfl 24 rfl [.int .i64 0, .int .i64 0] info_sg ?_; intro g1 w1 hf1 hr1; have H1 := Lib.hid (show Below w.heap.size w w1 ∧ w.heap.size ≤ g1 ∧ RowV w1 g1 _ from ⟨hf1.bw, hf1.ge (Below.refl _ _), hr1⟩); clear hf1 hr1)
          | (go_at_call 39; ((with_reducible refine (HN.out.1 _ _ H1.out.1).mono ?_); rintro en w' ⟨rfl, rfl⟩); rw [HA.out.1])
          | (go_at_call 39; ((with_reducible refine (HN.out.2 _ _ H1.out.1).mono ?_); rintro en w' ⟨rfl, rfl⟩); rw [HA.out.2])
          | (go_at_call 36; ((with_reducible refine (HM.out.1 _).mono ?_); rintro en w' ⟨rfl, rfl⟩))
          | (go_at_call 36; ((with_reducible refine (HM.out.2 _).mono ?_); rintro en w' ⟨rfl, rfl⟩))
          | (refine wpList_store_v rfl 24 (.tmp 2) (.tmp 32) rfl g1 [.int .i64 0, .int .i64 0] [.int .i64 0, .int .i64 0] rfl rfl H1.out.2.2 rfl (one2 _ _) size_sg ?_; intro w5 hw5 hr5; have H5 := Lib.hid (show Below w.heap.size w w5 ∧ RowV w5 g1 _ from ⟨hw5.bl H1.out.1 H1.out.2.1, hr5⟩); clear hw5 hr5))
        exact bodyPost_ret (results_v1 rfl _ _ g1 [.int .i64 0, .int .i64 0] _ rfl H5.out.2 Tryd.underlying24 rfl size_sg) rfl ⟨rfl, H5.out.1⟩
    · have hf : smB (dA x) = false := by simpa using he
      rw [hf] at m1
      obtain ⟨v1, v2, v3⟩ := dc_no hl (by unfold enB; rw [hf, Bool.false_and])
      rw [v1, v2, v3]
      have HM := Lib.hid m1
      clear v1 v2 v3 he hf hl m1 m2
      go_enter Tryd.func19, Tryd.ntmps19
      go_wp2_with (first
        | (refine wpList_alloc_v (op := ⟨some 2, _, _, _, _, _⟩) rfl 24 rfl [.int .i64 0, .int .i64 0] info_sg ?_; intro g1 w1 hf1 hr1; have H1 := Lib.hid (show Below w.heap.size w w1 ∧ w.heap.size ≤ g1 ∧ RowV w1 g1 _ from ⟨hf1.bw, hf1.ge (Below.refl _ _), hr1⟩); clear hf1 hr1)
        | (go_at_call 39; ((with_reducible refine (HN.out.1 _ _ H1.out.1).mono ?_); rintro en w' ⟨rfl, rfl⟩); rw [HA.out.1])
        | (go_at_call 39; ((with_reducible refine (HN.out.2 _ _ H1.out.1).mono ?_); rintro en w' ⟨rfl, rfl⟩); rw [HA.out.2])
        | (go_at_call 36; ((with_reducible refine (HM.out _).mono ?_); rintro en w' ⟨rfl, rfl⟩))
        | (refine wpList_store_v rfl 24 (.tmp 2) (.tmp 32) rfl g1 [.int .i64 0, .int .i64 0] [.int .i64 0, .int .i64 0] rfl rfl H1.out.2.2 rfl (one2 _ _) size_sg ?_; intro w5 hw5 hr5; have H5 := Lib.hid (show Below w.heap.size w w5 ∧ RowV w5 g1 _ from ⟨hw5.bl H1.out.1 H1.out.2.1, hr5⟩); clear hw5 hr5))
      exact bodyPost_ret (results_v1 rfl _ _ g1 [.int .i64 0, .int .i64 0] _ rfl H5.out.2 Tryd.underlying24 rfl size_sg) rfl ⟨rfl, H5.out.1⟩
  · obtain ⟨v1, v2, v3⟩ := dc_size (x := x) (by rw [hx.1]; exact h8)
    rw [v1, v2, v3]
    have hd : ((n : Int) != 8) = true := by rw [bne_iff_ne]; omega
    clear v1 v2 v3 h8 hx
    go_enter Tryd.func19, Tryd.ntmps19
    go_wp2_with (first
      | (refine wpList_alloc_v (op := ⟨some 2, _, _, _, _, _⟩) rfl 24 rfl [.int .i64 0, .int .i64 0] info_sg ?_; intro g1 w1 hf1 hr1; have H1 := Lib.hid (show Below w.heap.size w w1 ∧ w.heap.size ≤ g1 ∧ RowV w1 g1 _ from ⟨hf1.bw, hf1.ge (Below.refl _ _), hr1⟩); clear hf1 hr1)
      | (refine wpList_store_v rfl 24 (.tmp 2) (.tmp 11) rfl g1 [.int .i64 0, .int .i64 0] [.int .i64 0, .int .i64 0] rfl rfl H1.out.2.2 rfl (one2 _ _) size_sg ?_; intro w4 hw4 hr4; have H4 := Lib.hid (show Below w.heap.size w w4 ∧ RowV w4 g1 _ from ⟨hw4.bl H1.out.1 H1.out.2.1, hr4⟩); clear hw4 hr4))
    exact bodyPost_ret (results_v1 rfl _ _ g1 [.int .i64 0, .int .i64 0] _ rfl H4.out.2 Tryd.underlying24 rfl size_sg) rfl ⟨rfl, H4.out.1⟩
end Go.Proofs.YtaikoeoabgkglaaDoor
