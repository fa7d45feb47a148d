/-
  What is proved here: the check digit of a text by the program and by the reference, for every text of at most 2^47 bytes; the program's weights lie in memory.
-/
import Derived.Test.YtdlcoilpkelbaaaGreatDoorRows
import Derived.Test.YtdlcoilpkelbaaaGreatDoorKit
import Derived.Test.YtdlcoilpkelbaaaGreatDoorStr
import Derived.Test.YtdlcoilpkelbaaaGreatDoorOv
namespace Go.Proofs.YtdlcoilpkelbaaaGreatDoor
open Go.RowKit

/-- the weight of a place -/
def wt (k : Nat) : Int := if k % 3 = 0 then 7 else if k % 3 = 1 then 3 else 1
def sumL (x : List UInt8) : Nat → Int
  | 0 => 0
  | k + 1 => sumL x k + vI (cB x k) * wt k
theorem sumL_succ (x : List UInt8) (k : Nat) : sumL x (k + 1) = sumL x k + vI (cB x k) * wt k := rfl
theorem wt_cases (k : Nat) : wt k = 7 ∨ wt k = 3 ∨ wt k = 1 := by
  unfold wt
  split
  · simp
  · split <;> simp
theorem sumL_bd {x : List UInt8} (hv : validL x = true) (k : Nat) (hk : k ≤ x.length) : 0 ≤ sumL x k ∧ sumL x k ≤ 245 * k := by
  induction k with
  | zero => simp [sumL]
  | succ k ih =>
    have h1 := ih (by omega)
    have h2 := validL_at hv k (by omega)
    have h3 := (vI_le (cB x k)).2
    rw [sumL_succ]
    rcases wt_cases k with e | e | e <;> rw [e] <;> omega
/-- the check digit, and the code -/
def dgL (x : List UInt8) : List UInt8 := if validL x = true then [UInt8.ofNat (48 + sumL x x.length % 10).toNat] else []
def dgE (x : List UInt8) : Int := if validL x = true then 0 else 12
/-- the weights lie in memory -/
def TabW (w : World) : Prop := w.cell? ⟨1, 0, none⟩ = some (.int .i64 7) ∧ w.cell? ⟨1, 1, none⟩ = some (.int .i64 3) ∧ w.cell? ⟨1, 2, none⟩ = some (.int .i64 1)

/-- an element of the reference's three weights -/
theorem wt_index0 (w : World) : (Instr.index 99 (.agg #[.int .i64 7, .int .i64 3, .int .i64 1]) (.int .i64 0)).run Tryz.prog w = .ok (.int .i64 7) w := by
  have hu := Tryz.underlying99
  have hz := Tryz.sizeOf3
  simp [Instr.index, asIntOf, run_underlying hu, hz, go_sem, part]
theorem wt_index1 (w : World) : (Instr.index 99 (.agg #[.int .i64 7, .int .i64 3, .int .i64 1]) (.int .i64 1)).run Tryz.prog w = .ok (.int .i64 3) w := by
  have hu := Tryz.underlying99
  have hz := Tryz.sizeOf3
  simp [Instr.index, asIntOf, run_underlying hu, hz, go_sem, part]
theorem wt_index2 (w : World) : (Instr.index 99 (.agg #[.int .i64 7, .int .i64 3, .int .i64 1]) (.int .i64 2)).run Tryz.prog w = .ok (.int .i64 1) w := by
  have hu := Tryz.underlying99
  have hz := Tryz.sizeOf3
  simp [Instr.index, asIntOf, run_underlying hu, hz, go_sem, part]
theorem tabW_drew {w wr : World} {a : Addr} {v : Value} (h : ∃ n, wr = w.drewN n) (hc : w.cell? a = some v) : wr.cell? a = some v := by obtain ⟨n, rfl⟩ := h; exact hc
theorem p_itoa (i : Int) (h0 : 0 ≤ i) (h : i < 10) (w : World) : Calls Tryz.prog 111 #[.int .i64 i] w fun e w' => e = .returned (.string (S [UInt8.ofNat (48 + i).toNat])) ∧ w' = w := by
  have h : i = 0 ∨ i = 1 ∨ i = 2 ∨ i = 3 ∨ i = 4 ∨ i = 5 ∨ i = 6 ∨ i = 7 ∨ i = 8 ∨ i = 9 := by omega
  rcases h with rfl | rfl | rfl | rfl | rfl | rfl | rfl | rfl | rfl | rfl
  all_goals
    go_enter Tryz.func111, Tryz.ntmps111
    go_wp2
    go_ret
    exact ⟨rfl, rfl⟩

theorem p_digit (s : ByteArray) (x : List UInt8) (hx : s = S x) (w : World) (hm : s.size ≤ 140737488355328) (hW : TabW w) :
    Calls Tryz.prog 86 #[.string s] w fun e w' => e = .returned (.tuple #[.string (S (dgL x)), .int .i64 (dgE x)]) ∧ ∃ n, w' = w.drewN n := by
  have hl : s.size = x.length := by rw [hx, S_size]
  have HX := Lib.hid hx
  have HL := Lib.hid hl
  clear hx hl
  obtain ⟨t0, t1, t2⟩ := hW
  by_cases hv : validL x = true
  · obtain ⟨D, hD⟩ : ∃ D, D = dgL x := ⟨_, rfl⟩
    have HD := Lib.hid hD
    have HE : Hid (dgE x = 0) := Lib.hid (by simp [dgE, hv])
    have HV := Lib.hid hv
    clear hv
    rw [← hD, HE.out]
    clear hD
    go_enter Tryz.func86, Tryz.ntmps86
    go_wp2_with (go_at_call 59; refine (p_valid _ x HX.out _ (by unfold maxLen; omega)).mono ?_; rintro e w' ⟨rfl, hw⟩; rw [hw, HV.out]; clear hw)
    go_loopw [4, 11] (fun v i wr => ∃ k : Nat, k ≤ s.size ∧ i = .int .i64 k ∧ v = .int .i64 (sumL x k) ∧ Hid (∃ n, wr = w.drewN n)) (fun _ i _ => s.size - (intOf i).toNat)
    case atStart => exact ⟨0, Nat.zero_le _, rfl, rfl, Lib.hid ⟨0, rfl⟩⟩
    case round =>
      obtain ⟨k, hk, rfl, rfl, HW⟩ := hrel
      have t0' := tabW_drew HW.out t0
      have t1' := tabW_drew HW.out t1
      have t2' := tabW_drew HW.out t2
      clear t0 t1 t2
      have hs := sumL_bd HV.out k (by have := HL.out; omega)
      obtain ⟨y, hy⟩ : ∃ y, sumL x k = y := ⟨_, rfl⟩
      have HY := Lib.hid hy
      rw [hy] at hs ⊢
      obtain ⟨hs0, hs1⟩ := hs
      clear hy
      by_cases hlt : k < s.size
      · have hc := s_at HX.out k hlt
        have hv0 := validL_at HV.out k (by have := HL.out; omega)
        obtain ⟨v, hv⟩ : ∃ v, vI (cB x k) = v := ⟨_, rfl⟩
        have hvs : vI ((s[k]'hlt).toNat : Int) = v := by rw [hc]; exact hv
        have hv1 : v ≤ 35 := by have := (vI_le (cB x k)).2; omega
        rw [hv] at hv0
        have HVK := Lib.hid hv
        have HVS := Lib.hid hvs
        clear hv hvs hc
        have h3 : k % 3 = 0 ∨ k % 3 = 1 ∨ k % 3 = 2 := by omega
        rcases h3 with h3 | h3 | h3
        all_goals
          have H3 := Lib.hid h3
          have i3 : (k : Int) % 3 = ((k % 3 : Nat) : Int) := by omega
          rw [H3.out] at i3
          clear h3
          go_wp2
          go_quiet ((go_at_call 95; exact Calls.quiet_of_same (p_value _ v HVS.out (by omega) (by have := UInt8.toNat_lt (s[k]'hlt); omega) _)))
          go_wp2
          go_roundw
          case rel =>
            exact ⟨k + 1, by omega, by go_num, (by rw [sumL_succ, HY.out, HVK.out]; simp [wt, H3.out]), Lib.hid (by obtain ⟨n, hn⟩ := HW.out; exact ⟨n + nq, by rw [hn, World.drewN_drewN]⟩)⟩
          case measure => simp [intOf]; omega
      · have hkx : Hid (k = x.length) := Lib.hid (by have := HL.out; omega)
        have hq0 : 0 ≤ y % 10 := by omega
        have hq1 : y % 10 < 10 := by omega
        have hd : S [UInt8.ofNat (48 + y % 10).toNat] = S D := by
          rw [HD.out]; unfold dgL; rw [if_pos HV.out, ← hkx.out, HY.out]
        have HDD := Lib.hid hd
        clear hd
        go_wp2_with (go_at_call 111; refine (p_itoa _ hq0 hq1 _).mono ?_; rintro e w' ⟨rfl, hw⟩; rw [hw, HDD.out]; clear hw)
        go_ret2
        exact ⟨rfl, HW.out⟩
  · have HE : Hid (dgE x = 12) := Lib.hid (by simp [dgE, hv])
    have HD : Hid (dgL x = []) := Lib.hid (by simp [dgL, hv])
    have HV : Hid (validL x = false) := Lib.hid (by simpa using hv)
    clear hv
    rw [HE.out, HD.out]
    go_enter Tryz.func86, Tryz.ntmps86
    go_wp2_with (go_at_call 59; refine (p_valid _ x HX.out _ (by unfold maxLen; omega)).mono ?_; rintro e w' ⟨rfl, hw⟩; rw [hw, HV.out]; clear hw)
    go_ret2
    exact ⟨rfl, 0, rfl⟩

theorem r_digit (s : ByteArray) (x : List UInt8) (hx : s = S x) (w : World) (hm : s.size ≤ 140737488355328) :
    Calls Tryz.prog 36 #[.string s] w fun e w' => e = .returned (.tuple #[.string (S (dgL x)), .int .i64 (dgE x)]) ∧ Below w.heap.size w w' := by
  have hl : s.size = x.length := by rw [hx, S_size]
  have HX := Lib.hid hx
  have HL := Lib.hid hl
  clear hx hl
  by_cases hv : validL x = true
  · obtain ⟨D, hD⟩ : ∃ D, D = dgL x := ⟨_, rfl⟩
    have HD := Lib.hid hD
    have HE : Hid (dgE x = 0) := Lib.hid (by simp [dgE, hv])
    have HV := Lib.hid hv
    clear hv
    rw [← hD, HE.out]
    clear hD
    go_enter Tryz.func36, Tryz.ntmps36
    go_wp2_with (go_at_call 27; refine (r_valid _ x HX.out _ (by unfold maxLen; omega)).mono ?_; rintro e w' ⟨rfl, hw⟩; rw [hw, HV.out]; clear hw)
    go_loopw [4, 5] (fun v i wr => ∃ k : Nat, k ≤ s.size ∧ i = .int .i64 k ∧ v = .int .i64 (sumL x k) ∧ Hid (∃ n, wr = w.drewN n)) (fun _ i _ => s.size - (intOf i).toNat)
    case atStart => exact ⟨0, Nat.zero_le _, rfl, rfl, Lib.hid ⟨0, rfl⟩⟩
    case round =>
      obtain ⟨k, hk, rfl, rfl, HW⟩ := hrel
      have hs := sumL_bd HV.out k (by have := HL.out; omega)
      obtain ⟨y, hy⟩ : ∃ y, sumL x k = y := ⟨_, rfl⟩
      have HY := Lib.hid hy
      rw [hy] at hs ⊢
      obtain ⟨hs0, hs1⟩ := hs
      clear hy
      by_cases hlt : k < s.size
      · have hc := s_at HX.out k hlt
        have hv0 := validL_at HV.out k (by have := HL.out; omega)
        obtain ⟨v, hv⟩ : ∃ v, vI (cB x k) = v := ⟨_, rfl⟩
        have hvs : vI ((s[k]'hlt).toNat : Int) = v := by rw [hc]; exact hv
        have hv1 : v ≤ 35 := by have := (vI_le (cB x k)).2; omega
        rw [hv] at hv0
        have HVK := Lib.hid hv
        have HVS := Lib.hid hvs
        clear hv hvs hc
        have h3 : k % 3 = 0 ∨ k % 3 = 1 ∨ k % 3 = 2 := by omega
        rcases h3 with h3 | h3 | h3
        all_goals
          have H3 := Lib.hid h3
          have i3 : (k : Int) % 3 = ((k % 3 : Nat) : Int) := by omega
          rw [H3.out] at i3
          have i4 : (k : Int).tmod 3 = (k : Int) % 3 := Int.tmod_eq_emod_of_nonneg (by omega)
          rw [i3] at i4
          have x0 := wt_index0
          have x1 := wt_index1
          have x2 := wt_index2
          clear h3
          go_wp2
          go_quiet ((go_at_call 73; exact Calls.quiet_of_same (r_value _ v HVS.out (by omega) (by have := UInt8.toNat_lt (s[k]'hlt); omega) _)))
          go_wp2
          go_roundw
          case rel =>
            exact ⟨k + 1, by omega, by go_num, (by rw [sumL_succ, HY.out, HVK.out]; simp [wt, H3.out]), Lib.hid (by obtain ⟨n, hn⟩ := HW.out; exact ⟨n + nq, by rw [hn, World.drewN_drewN]⟩)⟩
          case measure => simp [intOf]; omega
      · have hkx : Hid (k = x.length) := Lib.hid (by have := HL.out; omega)
        have hq0 : 0 ≤ y % 10 := by omega
        have hq1 : y % 10 < 10 := by omega
        have hd : S [UInt8.ofNat (48 + y % 10).toNat] = S D := by
          rw [HD.out]; unfold dgL; rw [if_pos HV.out, ← hkx.out, HY.out]
        have HDD := Lib.hid hd
        clear hd
        have hu : ((UInt8.ofNat (48 + y % 10).toNat).toNat : Int) = 48 + y % 10 := by rw [UInt8.toNat_ofNat']; omega
        have hs2 : Sees (wr.alloc (.cells #[.int .u8 (48 + y % 10)] 5)) (wr.heap.size + 1) (some ⟨wr.heap.size, 0, none⟩) (Us [UInt8.ofNat (48 + y % 10).toNat]) := by
          refine .inr ⟨wr.heap.size, 0, rfl, by omega, fun j hj => ?_⟩
          rw [Us_length] at hj
          obtain rfl : j = 0 := by simpa using hj
          rw [cell_of_row _ wr.heap.size 0 _ _ _ (heap_alloc_new wr _)]
          simp only [Us, U, List.map_cons, List.map_nil, List.getElem?_cons_zero, hu]; rfl
        have hc := run_conv _ _ _ _ hs2 1 1 rfl
        rw [HDD.out] at hc
        clear hs2 hu
        have y0 : 0 ≤ 48 + y % 10 := by omega
        have y1 : 48 + y % 10 ≤ 57 := by omega
        go_wp2
        go_ret2
        refine ⟨rfl, ?_⟩
        obtain ⟨n, hn⟩ := HW.out
        subst hn
        exact (below_drewN _ _ _).alloc (Nat.le_refl _) _
  · have HE : Hid (dgE x = 12) := Lib.hid (by simp [dgE, hv])
    have HD : Hid (dgL x = []) := Lib.hid (by simp [dgL, hv])
    have HV : Hid (validL x = false) := Lib.hid (by simpa using hv)
    clear hv
    rw [HE.out, HD.out]
    go_enter Tryz.func36, Tryz.ntmps36
    go_wp2_with (go_at_call 27; refine (r_valid _ x HX.out _ (by unfold maxLen; omega)).mono ?_; rintro e w' ⟨rfl, hw⟩; rw [hw, HV.out]; clear hw)
    go_ret2
    exact ⟨rfl, Below.refl _ _⟩

end Go.Proofs.YtdlcoilpkelbaaaGreatDoor
