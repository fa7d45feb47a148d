/-
  What is proved here: what the optical zone's characters are worth, by the program and by the reference, and whether a text has such characters alone; for every byte and every text.
-/
import Derived.Test.YtdlcoilpkelbaaaGreatDoorRows
import Derived.Test.YtdlcoilpkelbaaaGreatDoorKit
import Derived.Test.YtdlcoilpkelbaaaGreatDoorStr
namespace Go.Proofs.YtdlcoilpkelbaaaGreatDoor
open Go.RowKit

/-- the byte at a place -/
def cB (x : List UInt8) (i : Nat) : Int := ((x.getD i 0).toNat : Int)
theorem cB_nn (x : List UInt8) (i : Nat) : 0 ≤ cB x i := by unfold cB; omega
theorem cB_le (x : List UInt8) (i : Nat) : cB x i ≤ 255 := by unfold cB; have := UInt8.toNat_lt (x.getD i 0); omega
theorem s_at {s : ByteArray} {x : List UInt8} (h : s = S x) (i : Nat) (hi : i < s.size) : ((s[i]'hi).toNat : Int) = cB x i := by
  subst h
  have hx : i < x.length := by simpa [S_size] using hi
  show ((x.toArray[i]'(by simpa using hx)).toNat : Int) = cB x i
  simp [cB, hx]
theorem cB_get {x : List UInt8} {i : Nat} (h : i < x.length) : cB x i = (x[i].toNat : Int) := by simp [cB, h]

/-- the value of a character, -1 of another byte -/
def vI (n : Int) : Int := if 48 ≤ n ∧ n ≤ 57 then n - 48 else if 65 ≤ n ∧ n ≤ 90 then n - 55 else if n = 60 then 0 else -1
theorem vI_le (n : Int) : -1 ≤ vI n ∧ vI n ≤ 35 := by unfold vI; repeat' split <;> omega
theorem vI_1 {n : Int} (h : 48 ≤ n) (k : n ≤ 57) : vI n = n - 48 := by unfold vI; rw [if_pos ⟨h, k⟩]
theorem vI_2 {n : Int} (h : 65 ≤ n) (k : n ≤ 90) : vI n = n - 55 := by unfold vI; rw [if_neg (by omega), if_pos ⟨h, k⟩]
theorem vI_3 {n : Int} (h : n = 60) : vI n = 0 := by unfold vI; rw [if_neg (by omega), if_neg (by omega), if_pos h]
theorem vI_4 {n : Int} (h1 : ¬ (48 ≤ n ∧ n ≤ 57)) (h2 : ¬ (65 ≤ n ∧ n ≤ 90)) (h3 : n ≠ 60) : vI n = -1 := by
  unfold vI; rw [if_neg h1, if_neg h2, if_neg h3]
theorem v_cases (n : Int) : n < 48 ∨ (48 ≤ n ∧ n ≤ 57) ∨ (57 < n ∧ n < 60) ∨ n = 60 ∨ (60 < n ∧ n < 65) ∨ (65 ≤ n ∧ n ≤ 90) ∨ 90 < n := by omega
theorem ret_int {k : IntKind} {a b : Int} (h : a = b) : Ending.returned (.int k a) = .returned (.int k b) := by rw [h]

theorem p_value (n v : Int) (hv : vI n = v) (h0 : 0 ≤ n) (h1 : n ≤ 255) (w : World) :
    Calls Tryz.prog 95 #[.int .u8 n] w fun e w' => e = .returned (.int .i64 v) ∧ w' = w := by
  have HV := Lib.hid hv
  clear hv
  rcases v_cases n with h | h | h | h | h | h | h
  all_goals
    go_enter Tryz.func95, Tryz.ntmps95
    go_wp2
    go_ret
    refine ⟨ret_int ?_, rfl⟩
    rw [← HV.out]
    first
    | (rw [vI_1 (by omega) (by omega)]; done)
    | (rw [vI_2 (by omega) (by omega)]; show _ = _; omega)
    | (rw [vI_3 (by omega)]; done)
    | (rw [vI_4 (by omega) (by omega) (by omega)]; done)
theorem r_value (n v : Int) (hv : vI n = v) (h0 : 0 ≤ n) (h1 : n ≤ 255) (w : World) :
    Calls Tryz.prog 73 #[.int .u8 n] w fun e w' => e = .returned (.int .i64 v) ∧ w' = w := by
  have HV := Lib.hid hv
  clear hv
  rcases v_cases n with h | h | h | h | h | h | h
  all_goals
    go_enter Tryz.func73, Tryz.ntmps73
    go_wp2
    go_ret
    refine ⟨ret_int ?_, rfl⟩
    rw [← HV.out]
    first
    | (rw [vI_1 (by omega) (by omega)]; done)
    | (rw [vI_2 (by omega) (by omega)]; show _ = _; omega)
    | (rw [vI_3 (by omega)]; done)
    | (rw [vI_4 (by omega) (by omega) (by omega)]; done)

/-- whether all bytes are characters -/
def validL (x : List UInt8) : Bool := x.all fun b => decide (0 ≤ vI (b.toNat : Int))
theorem validL_bad {x : List UInt8} {k : Nat} (hk : k < x.length) (h : vI (cB x k) < 0) : validL x = false := by
  unfold validL
  rw [List.all_eq_false]
  refine ⟨x[k], List.getElem_mem hk, ?_⟩
  rw [cB_get hk] at h
  simpa using h
theorem validL_good {x : List UInt8} (h : ∀ k, k < x.length → 0 ≤ vI (cB x k)) : validL x = true := by
  unfold validL
  rw [List.all_eq_true]
  intro b hb
  obtain ⟨k, hk, rfl⟩ := List.getElem_of_mem hb
  have := h k hk
  rw [cB_get hk] at this
  simpa using this
theorem validL_at {x : List UInt8} (h : validL x = true) (k : Nat) (hk : k < x.length) : 0 ≤ vI (cB x k) := by
  unfold validL at h
  rw [List.all_eq_true] at h
  have := h x[k] (List.getElem_mem hk)
  rw [cB_get hk]
  simpa using this

theorem p_valid (s : ByteArray) (x : List UInt8) (hx : s = S x) (w : World) (hm : s.size ≤ maxLen) :
    Calls Tryz.prog 59 #[.string s] w fun e w' => e = .returned (.bool (validL x)) ∧ w' = w := by
  unfold maxLen at hm
  have hl : s.size = x.length := by rw [hx, S_size]
  have HX := Lib.hid hx
  have HL := Lib.hid hl
  clear hx hl
  go_enter Tryz.func59, Tryz.ntmps59
  go_wp2
  go_loop [6] (fun i => ∃ k : Nat, k ≤ s.size ∧ i = .int .i64 k ∧ Hid (∀ j, j < k → 0 ≤ vI (cB x j))) (fun i => s.size - (intOf i).toNat)
  case atStart => exact ⟨0, Nat.zero_le _, rfl, Lib.hid (fun j h => by omega)⟩
  case round =>
    obtain ⟨k, hk, rfl, HG⟩ := hrel
    by_cases hlt : k < s.size
    · have hc := s_at HX.out k hlt
      have c0 := cB_nn x k
      have c1 := cB_le x k
      obtain ⟨v, hv⟩ : ∃ v, vI (cB x k) = v := ⟨_, rfl⟩
      have HV := Lib.hid hv
      have hvs : vI ((s[k]'hlt).toNat : Int) = v := by rw [hc]; exact hv
      have HVS := Lib.hid hvs
      clear hv hvs hc c0 c1
      by_cases hn : v < 0
      · have hb : validL x = false := validL_bad (k := k) (by have := HL.out; omega) (by rw [HV.out]; exact hn)
        have d1 : decide (v < 0) = true := by simpa using hn
        go_wp2_with (go_at_call 95; refine (p_value _ v HVS.out (by omega) (by have := UInt8.toNat_lt (s[k]'hlt); omega) _).mono ?_; rintro e w' ⟨rfl, rfl⟩)
        go_ret
        first | exact ⟨rfl, rfl⟩ | exact ⟨by rw [hb]; rfl, rfl⟩
      · have d1 : decide (v < 0) = false := by simpa using hn
        go_wp2_with (go_at_call 95; refine (p_value _ v HVS.out (by omega) (by have := UInt8.toNat_lt (s[k]'hlt); omega) _).mono ?_; rintro e w' ⟨rfl, rfl⟩)
        go_round
        case rel =>
          refine ⟨k + 1, by omega, by go_num, Lib.hid (fun j hj => ?_)⟩
          rcases Nat.lt_or_ge j k with h | h
          · exact HG.out j h
          · obtain rfl : j = k := by omega
            rw [HV.out]; omega
        case measure => simp [intOf]; omega
    · have hb : validL x = true := validL_good (fun j hj => HG.out j (by have := HL.out; omega))
      go_wp2
      go_ret
      first | exact ⟨rfl, rfl⟩ | exact ⟨by rw [hb]; rfl, rfl⟩
theorem r_valid (s : ByteArray) (x : List UInt8) (hx : s = S x) (w : World) (hm : s.size ≤ maxLen) :
    Calls Tryz.prog 27 #[.string s] w fun e w' => e = .returned (.bool (validL x)) ∧ w' = w := by
  unfold maxLen at hm
  have hl : s.size = x.length := by rw [hx, S_size]
  have HX := Lib.hid hx
  have HL := Lib.hid hl
  clear hx hl
  go_enter Tryz.func27, Tryz.ntmps27
  go_wp2
  go_loop [3] (fun i => ∃ k : Nat, k ≤ s.size ∧ i = .int .i64 k ∧ Hid (∀ j, j < k → 0 ≤ vI (cB x j))) (fun i => s.size - (intOf i).toNat)
  case atStart => exact ⟨0, Nat.zero_le _, rfl, Lib.hid (fun j h => by omega)⟩
  case round =>
    obtain ⟨k, hk, rfl, HG⟩ := hrel
    by_cases hlt : k < s.size
    · have hc := s_at HX.out k hlt
      obtain ⟨v, hv⟩ : ∃ v, vI (cB x k) = v := ⟨_, rfl⟩
      have HV := Lib.hid hv
      have hvs : vI ((s[k]'hlt).toNat : Int) = v := by rw [hc]; exact hv
      have HVS := Lib.hid hvs
      clear hv hvs hc
      by_cases hn : v < 0
      · have hb : validL x = false := validL_bad (k := k) (by have := HL.out; omega) (by rw [HV.out]; exact hn)
        have d1 : decide (v < 0) = true := by simpa using hn
        go_wp2_with (go_at_call 73; refine (r_value _ v HVS.out (by omega) (by have := UInt8.toNat_lt (s[k]'hlt); omega) _).mono ?_; rintro e w' ⟨rfl, rfl⟩)
        go_ret
        first | exact ⟨rfl, rfl⟩ | exact ⟨by rw [hb]; rfl, rfl⟩
      · have d1 : decide (v < 0) = false := by simpa using hn
        go_wp2_with (go_at_call 73; refine (r_value _ v HVS.out (by omega) (by have := UInt8.toNat_lt (s[k]'hlt); omega) _).mono ?_; rintro e w' ⟨rfl, rfl⟩)
        go_round
        case rel =>
          refine ⟨k + 1, by omega, by go_num, Lib.hid (fun j hj => ?_)⟩
          rcases Nat.lt_or_ge j k with h | h
          · exact HG.out j h
          · obtain rfl : j = k := by omega
            rw [HV.out]; omega
        case measure => simp [intOf]; omega
    · have hb : validL x = true := validL_good (fun j hj => HG.out j (by have := HL.out; omega))
      go_wp2
      go_ret
      first | exact ⟨rfl, rfl⟩ | exact ⟨by rw [hb]; rfl, rfl⟩

end Go.Proofs.YtdlcoilpkelbaaaGreatDoor
