/-
  What is proved here: plain facts on signatures: what Sign returns is right under the public key of its secret; numbers out of range and what is no element are not. Nothing of the program is used but its plain words for numbers.
-/
import Derived.Test.YtaikoeoabgkglaaDoorSi
namespace Go.Proofs.YtaikoeoabgkglaaDoor
open Go.RowKit
set_option linter.unusedVariables false

theorem sig_power (n k e : Nat) (he : e ≤ gQ) : 4 ^ ((n + e * k) % gQ) % gP * ((4 ^ k % gP) ^ (gQ - e) % gP) % gP = 4 ^ n % gP := by
  rw [pm_mod gP1 four_order, pm_pow, ← Nat.pow_mul, pm_mul, ← Nat.pow_add]
  have h : n + e * k + k * (gQ - e) = gQ * k + n := by
    rw [Nat.mul_sub, Nat.mul_comm e k, Nat.mul_comm gQ k]
    have : k * e ≤ k * gQ := Nat.mul_le_mul_left k he
    omega
  rw [h, Nat.pow_add, ← pm_mul, pm_one gP1 four_order, Nat.one_mul, Nat.mod_mod]
theorem rv_sign {k : Int} (hk : secB k = true) (x : List UInt8) : rvZ (pwZ 4 k) (sgE k x) (sgS k x) = pwZ 4 (sgN k x) := by
  obtain ⟨k1, k2⟩ := secB_yes hk
  obtain ⟨v1, v2, _⟩ := sg_yes hk x
  have hn := sgN_bd k x
  have hc := chZ_bd (pwZ 4 (sgN k x)) x
  rw [v1, v2]
  generalize chZ (pwZ 4 (sgN k x)) x = c at *
  generalize sgN k x = n at *
  clear v1 v2
  obtain ⟨k, rfl⟩ := Int.eq_ofNat_of_zero_le (show 0 ≤ k by omega)
  obtain ⟨n, rfl⟩ := Int.eq_ofNat_of_zero_le (show 0 ≤ n by omega)
  obtain ⟨c, rfl⟩ := Int.eq_ofNat_of_zero_le hc.1
  have e1 : ((n : Int) + (c : Int) * (k : Int)) % 1073741789 = (((n + c * k) % gQ : Nat) : Int) := by
    rw [Int.natCast_emod, Int.natCast_add, Int.natCast_mul]
    rfl
  have e2 : (1073741789 : Int) - (c : Int) = ((gQ - c : Nat) : Int) := by unfold gQ; omega
  unfold rvZ
  rw [e1, e2]
  show muZ (pwZ ((4 : Nat) : Int) _) (pwZ (pwZ ((4 : Nat) : Int) _) _) = pwZ ((4 : Nat) : Int) _
  rw [pwZ_cast, pwZ_cast, pwZ_cast, pwZ_cast, muZ_cast, sig_power n k c (by unfold gQ; omega)]
theorem sg_small {k : Int} (hk : secB k = true) (x : List UInt8) : smB (sgE k x) = true ∧ smB (sgS k x) = true := by
  obtain ⟨v1, v2, _⟩ := sg_yes hk x
  have hc := chZ_bd (pwZ 4 (sgN k x)) x
  rw [v1, v2]
  exact ⟨smB_mk hc.1 hc.2, smB_mk (by omega) (by omega)⟩
/-- a signature is right under the public key of its secret -/
theorem vf_made {k : Int} (hk : secB k = true) (x : List UInt8) : vfB (pwZ 4 k) x (sgE k x) (sgS k x) = true := by
  obtain ⟨k1, k2⟩ := secB_yes hk
  obtain ⟨h1, h2⟩ := sg_small hk x
  unfold vfB
  rw [pt_el k1 k2, h1, h2, rv_sign hk x, (sg_yes hk x).1]
  simp
theorem vf_key {p e s : Int} {x : List UInt8} (h : elB p = false) : vfB p x e s = false := by unfold vfB; rw [h, Bool.false_and, Bool.false_and]
theorem vf_e {p e s : Int} {x : List UInt8} (h : smB e = false) : vfB p x e s = false := by unfold vfB; rw [h, Bool.false_and, Bool.and_false, Bool.false_and]
theorem vf_s {p e s : Int} {x : List UInt8} (h : smB s = false) : vfB p x e s = false := by unfold vfB; rw [h, Bool.and_false, Bool.and_false, Bool.false_and]
theorem sm_far {e : Int} (h : 0 ≤ e) : smB (e + 1073741789) = false := by
  have : decide (e + 1073741789 < 1073741789) = false := by simp; omega
  unfold smB; rw [this, Bool.and_false]
theorem el_zero : elB 0 = false := rfl
theorem el_past {p : Int} (h : 2147483579 ≤ p) : elB p = false := by
  have : decide (p < 2147483579) = false := by simp; omega
  unfold elB resB; rw [this, Bool.and_false, Bool.false_and, Bool.false_and]
end Go.Proofs.YtaikoeoabgkglaaDoor
