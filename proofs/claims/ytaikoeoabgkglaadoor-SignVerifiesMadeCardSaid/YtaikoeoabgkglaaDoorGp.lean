/-
  What is proved here: plain facts on the group: products and powers of elements, inverses, the orders of the powers of 4, and that of a residue and its negative one just one is an element; nothing of the program is used.
-/
import Derived.Test.YtaikoeoabgkglaaDoorGx
namespace Go.Proofs.YtaikoeoabgkglaaDoor

/-- an element, or 1 -/
def Sub (y : Int) : Prop := ∃ n : Nat, y = (n : Int) ∧ n < gP ∧ n ^ gQ % gP = 1
theorem gP1 : 1 < gP := by decide
theorem gP_pos : 0 < gP := by decide
theorem pos_of {n : Nat} (h : n ^ gQ % gP = 1) : 0 < n := by
  rcases Nat.eq_zero_or_pos n with rfl | h0
  · rw [Nat.zero_pow (show 0 < gQ by decide), Nat.zero_mod] at h; cases h
  · exact h0
theorem Sub.res {y : Int} (h : Sub y) : resB y = true := by
  obtain ⟨n, rfl, h1, h2⟩ := h
  have h0 := pos_of h2
  unfold gP at h1
  exact resB_mk (by omega) (by omega)
theorem pwZ_q (n : Nat) : pwZ (n : Int) 1073741789 = ((n ^ gQ % gP : Nat) : Int) := rfl
theorem Sub.el {y : Int} (h : Sub y) (hne : y ≠ 1) : elB y = true := by
  unfold elB
  rw [h.res]
  obtain ⟨n, rfl, h1, h2⟩ := h
  rw [pwZ_q, h2]
  simpa using hne
theorem el_sub {y : Int} (h : elB y = true) : Sub y := by
  have hb := elB_bd h
  obtain ⟨n, rfl⟩ := Int.eq_ofNat_of_zero_le (show 0 ≤ y by omega)
  refine ⟨n, rfl, by unfold gP; omega, ?_⟩
  unfold elB at h
  rw [Bool.and_eq_true, Bool.and_eq_true, pwZ_q] at h
  have h3 := eq_of_beq h.2
  generalize n ^ gQ % gP = q at *
  omega
theorem muZ_cast (a b : Nat) : muZ (a : Int) (b : Int) = ((a * b % gP : Nat) : Int) := rfl
theorem pwZ_cast (a b : Nat) : pwZ (a : Int) (b : Int) = ((a ^ b % gP : Nat) : Int) := rfl
theorem Sub.mul {a b : Int} (h : Sub a) (g : Sub b) : Sub (muZ a b) := by
  obtain ⟨n, rfl, h1, h2⟩ := h
  obtain ⟨m, rfl, g1, g2⟩ := g
  refine ⟨_, muZ_cast n m, Nat.mod_lt _ gP_pos, ?_⟩
  rw [pm_pow, Nat.mul_pow, Nat.mul_mod, h2, g2]
  exact Nat.mod_eq_of_lt gP1
theorem Sub.pow {a : Int} (h : Sub a) (k : Int) : Sub (pwZ a k) := by
  obtain ⟨n, rfl, h1, h2⟩ := h
  refine ⟨n ^ k.toNat % gP, rfl, Nat.mod_lt _ gP_pos, ?_⟩
  rw [pm_pow, ← Nat.pow_mul, Nat.mul_comm]
  exact pm_one gP1 h2 _
theorem sub_four : Sub 4 := ⟨4, rfl, by decide, four_order⟩
theorem mu_comm (a b : Int) : muZ a b = muZ b a := by unfold muZ muN; rw [Nat.mul_comm]
theorem mu_assoc (a b c : Int) : muZ (muZ a b) c = muZ a (muZ b c) := by
  unfold muZ muN
  rw [Int.toNat_natCast, Int.toNat_natCast, pm_mul_l, pm_mul_r, Nat.mul_assoc]
theorem pw_add {x m n : Int} (hm : 0 ≤ m) (hn : 0 ≤ n) : muZ (pwZ x m) (pwZ x n) = pwZ x (m + n) := by
  unfold muZ muN pwZ pwN
  rw [Int.toNat_natCast, Int.toNat_natCast, pm_mul, ← Nat.pow_add, Int.toNat_add hm hn]
theorem pw_comm (x a b : Int) : pwZ (pwZ x a) b = pwZ (pwZ x b) a := by
  unfold pwZ pwN
  rw [Int.toNat_natCast, Int.toNat_natCast, pm_pow, pm_pow, ← Nat.pow_mul, ← Nat.pow_mul, Nat.mul_comm]
theorem mu_inv {x : Int} (h : Sub x) : muZ x (pwZ x 2147483577) = 1 := by
  obtain ⟨n, rfl, h1, h2⟩ := h
  have e : pwZ (n : Int) 2147483577 = ((n ^ (gP - 2) % gP : Nat) : Int) := rfl
  rw [e, muZ_cast, pm_mul_r, ← Nat.pow_succ', show (gP - 2).succ = gQ * 2 by decide, pm_one gP1 h2]
  rfl
theorem four_ne : 4 % gP ≠ 1 := by decide
theorem pt_ne {k : Int} (h1 : 1 ≤ k) (h2 : k < 1073741789) : pwZ 4 k ≠ 1 := by
  have h := pm_order gP1 gQ_prime four_ne four_order (k := k.toNat) (by omega) (by unfold gQ; omega)
  intro e
  apply h
  have e2 : ((4 ^ k.toNat % gP : Nat) : Int) = 1 := e
  omega
theorem pt2_ne {k n : Int} (h1 : 1 ≤ k) (h2 : k < 1073741789) (g1 : 1 ≤ n) (g2 : n < 1073741789) : pwZ (pwZ 4 k) n ≠ 1 := by
  have h := pm_order2 gP1 gQ_prime four_ne four_order (k := k.toNat) (n := n.toNat) (by omega) (by unfold gQ; omega) (by omega) (by unfold gQ; omega)
  intro e
  apply h
  have e2 : (((4 ^ k.toNat % gP) ^ n.toNat % gP : Nat) : Int) = 1 := e
  rw [pm_pow, ← Nat.pow_mul] at e2
  omega
theorem pt_el {k : Int} (h1 : 1 ≤ k) (h2 : k < 1073741789) : elB (pwZ 4 k) = true := (sub_four.pow k).el (pt_ne h1 h2)
theorem pt2_el {k n : Int} (h1 : 1 ≤ k) (h2 : k < 1073741789) (g1 : 1 ≤ n) (g2 : n < 1073741789) : elB (pwZ (pwZ 4 k) n) = true := ((sub_four.pow k).pow n).el (pt2_ne h1 h2 g1 g2)

/-! halves -/
theorem sq_sub {x : Int} (h1 : 1 ≤ x) (h2 : x < 2147483579) : Sub (muZ x x) := by
  obtain ⟨n, rfl⟩ := Int.eq_ofNat_of_zero_le (show 0 ≤ x by omega)
  refine ⟨_, muZ_cast n n, Nat.mod_lt _ gP_pos, ?_⟩
  rw [pm_pow, ← Nat.pow_two, ← Nat.pow_mul, ← gP_odd]
  exact fermat gP_prime (by omega) (by unfold gP; omega)
theorem sq_el {x : Int} (h1 : 2 ≤ x) (h2 : x < 2147483578) : elB (muZ x x) = true := by
  refine (sq_sub (by omega) (by omega)).el ?_
  obtain ⟨n, rfl⟩ := Int.eq_ofNat_of_zero_le (show 0 ≤ x by omega)
  intro e
  rw [muZ_cast] at e
  have := root_of_one gP_prime (y := n) (by unfold gP; omega) (by omega)
  unfold gP at this
  omega
theorem half_val {n : Nat} (h1 : 1 ≤ n) (h2 : n < gP) : n ^ gQ % gP = 1 ∨ n ^ gQ % gP = gP - 1 := by
  refine root_of_one gP_prime (Nat.mod_lt _ gP_pos) ?_
  rw [pm_mul, ← Nat.pow_add, show gQ + gQ = gP - 1 by decide]
  exact fermat gP_prime h1 h2
theorem half_neg {n : Nat} (h2 : n ≤ gP) : ((gP - n) ^ gQ % gP + n ^ gQ % gP) % gP = 0 := by
  have h := neg_odd (p := gP) (x := n) (m := 536870894) h2
  rw [show 2 * 536870894 + 1 = gQ by decide, Nat.add_mod] at h
  exact h
theorem not_el {n : Nat} (h : n ^ gQ % gP = gP - 1) : elB (n : Int) = false := by
  unfold elB
  rw [pwZ_q, h, Bool.and_eq_false_iff]
  exact .inr (by decide)
theorem is_el {n : Nat} (h2 : n < gP) (h : n ^ gQ % gP = 1) (hne : n ≠ 1) : elB (n : Int) = true := Sub.el ⟨n, rfl, h2, h⟩ (by omega)
theorem halves {x : Int} (h1 : 2 ≤ x) (h2 : x < 2147483578) : elB (2147483579 - x) = !elB x := by
  obtain ⟨n, rfl⟩ := Int.eq_ofNat_of_zero_le (show 0 ≤ x by omega)
  have hp : gP = 2147483579 := rfl
  have e : (2147483579 : Int) - (n : Int) = ((gP - n : Nat) : Int) := by rw [hp]; omega
  have hs := half_neg (n := n) (by omega)
  rw [e]
  generalize hy : (gP - n) ^ gQ % gP = y at *
  have hyl : y < gP := by rw [← hy]; exact Nat.mod_lt _ gP_pos
  rcases half_val (n := n) (by omega) (by omega) with h | h
  · rw [h] at hs
    have : y = gP - 1 := by
      rcases Nat.lt_or_ge (y + 1) gP with hl | hl
      · rw [Nat.mod_eq_of_lt hl] at hs; omega
      · omega
    rw [is_el (by omega) h (by omega), not_el (by rw [hy]; exact this)]; rfl
  · rw [h] at hs
    have : y = 1 := by
      rcases Nat.lt_or_ge y 2 with hl | hl
      · rcases Nat.eq_zero_or_pos y with h0 | h0
        · rw [h0, Nat.zero_add, Nat.mod_eq_of_lt (by omega)] at hs; omega
        · omega
      · have e3 : y + (gP - 1) = (y - 1) + gP := by omega
        rw [e3, Nat.add_mod_right, Nat.mod_eq_of_lt (by omega)] at hs; omega
    rw [not_el h, is_el (by omega) (by rw [hy]; exact this) (by omega)]; rfl
theorem el_one : elB 1 = false := rfl
theorem el_last : elB 2147483578 = false := by
  have h := half_neg (n := 1) (by decide)
  rw [Nat.one_pow, show (1 : Nat) % gP = 1 by decide] at h
  have hl : (gP - 1) ^ gQ % gP < gP := Nat.mod_lt _ gP_pos
  refine not_el (n := gP - 1) ?_
  generalize (gP - 1) ^ gQ % gP = y at *
  rcases Nat.lt_or_ge (y + 1) gP with hl2 | hl2
  · rw [Nat.mod_eq_of_lt hl2] at h; omega
  · omega
end Go.Proofs.YtaikoeoabgkglaaDoor
