/-
  What is proved here: plain facts on numbers modulo a prime: powers, Fermat's little theorem, the order of an element, and that the two numbers of the group are primes; nothing of the program is used.
-/
import Derived.Lib.Hide
import Derived.Test.YtcapbojjceeapaaDoorRows
import Derived.Test.YtcapbojjceeapaaDoorWG1
import Derived.Test.YtcapbojjceeapaaDoorWLen64
namespace Go.Proofs.YtcapbojjceeapaaDoor
theorem pm_mul_l (p a b : Nat) : a % p * b % p = a * b % p := by rw [Nat.mod_mul_mod]
theorem pm_mul_r (p a b : Nat) : a * (b % p) % p = a * b % p := by rw [Nat.mul_mod_mod]
theorem pm_pow (p x k : Nat) : (x % p) ^ k % p = x ^ k % p := (Nat.pow_mod x k p).symm
theorem pm_one {p x a : Nat} (h1 : 1 < p) (h : x ^ a % p = 1) (k : Nat) : x ^ (a * k) % p = 1 := by
  rw [Nat.pow_mul, Nat.pow_mod, h, Nat.one_pow, Nat.mod_eq_of_lt h1]
def sqm (p : Nat) : Nat → Nat → Nat → Nat → Nat
  | 0, r, _, _ => r
  | f + 1, r, x, k => sqm p f (if k % 2 = 1 then r * x % p else r) (x * x % p) (k / 2)
theorem pm_half (p x k : Nat) : (x * x % p) ^ (k / 2) * (if k % 2 = 1 then x else 1) % p = x ^ k % p := by
  have hk : k = 2 * (k / 2) + k % 2 := by omega
  have h2 : (x * x % p) ^ (k / 2) % p = x ^ (2 * (k / 2)) % p := by
    rw [pm_pow, Nat.pow_mul, Nat.pow_two]
  rcases Nat.mod_two_eq_zero_or_one k with h | h
  · rw [if_neg (by omega), Nat.mul_one, h2]
    congr 2; omega
  · rw [if_pos h, Nat.mul_mod, h2, ← Nat.mul_mod, ← Nat.pow_succ]
    congr 2; omega
theorem pm_step (p r x k : Nat) : (if k % 2 = 1 then r * x % p else r) * (x * x % p) ^ (k / 2) % p = r * x ^ k % p := by
  rw [← pm_mul_r p r (x ^ k), ← pm_half p x k, pm_mul_r]
  split
  · rw [pm_mul_l, Nat.mul_assoc, Nat.mul_comm x]
  · rw [Nat.mul_one]
theorem sqm_is (p : Nat) : ∀ f r x k, k < 2 ^ f → sqm p f r x k % p = r * x ^ k % p
  | 0, r, x, k, h => by
    obtain rfl : k = 0 := by simp at h; exact h
    simp [sqm]
  | f + 1, r, x, k, h => by
    unfold sqm
    rw [sqm_is p f _ _ _ (by rw [Nat.pow_succ] at h; omega), pm_step]
def IsPr (p : Nat) : Prop := 1 < p ∧ ∀ d, d ∣ p → d = 1 ∨ d = p
theorem IsPr.coprime {p k : Nat} (h : IsPr p) (h0 : 0 < k) (hk : k < p) : Nat.Coprime p k := by
  rcases h.2 _ (Nat.gcd_dvd_left p k) with e | e
  · exact e
  · have hd : p ∣ k := by have := Nat.gcd_dvd_right p k; rwa [e] at this
    exact absurd (Nat.le_of_dvd h0 hd) (by omega)
def noDiv (n : Nat) : Nat → Nat → Bool
  | 0, _ => true
  | f + 1, d => if n % d = 0 then false else noDiv n f (d + 1)
theorem noDiv_is {n : Nat} : ∀ {f d : Nat}, noDiv n f d = true → ∀ e, d ≤ e → e < d + f → n % e ≠ 0
  | 0, d, _, e, h1, h2 => by omega
  | f + 1, d, h, e, h1, h2 => by
    unfold noDiv at h
    split at h
    · cases h
    · rename_i hd
      rcases Nat.eq_or_lt_of_le h1 with rfl | h3
      · exact hd
      · exact noDiv_is h e (by omega) (by omega)
theorem prime_of_noDiv {n f : Nat} (h1 : 1 < n) (hf : n < (f + 2) * (f + 2)) (h : noDiv n f 2 = true) : IsPr n := by
  have small : ∀ d, d ∣ n → d < f + 2 → d = 1 := by
    intro d hd hl
    rcases Nat.lt_or_ge d 2 with h2 | h2
    · rcases Nat.eq_zero_or_pos d with rfl | h0
      · rw [Nat.zero_dvd] at hd; omega
      · omega
    · exact absurd (Nat.mod_eq_zero_of_dvd hd) (noDiv_is h d h2 (by omega))
  refine ⟨h1, fun d hd => ?_⟩
  obtain ⟨e, rfl⟩ := hd
  rcases Nat.lt_or_ge d (f + 2) with hl | hl
  · exact .inl (small d (Nat.dvd_mul_right _ _) hl)
  · rcases Nat.lt_or_ge e (f + 2) with hl2 | hl2
    · right; rw [small e (Nat.dvd_mul_left _ _) hl2, Nat.mul_one]
    · exact absurd (Nat.mul_le_mul hl hl2) (by omega)
theorem pm_mod {p x a : Nat} (h1 : 1 < p) (h : x ^ a % p = 1) (b : Nat) : x ^ (b % a) % p = x ^ b % p := by
  conv => rhs; rw [← Nat.div_add_mod b a, Nat.pow_add, Nat.mul_mod, pm_one h1 h, Nat.one_mul, Nat.mod_mod]
theorem pm_gcd {p x : Nat} (h1 : 1 < p) (a b : Nat) : x ^ a % p = 1 → x ^ b % p = 1 → x ^ (Nat.gcd a b) % p = 1 := by
  induction a, b using Nat.gcd.induction with
  | H0 n => intro _ h; rwa [Nat.gcd_zero_left]
  | H1 m n _ ih =>
    intro ha hb
    rw [Nat.gcd_rec]
    exact ih ((pm_mod h1 ha n).trans hb) ha
theorem pm_order {p q x k : Nat} (h1 : 1 < p) (hq : IsPr q) (hx : x % p ≠ 1) (h : x ^ q % p = 1) (h0 : 0 < k) (hk : k < q) : x ^ k % p ≠ 1 := by
  intro e
  have g := pm_gcd h1 q k h e
  rw [hq.coprime h0 hk, Nat.pow_one] at g
  exact hx g
def gP : Nat := 2147483579
def gQ : Nat := 1073741789
theorem gQ_prime : IsPr gQ := prime_of_noDiv (f := 32768) (by decide) (by decide) (by decide +kernel)
theorem four_order : 4 ^ gQ % gP = 1 := by
  have h := sqm_is gP 30 1 4 gQ (by decide)
  rw [Nat.one_mul] at h
  rw [← h]
  decide +kernel
end Go.Proofs.YtcapbojjceeapaaDoor
namespace Go.Proofs.YtcapbojjceeapaaDoor
open Go.RowKit
set_option maxRecDepth 8000
def pwN (x k : Nat) : Nat := x ^ k % gP
def pwZ (x k : Int) : Int := ((pwN x.toNat k.toNat : Nat) : Int)
def muN (a b : Nat) : Nat := a * b % gP
def resB (x : Int) : Bool := decide (1 ≤ x) && decide (x < 2147483579)
theorem resB_yes {x : Int} (h : resB x = true) : 1 ≤ x ∧ x < 2147483579 := by simpa [resB] using h
theorem resB_mk {x : Int} (a : 1 ≤ x) (b : x < 2147483579) : resB x = true := by simp [resB, a, b]
theorem muN_lt (a b : Nat) : muN a b < 2147483579 := Nat.mod_lt _ (by decide)
theorem mul_bd {a b : Nat} (ha : a < 2147483579) (hb : b < 2147483579) : a * b < 4611686018427387904 :=
  Nat.lt_of_le_of_lt (Nat.mul_le_mul (Nat.le_of_lt_succ (Nat.lt_succ_of_lt ha)) (Nat.le_of_lt_succ (Nat.lt_succ_of_lt hb))) (by decide)
theorem mu_val (a b : Nat) (ha : a < 2147483579) (hb : b < 2147483579) : (wrap64 ((a : Int) * (b : Int))).tmod 2147483579 = ((muN a b : Nat) : Int) := by
  have h := mul_bd ha hb
  have e : wrap64 ((a : Int) * (b : Int)) = ((a * b : Nat) : Int) := by
    rw [← Int.natCast_mul]
    generalize a * b = c at h
    unfold wrap64; omega
  rw [e, Int.tmod_eq_emod_of_nonneg (by omega)]
  unfold muN gP; omega
theorem grp_residue (x : Int) (w : World) : Calls Tryd.prog 96 #[.int .i64 x] w fun e w' => e = .returned (.bool (resB x)) ∧ w = w' := by
  by_cases h : 1 ≤ x
  · have d : decide (1 ≤ x) = true := by simpa using h
    have hv : resB x = decide (x < 2147483579) := by unfold resB; rw [d, Bool.true_and]
    rw [hv]; clear h hv
    go_enter Tryd.func96, Tryd.ntmps96
    go_wp2
    go_ret
    exact ⟨rfl, rfl⟩
  · have d : decide (1 ≤ x) = false := by simpa using h
    have hv : resB x = false := by unfold resB; rw [d, Bool.false_and]
    rw [hv]; clear h hv
    go_enter Tryd.func96, Tryd.ntmps96
    go_wp2
    go_ret
    exact ⟨rfl, rfl⟩
theorem ret_i64 {a b : Int} (h : a = b) : Ending.returned (.int .i64 a) = .returned (.int .i64 b) := by rw [h]
theorem grp_product_n (a b : Nat) (w : World) (ha : a < 2147483579) (hb : b < 2147483579) :
    Calls Tryd.prog 103 #[.int .i64 (a : Int), .int .i64 (b : Int)] w fun e w' => e = .returned (.int .i64 ((muN a b : Nat) : Int)) ∧ w = w' := by
  have H := Lib.hid (mu_val a b ha hb)
  go_enter Tryd.func103, Tryd.ntmps103
  go_wp2
  go_ret
  exact ⟨ret_i64 H.out, rfl⟩
theorem and1 (q : Nat) (h : q < 9223372036854775808) : bits .and .i64 (q : Int) 1 = ((q % 2 : Nat) : Int) := by
  have h1 : (BitVec.ofInt 64 (q : Int)).toNat = q := by rw [BitVec.toNat_ofInt]; omega
  have h2 : (BitVec.ofInt 64 (1 : Int)).toNat = 1 := by decide
  show IntKind.i64.wrap ((BitVec.ofInt 64 (q : Int) &&& BitVec.ofInt 64 (1 : Int)).toNat : Int) = _
  rw [BitVec.toNat_and, h1, h2, Nat.and_one_is_mod]
  exact IntWalk.i64_in _ (by omega)
theorem bit_at (k j : Nat) (hk : k < 4611686018427387904) : bits .and .i64 ((k : Int) / 2 ^ j) 1 = ((k / 2 ^ j % 2 : Nat) : Int) := by
  have e : (k : Int) / 2 ^ j = ((k / 2 ^ j : Nat) : Int) := by simp
  have h := Nat.div_le_self k (2 ^ j)
  rw [e, and1 _ (by omega)]
theorem bit_one {k j : Nat} (hk : k < 4611686018427387904) (h : k / 2 ^ j % 2 = 1) : (bits .and .i64 ((k : Int) / 2 ^ j) 1 == 1) = true := by
  rw [bit_at k j hk, h]; rfl
theorem bit_no {k j : Nat} (hk : k < 4611686018427387904) (h : ¬ k / 2 ^ j % 2 = 1) : (bits .and .i64 ((k : Int) / 2 ^ j) 1 == 1) = false := by
  rw [bit_at k j hk, show k / 2 ^ j % 2 = 0 by omega]; rfl
set_option maxHeartbeats 1000000 in
theorem bits_lenG (x : Int) (w : World) (h0 : 0 ≤ x) (h1 : x ≤ 18446744073709551615) :
    Calls Tryd.prog 89 #[.int .u64 x] w fun e w' => e = .returned (.int .i64 (Lib.bitLen x.toNat)) ∧ w = w' := by
  go_enter Tryd.func89, Tryd.ntmps89
  go_wp2_with (go_at_call 99; (with_reducible refine (bits_len64 x _ h0 h1).mono ?_); rintro e w' ⟨rfl, rfl⟩)
  go_ret
  exact ⟨rfl, rfl⟩
def PwR (x0 k0 i r y : Nat) : Prop := r < 2147483579 ∧ y < 2147483579 ∧ r * y ^ (k0 / 2 ^ i) % gP = x0 ^ k0 % gP
theorem PwR.start {x k : Nat} (h : x < 2147483579) : PwR x k 0 1 x := ⟨by decide, h, by simp⟩
theorem PwR.step {x0 k0 i r y : Nat} (h : PwR x0 k0 i r y) (s : Nat) (hs : s = if k0 / 2 ^ i % 2 = 1 then muN r y else r) : PwR x0 k0 (i + 1) s (muN y y) := by
  obtain ⟨h1, h2, h3⟩ := h
  refine ⟨?_, muN_lt _ _, ?_⟩
  · rw [hs]; split
    · exact muN_lt _ _
    · exact h1
  · rw [hs, Nat.pow_succ, ← Nat.div_div_eq_div_mul, ← h3]
    exact pm_step gP r y (k0 / 2 ^ i)
theorem PwR.done {x0 k0 i r y : Nat} (h : PwR x0 k0 i r y) (hi : k0 < 2 ^ i) : r = pwN x0 k0 := by
  obtain ⟨h1, _, h3⟩ := h
  rw [Nat.div_eq_of_lt hi, Nat.pow_zero, Nat.mul_one, Nat.mod_eq_of_lt (b := gP) h1] at h3
  exact h3
theorem len_lt : ∀ f x : Nat, x < 2 ^ f → x < 2 ^ Lib.bitLenAux f x
  | 0, x, h => by simpa [Lib.bitLenAux] using h
  | f + 1, x, h => by
    unfold Lib.bitLenAux
    split
    · rename_i h0; subst h0; decide
    · have := len_lt f (x / 2) (by rw [Nat.pow_succ] at h; omega)
      rw [Nat.add_comm 1, Nat.pow_succ]; omega
theorem len_le : ∀ f x : Nat, Lib.bitLenAux f x ≤ f
  | 0, x => Nat.le_refl _
  | f + 1, x => by
    unfold Lib.bitLenAux
    split
    · omega
    · have := len_le f (x / 2); omega
set_option maxHeartbeats 1000000 in
theorem grp_power_n (x k : Nat) (w : World) (hx : x < 2147483579) (hk : k < 4611686018427387904) :
    Calls Tryd.prog 97 #[.int .i64 (x : Int), .int .i64 (k : Int)] w fun e w' => e = .returned (.int .i64 ((pwN x k : Nat) : Int)) ∧ w = w' := by
  have HL : ∃ L : Nat, Hid (Lib.bitLen k = L) := ⟨_, Lib.hid rfl⟩
  obtain ⟨L, HL⟩ := HL
  have hL : L ≤ 64 := by have := len_le 64 k; rw [← HL.out]; exact this
  have hb := bits_lenG (k : Int) w (by omega) (by omega)
  rw [Int.toNat_natCast, HL.out] at hb
  have HB := Lib.hid hb
  clear hb
  go_enter Tryd.func97, Tryd.ntmps97
  go_wp2_with (go_at_call 89; (with_reducible refine HB.out.mono ?_); rintro e w' ⟨rfl, rfl⟩)
  go_loop [0, 5, 6, 10] (fun x5 r _ i => ∃ j r0 y0 : Nat, j ≤ L ∧ i = .int .i64 (j : Int) ∧ r = .int .i64 (r0 : Int) ∧ x5 = .int .i64 (y0 : Int) ∧ Hid (PwR x k j r0 y0)) (fun _ _ _ i => L - (intOf i).toNat)
  case atStart => exact ⟨0, 1, x, Nat.zero_le _, rfl, rfl, rfl, Lib.hid (PwR.start hx)⟩
  case round =>
    obtain ⟨j, r0, y0, hj, rfl, rfl, rfl, HR⟩ := hrel
    by_cases hlt : j < L
    · have hr := HR.out.1
      have hy := HR.out.2.1
      by_cases hbit : k / 2 ^ j % 2 = 1
      · have HS := Lib.hid (HR.out.step (muN r0 y0) (by rw [if_pos hbit]))
        have hd := bit_one hk hbit
        clear hbit HR
        go_wp2_with fail
        with_reducible refine (grp_product_n r0 y0 _ hr hy).mono ?_
        rintro e w' ⟨rfl, rfl⟩
        go_wp2_with fail
        with_reducible refine (grp_product_n y0 y0 _ hy hy).mono ?_
        rintro e w' ⟨rfl, rfl⟩
        go_wp2
        go_round
        case rel => exact ⟨j + 1, _, _, by omega, by go_num, rfl, rfl, HS⟩
        case measure => simp [intOf]; omega
      · have HS := Lib.hid (HR.out.step r0 (by rw [if_neg hbit]))
        have hd := bit_no hk hbit
        clear hbit HR
        go_wp2_with fail
        with_reducible refine (grp_product_n y0 y0 _ hy hy).mono ?_
        rintro e w' ⟨rfl, rfl⟩
        go_wp2
        go_round
        case rel => exact ⟨j + 1, _, _, by omega, by go_num, rfl, rfl, HS⟩
        case measure => simp [intOf]; omega
    · go_wp2
      go_ret
      obtain rfl : j = L := by omega
      have hl := len_lt 64 k (by omega)
      have e : Lib.bitLenAux 64 k = j := HL.out
      rw [e] at hl
      exact ⟨ret_i64 (by rw [HR.out.done hl]), rfl⟩
theorem grp_power (x k : Int) (w : World) (h0 : 0 ≤ x) (hx : x < 2147483579) (hk0 : 0 ≤ k) (hk : k < 4611686018427387904) :
    Calls Tryd.prog 97 #[.int .i64 x, .int .i64 k] w fun e w' => e = .returned (.int .i64 (pwZ x k)) ∧ w = w' := by
  have h := grp_power_n x.toNat k.toNat w (by omega) (by omega)
  rw [Int.toNat_of_nonneg h0, Int.toNat_of_nonneg hk0] at h
  exact h
set_option maxRecDepth 8000
theorem ref_residue (x : Int) (w : World) : Calls Tryd.prog 63 #[.int .i64 x] w fun e w' => e = .returned (.bool (resB x)) ∧ w = w' := by
  by_cases h : 1 ≤ x
  · have d : decide (1 ≤ x) = true := by simpa using h
    have hv : resB x = decide (x < 2147483579) := by unfold resB; rw [d, Bool.true_and]
    rw [hv]; clear h hv
    go_enter Tryd.func63, Tryd.ntmps63
    go_wp2
    go_ret
    exact ⟨rfl, rfl⟩
  · have d : decide (1 ≤ x) = false := by simpa using h
    have hv : resB x = false := by unfold resB; rw [d, Bool.false_and]
    rw [hv]; clear h hv
    go_enter Tryd.func63, Tryd.ntmps63
    go_wp2
    go_ret
    exact ⟨rfl, rfl⟩
def QwR (x0 k0 q r y : Nat) : Prop := r < 2147483579 ∧ y < 2147483579 ∧ r * y ^ q % gP = x0 ^ k0 % gP
theorem QwR.start {x k : Nat} (h : x < 2147483579) : QwR x k k 1 x := ⟨by decide, h, by simp⟩
theorem QwR.step {x0 k0 q r y : Nat} (h : QwR x0 k0 q r y) (s : Nat) (hs : s = if q % 2 = 1 then muN r y else r) : QwR x0 k0 (q / 2) s (muN y y) := by
  obtain ⟨h1, h2, h3⟩ := h
  refine ⟨?_, muN_lt _ _, ?_⟩
  · rw [hs]; split
    · exact muN_lt _ _
    · exact h1
  · rw [hs, ← h3]
    exact pm_step gP r y q
theorem QwR.done {x0 k0 r y : Nat} (h : QwR x0 k0 0 r y) : r = pwN x0 k0 := by
  obtain ⟨h1, _, h3⟩ := h
  rw [Nat.pow_zero, Nat.mul_one, Nat.mod_eq_of_lt (b := gP) h1] at h3
  exact h3
theorem int_mu {a b : Nat} (ha : a < 2147483579) (hb : b < 2147483579) : Value.int .i64 ((wrap64 ((a : Int) * (b : Int))).tmod 2147483579) = .int .i64 ((muN a b : Nat) : Int) := by rw [mu_val a b ha hb]
set_option maxHeartbeats 1000000 in
theorem ref_pow_n (x k : Nat) (w : World) (hx : x < 2147483579) (hk : k < 4611686018427387904) :
    Calls Tryd.prog 64 #[.int .i64 (x : Int), .int .i64 (k : Int)] w fun e w' => e = .returned (.int .i64 ((pwN x k : Nat) : Int)) ∧ w = w' := by
  go_enter Tryd.func64, Tryd.ntmps64
  go_wp2
  go_loop [0, 1, 5] (fun s t r => ∃ q r0 y0 : Nat, q ≤ k ∧ t = .int .i64 (q : Int) ∧ r = .int .i64 (r0 : Int) ∧ s = .int .i64 (y0 : Int) ∧ Hid (QwR x k q r0 y0)) (fun _ t _ => (intOf t).toNat)
  case atStart => exact ⟨k, 1, x, Nat.le_refl _, rfl, rfl, rfl, Lib.hid (QwR.start hx)⟩
  case round =>
    obtain ⟨q, r0, y0, hq, rfl, rfl, rfl, HR⟩ := hrel
    have hr := HR.out.1
    have hy := HR.out.2.1
    by_cases hlt : 0 < q
    · by_cases hbit : q % 2 = 1
      · have HS := Lib.hid (HR.out.step (muN r0 y0) (by rw [if_pos hbit]))
        have hd : ((q : Int) % 2 == 1) = true := by simp; omega
        clear hbit HR
        go_wp2
        go_round
        case rel => exact ⟨q / 2, _, _, by omega, by go_num, int_mu hr hy, int_mu hy hy, HS⟩
        case measure => simp [intOf]; omega
      · have HS := Lib.hid (HR.out.step r0 (by rw [if_neg hbit]))
        have hd : ((q : Int) % 2 == 1) = false := by simp; omega
        clear hbit HR
        go_wp2
        go_round
        case rel => exact ⟨q / 2, _, _, by omega, by go_num, rfl, int_mu hy hy, HS⟩
        case measure => simp [intOf]; omega
    · go_wp2
      go_ret
      obtain rfl : q = 0 := by omega
      exact ⟨ret_i64 (by rw [HR.out.done]), rfl⟩
theorem ref_pow (x k : Int) (w : World) (h0 : 0 ≤ x) (hx : x < 2147483579) (hk0 : 0 ≤ k) (hk : k < 4611686018427387904) :
    Calls Tryd.prog 64 #[.int .i64 x, .int .i64 k] w fun e w' => e = .returned (.int .i64 (pwZ x k)) ∧ w = w' := by
  have h := ref_pow_n x.toNat k.toNat w (by omega) (by omega)
  rw [Int.toNat_of_nonneg h0, Int.toNat_of_nonneg hk0] at h
  exact h
def nearZ (n : Int) : Int := 1 + n % 1073741788
theorem near_bd (n : Int) : 1 ≤ nearZ n ∧ nearZ n ≤ 1073741788 := by unfold nearZ; omega
theorem near_tmod (n : Int) : (n.tmod 1073741788 < 0 → n.tmod 1073741788 + 1073741788 = nearZ n - 1) ∧ (¬ n.tmod 1073741788 < 0 → n.tmod 1073741788 = nearZ n - 1) := by
  have h := Int.tmod_eq_emod (a := n) (b := 1073741788)
  unfold nearZ
  split at h <;> omega
theorem near_i64 (n : Int) : -1073741788 < n.tmod 1073741788 ∧ n.tmod 1073741788 < 1073741788 := by
  have h := near_tmod n
  have g := near_bd n
  have k := Int.tmod_eq_emod (a := n) (b := 1073741788)
  split at k <;> omega
theorem ref_near (n : Int) (w : World) : Calls Tryd.prog 65 #[.int .i64 n] w fun e w' => e = .returned (.int .i64 (nearZ n)) ∧ w = w' := by
  have H1 := Lib.hid (near_tmod n)
  have h2 := near_i64 n
  obtain ⟨h2a, h2b⟩ := h2
  by_cases hc : n.tmod 1073741788 < 0
  · have H3 := Lib.hid (H1.out.1 hc)
    go_enter Tryd.func65, Tryd.ntmps65
    go_wp2
    go_ret
    exact ⟨ret_i64 (by have := H3.out; omega), rfl⟩
  · have H3 := Lib.hid (H1.out.2 hc)
    go_enter Tryd.func65, Tryd.ntmps65
    go_wp2
    go_ret
    exact ⟨ret_i64 (by have := H3.out; omega), rfl⟩
def pointZ (n : Int) : Int := pwZ 4 (nearZ n)
theorem ref_point (n : Int) (w : World) : Calls Tryd.prog 41 #[.int .i64 n] w fun e w' => e = .returned (.int .i64 (pointZ n)) ∧ w = w' := by
  have hb := near_bd n
  obtain ⟨hb1, hb2⟩ := hb
  go_enter Tryd.func41, Tryd.ntmps41
  go_wp2_with fail
  with_reducible refine (ref_near n _).mono ?_
  rintro e w' ⟨rfl, rfl⟩
  go_wp2_with fail
  with_reducible refine (ref_pow 4 (nearZ n) _ (by decide) (by decide) (by omega) (by omega)).mono ?_
  rintro e w' ⟨rfl, rfl⟩
  go_wp2
  go_ret
  exact ⟨rfl, rfl⟩
set_option maxRecDepth 8000
def elB (x : Int) : Bool := resB x && (x != 1) && (pwZ x 1073741789 == 1)
theorem elB_res {x : Int} (h : elB x = true) : resB x = true := by
  unfold elB at h; rw [Bool.and_eq_true, Bool.and_eq_true] at h; exact h.1.1
theorem elB_bd {x : Int} (h : elB x = true) : 1 ≤ x ∧ x < 2147483579 := resB_yes (elB_res h)
theorem grp_element (x : Int) (w : World) : Calls Tryd.prog 86 #[.int .i64 x] w fun e w' => e = .returned (.bool (elB x)) ∧ w = w' := by
  by_cases h : resB x = true
  · obtain ⟨h1, h2⟩ := resB_yes h
    by_cases hx : x = 1
    · have hd : (x != 1) = false := by simpa using hx
      have hv : elB x = false := by unfold elB; rw [hd, Bool.and_false, Bool.false_and]
      rw [hv]; clear hv hx
      go_enter Tryd.func86, Tryd.ntmps86
      go_wp2_with (go_at_call 96; ((with_reducible refine (grp_residue x _).mono ?_); rintro e w' ⟨rfl, rfl⟩))
      go_ret
      exact ⟨rfl, rfl⟩
    · have hd : (x != 1) = true := by simpa using hx
      have hv : elB x = (pwZ x 1073741789 == 1) := by unfold elB; rw [h, hd, Bool.true_and, Bool.true_and]
      rw [hv]; clear hv hx
      go_enter Tryd.func86, Tryd.ntmps86
      go_wp2_with (first | (go_at_call 96; ((with_reducible refine (grp_residue x _).mono ?_); rintro e w' ⟨rfl, rfl⟩)) | (go_at_call 97; ((with_reducible refine (grp_power x 1073741789 _ (by omega) h2 (by decide) (by decide)).mono ?_); rintro e w' ⟨rfl, rfl⟩)))
      go_ret
      exact ⟨rfl, rfl⟩
  · have hr : resB x = false := by simpa using h
    have hv : elB x = false := by unfold elB; rw [hr, Bool.false_and, Bool.false_and]
    rw [hv]; clear hv h
    go_enter Tryd.func86, Tryd.ntmps86
    go_wp2_with (go_at_call 96; ((with_reducible refine (grp_residue x _).mono ?_); rintro e w' ⟨rfl, rfl⟩))
    go_ret
    exact ⟨rfl, rfl⟩
theorem ref_element (x : Int) (w : World) : Calls Tryd.prog 39 #[.int .i64 x] w fun e w' => e = .returned (.bool (elB x)) ∧ w = w' := by
  by_cases h : resB x = true
  · obtain ⟨h1, h2⟩ := resB_yes h
    by_cases hx : x = 1
    · have hd : (x != 1) = false := by simpa using hx
      have hv : elB x = false := by unfold elB; rw [hd, Bool.and_false, Bool.false_and]
      rw [hv]; clear hv hx
      go_enter Tryd.func39, Tryd.ntmps39
      go_wp2_with (go_at_call 63; ((with_reducible refine (ref_residue x _).mono ?_); rintro e w' ⟨rfl, rfl⟩))
      go_ret
      exact ⟨rfl, rfl⟩
    · have hd : (x != 1) = true := by simpa using hx
      have hv : elB x = (pwZ x 1073741789 == 1) := by unfold elB; rw [h, hd, Bool.true_and, Bool.true_and]
      rw [hv]; clear hv hx
      go_enter Tryd.func39, Tryd.ntmps39
      go_wp2_with (first | (go_at_call 63; ((with_reducible refine (ref_residue x _).mono ?_); rintro e w' ⟨rfl, rfl⟩)) | (go_at_call 64; ((with_reducible refine (ref_pow x 1073741789 _ (by omega) h2 (by decide) (by decide)).mono ?_); rintro e w' ⟨rfl, rfl⟩)))
      go_ret
      exact ⟨rfl, rfl⟩
  · have hr : resB x = false := by simpa using h
    have hv : elB x = false := by unfold elB; rw [hr, Bool.false_and, Bool.false_and]
    rw [hv]; clear hv h
    go_enter Tryd.func39, Tryd.ntmps39
    go_wp2_with (go_at_call 63; ((with_reducible refine (ref_residue x _).mono ?_); rintro e w' ⟨rfl, rfl⟩))
    go_ret
    exact ⟨rfl, rfl⟩
end Go.Proofs.YtcapbojjceeapaaDoor
namespace Go.Proofs.YtcapbojjceeapaaDoor
def Sub (y : Int) : Prop := ∃ n : Nat, y = (n : Int) ∧ n < gP ∧ n ^ gQ % gP = 1
theorem gP1 : 1 < gP := by decide
theorem gP_pos : 0 < gP := by decide
theorem pos_of {n : Nat} (h : n ^ gQ % gP = 1) : 0 < n := by
  rcases Nat.eq_zero_or_pos n with rfl | h0
  · rw [Nat.zero_pow (show 0 < gQ by decide), Nat.zero_mod] at h; cases h
  · exact h0
theorem Sub.res {y : Int} (h : Sub y) : resB y = true := by
  obtain ⟨n, rfl, h1, h2⟩ := h
  have h0 := pos_of h2
  unfold gP at h1
  exact resB_mk (by omega) (by omega)
theorem pwZ_q (n : Nat) : pwZ (n : Int) 1073741789 = ((n ^ gQ % gP : Nat) : Int) := rfl
theorem Sub.el {y : Int} (h : Sub y) (hne : y ≠ 1) : elB y = true := by
  unfold elB
  rw [h.res]
  obtain ⟨n, rfl, h1, h2⟩ := h
  rw [pwZ_q, h2]
  simpa using hne
theorem Sub.pow {a : Int} (h : Sub a) (k : Int) : Sub (pwZ a k) := by
  obtain ⟨n, rfl, h1, h2⟩ := h
  refine ⟨n ^ k.toNat % gP, rfl, Nat.mod_lt _ gP_pos, ?_⟩
  rw [pm_pow, ← Nat.pow_mul, Nat.mul_comm]
  exact pm_one gP1 h2 _
theorem sub_four : Sub 4 := ⟨4, rfl, by decide, four_order⟩
theorem four_ne : 4 % gP ≠ 1 := by decide
theorem pt_ne {k : Int} (h1 : 1 ≤ k) (h2 : k < 1073741789) : pwZ 4 k ≠ 1 := by
  have h := pm_order gP1 gQ_prime four_ne four_order (k := k.toNat) (by omega) (by unfold gQ; omega)
  intro e
  apply h
  have e2 : ((4 ^ k.toNat % gP : Nat) : Int) = 1 := e
  omega
theorem pt_el {k : Int} (h1 : 1 ≤ k) (h2 : k < 1073741789) : elB (pwZ 4 k) = true := (sub_four.pow k).el (pt_ne h1 h2)
end Go.Proofs.YtcapbojjceeapaaDoor
