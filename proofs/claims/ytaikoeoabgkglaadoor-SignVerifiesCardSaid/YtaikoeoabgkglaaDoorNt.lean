/-
  What is proved here: plain facts on numbers modulo a prime: powers, Fermat's little theorem, the order of an element, and that the two numbers of the group are primes; nothing of the program is used.
-/
import Derived.Lib.Hide
namespace Go.Proofs.YtaikoeoabgkglaaDoor

/-! ### powers modulo p -/
theorem pm_mul (p a b : Nat) : a % p * (b % p) % p = a * b % p := (Nat.mul_mod a b p).symm
theorem pm_mul_l (p a b : Nat) : a % p * b % p = a * b % p := by rw [Nat.mod_mul_mod]
theorem pm_mul_r (p a b : Nat) : a * (b % p) % p = a * b % p := by rw [Nat.mul_mod_mod]
theorem pm_pow (p x k : Nat) : (x % p) ^ k % p = x ^ k % p := (Nat.pow_mod x k p).symm
theorem pm_cong_mul {p a b c d : Nat} (h : a % p = b % p) (g : c % p = d % p) : a * c % p = b * d % p := by
  rw [Nat.mul_mod, h, g, ← Nat.mul_mod]
theorem pm_cong_pow {p a b : Nat} (h : a % p = b % p) (k : Nat) : a ^ k % p = b ^ k % p := by
  rw [Nat.pow_mod, h, ← Nat.pow_mod]
theorem pm_one {p x a : Nat} (h1 : 1 < p) (h : x ^ a % p = 1) (k : Nat) : x ^ (a * k) % p = 1 := by
  rw [Nat.pow_mul, Nat.pow_mod, h, Nat.one_pow, Nat.mod_eq_of_lt h1]

/-- by squares -/
def sqm (p : Nat) : Nat → Nat → Nat → Nat → Nat
  | 0, r, _, _ => r
  | f + 1, r, x, k => sqm p f (if k % 2 = 1 then r * x % p else r) (x * x % p) (k / 2)
theorem pm_half (p x k : Nat) : (x * x % p) ^ (k / 2) * (if k % 2 = 1 then x else 1) % p = x ^ k % p := by
  have hk : k = 2 * (k / 2) + k % 2 := by omega
  have h2 : (x * x % p) ^ (k / 2) % p = x ^ (2 * (k / 2)) % p := by
    rw [pm_pow, Nat.pow_mul, Nat.pow_two]
  rcases Nat.mod_two_eq_zero_or_one k with h | h
  · rw [if_neg (by omega), Nat.mul_one, h2]
    congr 2; omega
  · rw [if_pos h, Nat.mul_mod, h2, ← Nat.mul_mod, ← Nat.pow_succ]
    congr 2; omega
theorem pm_step (p r x k : Nat) : (if k % 2 = 1 then r * x % p else r) * (x * x % p) ^ (k / 2) % p = r * x ^ k % p := by
  rw [← pm_mul_r p r (x ^ k), ← pm_half p x k, pm_mul_r]
  split
  · rw [pm_mul_l, Nat.mul_assoc, Nat.mul_comm x]
  · rw [Nat.mul_one]
theorem sqm_is (p : Nat) : ∀ f r x k, k < 2 ^ f → sqm p f r x k % p = r * x ^ k % p
  | 0, r, x, k, h => by
    obtain rfl : k = 0 := by simp at h; exact h
    simp [sqm]
  | f + 1, r, x, k, h => by
    unfold sqm
    rw [sqm_is p f _ _ _ (by rw [Nat.pow_succ] at h; omega), pm_step]

/-! ### primes -/
def IsPr (p : Nat) : Prop := 1 < p ∧ ∀ d, d ∣ p → d = 1 ∨ d = p
theorem IsPr.coprime {p k : Nat} (h : IsPr p) (h0 : 0 < k) (hk : k < p) : Nat.Coprime p k := by
  rcases h.2 _ (Nat.gcd_dvd_left p k) with e | e
  · exact e
  · have hd : p ∣ k := by have := Nat.gcd_dvd_right p k; rwa [e] at this
    exact absurd (Nat.le_of_dvd h0 hd) (by omega)
theorem IsPr.euclid {p a b : Nat} (h : IsPr p) (h0 : 0 < a) (ha : a < p) (hd : p ∣ a * b) : p ∣ b := (h.coprime h0 ha).dvd_of_dvd_mul_left hd

/-- no number from d on, f of them, divides n -/
def noDiv (n : Nat) : Nat → Nat → Bool
  | 0, _ => true
  | f + 1, d => if n % d = 0 then false else noDiv n f (d + 1)
theorem noDiv_is {n : Nat} : ∀ {f d : Nat}, noDiv n f d = true → ∀ e, d ≤ e → e < d + f → n % e ≠ 0
  | 0, d, _, e, h1, h2 => by omega
  | f + 1, d, h, e, h1, h2 => by
    unfold noDiv at h
    split at h
    · cases h
    · rename_i hd
      rcases Nat.eq_or_lt_of_le h1 with rfl | h3
      · exact hd
      · exact noDiv_is h e (by omega) (by omega)
theorem prime_of_noDiv {n f : Nat} (h1 : 1 < n) (hf : n < (f + 2) * (f + 2)) (h : noDiv n f 2 = true) : IsPr n := by
  have small : ∀ d, d ∣ n → d < f + 2 → d = 1 := by
    intro d hd hl
    rcases Nat.lt_or_ge d 2 with h2 | h2
    · rcases Nat.eq_zero_or_pos d with rfl | h0
      · rw [Nat.zero_dvd] at hd; omega
      · omega
    · exact absurd (Nat.mod_eq_zero_of_dvd hd) (noDiv_is h d h2 (by omega))
  refine ⟨h1, fun d hd => ?_⟩
  obtain ⟨e, rfl⟩ := hd
  rcases Nat.lt_or_ge d (f + 2) with hl | hl
  · exact .inl (small d (Nat.dvd_mul_right _ _) hl)
  · rcases Nat.lt_or_ge e (f + 2) with hl2 | hl2
    · right; rw [small e (Nat.dvd_mul_left _ _) hl2, Nat.mul_one]
    · exact absurd (Nat.mul_le_mul hl hl2) (by omega)

/-! ### the order of an element -/
theorem pm_mod {p x a : Nat} (h1 : 1 < p) (h : x ^ a % p = 1) (b : Nat) : x ^ (b % a) % p = x ^ b % p := by
  conv => rhs; rw [← Nat.div_add_mod b a, Nat.pow_add, Nat.mul_mod, pm_one h1 h, Nat.one_mul, Nat.mod_mod]
theorem pm_gcd {p x : Nat} (h1 : 1 < p) (a b : Nat) : x ^ a % p = 1 → x ^ b % p = 1 → x ^ (Nat.gcd a b) % p = 1 := by
  induction a, b using Nat.gcd.induction with
  | H0 n => intro _ h; rwa [Nat.gcd_zero_left]
  | H1 m n _ ih =>
    intro ha hb
    rw [Nat.gcd_rec]
    exact ih ((pm_mod h1 ha n).trans hb) ha
/-- a number of the prime order q: a power is 1 at a multiple of q alone -/
theorem pm_order {p q x k : Nat} (h1 : 1 < p) (hq : IsPr q) (hx : x % p ≠ 1) (h : x ^ q % p = 1) (h0 : 0 < k) (hk : k < q) : x ^ k % p ≠ 1 := by
  intro e
  have g := pm_gcd h1 q k h e
  rw [hq.coprime h0 hk, Nat.pow_one] at g
  exact hx g
theorem pm_order2 {p q x k n : Nat} (h1 : 1 < p) (hq : IsPr q) (hx : x % p ≠ 1) (h : x ^ q % p = 1) (h0 : 0 < k) (hk : k < q) (h2 : 0 < n) (hn : n < q) : x ^ (k * n) % p ≠ 1 := by
  intro e
  have g := pm_gcd h1 q (k * n) h e
  have c : Nat.gcd q (k * n) = 1 := Nat.Coprime.mul_right (hq.coprime h0 hk) (hq.coprime h2 hn)
  rw [c, Nat.pow_one] at g
  exact hx g

/-! ### Fermat's little theorem, by the binomial coefficients -/
def chs : Nat → Nat → Nat
  | _, 0 => 1
  | 0, _ + 1 => 0
  | n + 1, k + 1 => chs n k + chs n (k + 1)
theorem chs_zero (n : Nat) : chs n 0 = 1 := by cases n <;> rfl
theorem chs_succ (n k : Nat) : chs (n + 1) (k + 1) = chs n k + chs n (k + 1) := rfl
theorem chs_past : ∀ n k, n < k → chs n k = 0
  | 0, k + 1, _ => rfl
  | n + 1, k + 1, h => by rw [chs_succ, chs_past n k (by omega), chs_past n (k + 1) (by omega)]
theorem chs_self : ∀ n, chs n n = 1
  | 0 => rfl
  | n + 1 => by rw [chs_succ, chs_self n, chs_past n (n + 1) (by omega)]
theorem chs_mul : ∀ n k, (k + 1) * chs (n + 1) (k + 1) = (n + 1) * chs n k
  | 0, 0 => rfl
  | 0, k + 1 => by rw [chs_past 1 (k + 1 + 1) (by omega), chs_past 0 (k + 1) (by omega)]; omega
  | n + 1, 0 => by
    have h := chs_mul n 0
    have e1 : chs (n + 1) (0 + 1) = chs n 0 + chs n (0 + 1) := chs_succ n 0
    have e2 : chs (n + 1 + 1) (0 + 1) = chs (n + 1) 0 + chs (n + 1) (0 + 1) := chs_succ (n + 1) 0
    have e3 := chs_zero n
    have e4 := chs_zero (n + 1)
    rw [e3] at h e1
    rw [e4] at e2 ⊢
    omega
  | n + 1, j + 1 => by
    have h1 := chs_mul n j
    have h2 := chs_mul n (j + 1)
    have e := chs_succ n j
    rw [chs_succ (n + 1) (j + 1), Nat.mul_add, h2]
    have e2 : (j + 1 + 1) * chs (n + 1) (j + 1) = chs (n + 1) (j + 1) + (j + 1) * chs (n + 1) (j + 1) := by
      rw [Nat.add_mul (j + 1) 1, Nat.one_mul, Nat.add_comm]
    rw [e2, h1, Nat.add_assoc, ← Nat.mul_add, ← e, Nat.add_mul (n + 1) 1, Nat.one_mul, Nat.add_comm]
def smk (f : Nat → Nat) : Nat → Nat
  | 0 => 0
  | m + 1 => smk f m + f m
theorem smk_chs (n x : Nat) : ∀ m, smk (fun k => chs (n + 1) k * x ^ k) (m + 1) = smk (fun k => chs n k * x ^ k) (m + 1) + x * smk (fun k => chs n k * x ^ k) m
  | 0 => by simp [smk, chs_zero]
  | m + 1 => by
    have h := smk_chs n x m
    rw [smk, h]
    conv => rhs; rw [smk]
    have e : x * smk (fun k => chs n k * x ^ k) (m + 1) = x * smk (fun k => chs n k * x ^ k) m + chs n m * x ^ (m + 1) := by
      rw [smk, Nat.mul_add, Nat.pow_succ, Nat.mul_left_comm, Nat.mul_comm x (x ^ m)]
    rw [e, chs_succ, Nat.add_mul]
    omega
theorem binom (x : Nat) : ∀ n, (x + 1) ^ n = smk (fun k => chs n k * x ^ k) (n + 1)
  | 0 => by simp [smk, chs_zero]
  | n + 1 => by
    rw [smk_chs, smk, chs_past n (n + 1) (by omega), Nat.zero_mul, Nat.add_zero, ← binom x n, Nat.pow_succ, Nat.mul_add, Nat.mul_one, Nat.mul_comm x]
    omega
theorem chs_dvd {p k : Nat} (hp : IsPr p) (h0 : 0 < k) (hk : k < p) : p ∣ chs p k := by
  obtain ⟨n, rfl⟩ : ∃ n, p = n + 1 := ⟨p - 1, by have := hp.1; omega⟩
  obtain ⟨j, rfl⟩ : ∃ j, k = j + 1 := ⟨k - 1, by omega⟩
  exact hp.euclid h0 hk ⟨_, chs_mul n j⟩
theorem smk_mod {p x : Nat} (hp : IsPr p) : ∀ m, m + 1 ≤ p → smk (fun k => chs p k * x ^ k) (m + 1) % p = 1
  | 0, _ => by simp [smk, chs_zero]; exact Nat.mod_eq_of_lt hp.1
  | m + 1, h => by
    obtain ⟨c, hc⟩ := chs_dvd (k := m + 1) hp (by omega) (by omega)
    rw [smk, hc, Nat.mul_assoc, Nat.add_mul_mod_self_left, smk_mod hp m (by omega)]
theorem pow_next {p x : Nat} (hp : IsPr p) : (x + 1) ^ p % p = (x ^ p + 1) % p := by
  obtain ⟨n, hn⟩ : ∃ n, p = n + 1 := ⟨p - 1, by have := hp.1; omega⟩
  rw [binom, smk, chs_self, Nat.one_mul]
  have h := smk_mod (x := x) hp n (by omega)
  rw [← hn] at h
  rw [Nat.add_mod, h, Nat.add_comm, Nat.mod_add_mod]
theorem pow_self {p : Nat} (hp : IsPr p) : ∀ x, x ^ p % p = x % p
  | 0 => by rw [Nat.zero_pow (by have := hp.1; omega)]
  | x + 1 => by rw [pow_next hp, Nat.add_mod, pow_self hp x, ← Nat.add_mod]
theorem fermat {p x : Nat} (hp : IsPr p) (h0 : 0 < x) (hx : x < p) : x ^ (p - 1) % p = 1 := by
  have h1 := pow_self hp x
  have e : x ^ p = x * x ^ (p - 1) := by
    rw [← Nat.pow_succ']; congr 1; have := hp.1; omega
  have pos : 0 < x ^ (p - 1) := Nat.pow_pos h0
  have h2 : p ∣ x * (x ^ (p - 1) - 1) := by
    rw [Nat.mul_sub, Nat.mul_one, ← e]
    exact Nat.dvd_of_mod_eq_zero (Nat.sub_mod_eq_zero_of_mod_eq h1)
  obtain ⟨c, hc⟩ := hp.euclid h0 hx h2
  have e3 : x ^ (p - 1) = 1 + p * c := by omega
  rw [e3, Nat.add_mul_mod_self_left, Nat.mod_eq_of_lt hp.1]

/-! ### halves -/
theorem root_of_one {p y : Nat} (hp : IsPr p) (hy : y < p) (h : y * y % p = 1) : y = 1 ∨ y = p - 1 := by
  rcases Nat.eq_zero_or_pos y with rfl | h0
  · simp at h
  rcases Nat.lt_or_ge 1 y with h1 | h1
  · right
    have hd : p ∣ (y - 1) * (y + 1) := by
      have e : (y - 1) * (y + 1) = y * y - 1 := by
        obtain ⟨z, rfl⟩ : ∃ z, y = z + 1 := ⟨y - 1, by omega⟩
        rw [Nat.add_sub_cancel, Nat.mul_add, Nat.mul_add, Nat.add_mul, Nat.mul_add]; omega
      rw [e]
      exact Nat.dvd_of_mod_eq_zero (Nat.sub_mod_eq_zero_of_mod_eq (h.trans (Nat.mod_eq_of_lt hp.1).symm))
    have := Nat.le_of_dvd (by omega) (hp.euclid (by omega) (by omega) hd)
    omega
  · left; omega
theorem neg_sq {p x : Nat} (h : x ≤ p) : (p - x) * (p - x) % p = x * x % p := by
  obtain ⟨t, rfl⟩ : ∃ t, p = t + x := ⟨p - x, by omega⟩
  have e : t * t + (t + x) * x = x * x + (t + x) * t := by
    rw [Nat.add_mul, Nat.add_mul, Nat.mul_comm x t]; omega
  rw [Nat.add_sub_cancel, ← Nat.add_mul_mod_self_left (t * t) (t + x) x, e, Nat.add_mul_mod_self_left]
theorem neg_odd {p x m : Nat} (h : x ≤ p) : ((p - x) ^ (2 * m + 1) + x ^ (2 * m + 1)) % p = 0 := by
  have h2 : (p - x) ^ (2 * m) % p = x ^ (2 * m) % p := by
    rw [Nat.pow_mul, Nat.pow_mul, Nat.pow_two, Nat.pow_two]
    exact pm_cong_pow (neg_sq h) m
  rw [Nat.pow_succ, Nat.pow_succ, Nat.add_mod, Nat.mul_mod, h2, ← Nat.mul_mod, ← Nat.add_mod, ← Nat.mul_add, Nat.sub_add_cancel h, Nat.mul_mod_left]

/-! ### the group's two primes -/
def gP : Nat := 2147483579
def gQ : Nat := 1073741789
theorem gP_prime : IsPr gP := prime_of_noDiv (f := 46340) (by decide) (by decide) (by decide +kernel)
theorem gQ_prime : IsPr gQ := prime_of_noDiv (f := 32768) (by decide) (by decide) (by decide +kernel)
theorem gP_odd : gP - 1 = 2 * gQ := by decide
theorem four_order : 4 ^ gQ % gP = 1 := by
  have h := sqm_is gP 30 1 4 gQ (by decide)
  rw [Nat.one_mul] at h
  rw [← h]
  decide +kernel
end Go.Proofs.YtaikoeoabgkglaaDoor
