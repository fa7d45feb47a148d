/-
  What is proved here: words for the reference's Decode: rows of templates that are built, bytes that are appended to nothing, loads of objects in regions that draw their order.
-/
import Derived.Test.YtkgfdbbdmchmeaaDoorZ18
import Derived.Test.YtkgfdbbdmchmeaaDoorZ20
import Derived.Laws.AppendOwnNone
import Derived.Lib.Hide
import Derived.Test.YtkgfdbbdmchmeaaDoorRows
import Derived.Test.YtkgfdbbdmchmeaaDoorZ0
import Derived.Test.YtkgfdbbdmchmeaaDoorZ3
namespace Go.Proofs.YtkgfdbbdmchmeaaDoor
open Go.RowKit
set_option linter.unusedVariables false
set_option linter.unusedSimpArgs false
theorem o_ixv {P : Program} {a : Act} {w : World} {K : Act → World → Prop} {Q : Exit → Act → World → Prop} {o : Oper} (T : TypeId) (x y : Operand) (ho : o.op = .index T x y) {v vx vy : Value} (hx : a.eval x = vx) (hy : a.eval y = vy) (hr : (Instr.index T vx vy).run P w = .ok v w) (hK : K (a.put o.dst v) w) : o.wp P a w K Q := by
  unfold Oper.wp execOp
  simp only [ho, hx, hy, Sem.run_bind, hr, Result.andThen_ok, Sem.run_pure]
  exact hK
theorem o_not {P : Program} {a : Act} {w : World} {K : Act → World → Prop} {Q : Exit → Act → World → Prop} {o : Oper} (T : TypeId) (x : Operand) (ho : o.op = .unOp .not T x) {b : Bool} (hx : a.eval x = .bool b) (hK : K (a.put o.dst (.bool (!b))) w) : o.wp P a w K Q := by
  unfold Oper.wp execOp
  simp only [ho, hx, Op.unary, Sem.run_bind, Sem.run_pure, Result.andThen_ok]
  exact hK
end Go.Proofs.YtkgfdbbdmchmeaaDoor
namespace Go.Proofs.YtkgfdbbdmchmeaaDoor
open Go.RowKit
set_option linter.unusedVariables false
set_option linter.unusedSimpArgs false
def TmF (wr : World) (x : Tm) (u : Value) (c : World) : Prop := ∃ A cv, u = .agg (x.cs A cv).toArray ∧ ((A = none → cv = 0) ∧ x.d.length ≤ cv) ∧ SeesP c (newB wr c) A (Us x.d)
def TmS (wr : World) (x : Tm) (u : Value) (c : World) : Prop := ∃ A cv g, u = .slice (some ⟨g, 0, none⟩) 1 1 ∧ newB wr c g ∧ RowV c g (x.cs A cv) ∧ ((A = none → cv = 0) ∧ x.d.length ≤ cv) ∧ SeesP c (newB wr c) A (Us x.d)
theorem sees_row_Bj {wr c c' : World} {A : Option Addr} {cs : List Value} {v : Value} (h3 : SeesP c (newB wr c) A cs) (hg : c.grownBy c' v.ownBlock) (hv : ∀ g, v.ownBlock = some g → g < wr.heap.size) : SeesP c' (newB wr c') A cs :=
  (h3.keep fun q hq => World.cell?_of_block (hg.block _ hq.2 fun e => by have := hv _ e.symm; have := hq.1; omega)).imp fun b hb => ⟨hb.1, Nat.lt_of_lt_of_le hb.2 hg.size⟩
theorem BytF.row {wr : World} {x : List UInt8} {n : Nat} {u : Value} {c c' : World} {v : Value} (h : BytF wr x n u c) (hg : c.grownBy c' v.ownBlock) (hv : ∀ g, v.ownBlock = some g → g < wr.heap.size) : BytF wr x n u c' := by
  obtain ⟨A, cv, h1, h2, h3⟩ := h
  exact ⟨A, cv, h1, h2, sees_row_Bj h3 hg hv⟩
theorem TmF.row {wr : World} {x : Tm} {u : Value} {c c' : World} {v : Value} (h : TmF wr x u c) (hg : c.grownBy c' v.ownBlock) (hv : ∀ g, v.ownBlock = some g → g < wr.heap.size) : TmF wr x u c' := by
  obtain ⟨A, cv, h1, h2, h3⟩ := h
  exact ⟨A, cv, h1, h2, sees_row_Bj h3 hg hv⟩
theorem TmS.row {wr : World} {x : Tm} {u : Value} {c c' : World} {v : Value} (h : TmS wr x u c) (hg : c.grownBy c' v.ownBlock) (hv : ∀ g, v.ownBlock = some g → g < wr.heap.size) : TmS wr x u c' := by
  obtain ⟨A, cv, g, h1, h0, h4, h2, h3⟩ := h
  refine ⟨A, cv, g, h1, ⟨h0.1, Nat.lt_of_lt_of_le h0.2 hg.size⟩, h4.same (hg.block _ h0.2 fun e => ?_), h2, sees_row_Bj h3 hg hv⟩
  have := hv _ e.symm
  have := h0.1
  omega
theorem DecIs.bad {f : F} {w w' : World} (h : lstT f = none) (hb : Below w.heap.size w w') : DecIs f w (.returned (.tuple #[.slice none 0 0, .int .i64 1])) w' := by
  have h1 : decV f = [] ∧ decE f = 1 := by unfold decV decE; rw [h]; exact ⟨rfl, rfl⟩
  unfold DecIs
  rw [h1.1, h1.2]
  exact ⟨none, 0, rfl, SeesT.nil_, hb⟩
def F.k0 : F → Nat
  | .nil => 0
  | .cons _ _ k _ => k.len
end Go.Proofs.YtkgfdbbdmchmeaaDoor
namespace Go.Proofs.YtkgfdbbdmchmeaaDoor
theorem pm_mul_l (p a b : Nat) : a % p * b % p = a * b % p := by rw [Nat.mod_mul_mod]
theorem pm_mul_r (p a b : Nat) : a * (b % p) % p = a * b % p := by rw [Nat.mul_mod_mod]
theorem pm_pow (p x k : Nat) : (x % p) ^ k % p = x ^ k % p := (Nat.pow_mod x k p).symm
theorem pm_half (p x k : Nat) : (x * x % p) ^ (k / 2) * (if k % 2 = 1 then x else 1) % p = x ^ k % p := by
  have hk : k = 2 * (k / 2) + k % 2 := by omega
  have h2 : (x * x % p) ^ (k / 2) % p = x ^ (2 * (k / 2)) % p := by
    rw [pm_pow, Nat.pow_mul, Nat.pow_two]
  rcases Nat.mod_two_eq_zero_or_one k with h | h
  · rw [if_neg (by omega), Nat.mul_one, h2]
    congr 2; omega
  · rw [if_pos h, Nat.mul_mod, h2, ← Nat.mul_mod, ← Nat.pow_succ]
    congr 2; omega
theorem pm_step (p r x k : Nat) : (if k % 2 = 1 then r * x % p else r) * (x * x % p) ^ (k / 2) % p = r * x ^ k % p := by
  rw [← pm_mul_r p r (x ^ k), ← pm_half p x k, pm_mul_r]
  split
  · rw [pm_mul_l, Nat.mul_assoc, Nat.mul_comm x]
  · rw [Nat.mul_one]
def gP : Nat := 2147483579
def gQ : Nat := 1073741789
end Go.Proofs.YtkgfdbbdmchmeaaDoor
namespace Go.Proofs.YtkgfdbbdmchmeaaDoor
open Go.RowKit
set_option maxRecDepth 8000
def pwN (x k : Nat) : Nat := x ^ k % gP
def pwZ (x k : Int) : Int := ((pwN x.toNat k.toNat : Nat) : Int)
def muN (a b : Nat) : Nat := a * b % gP
def resB (x : Int) : Bool := decide (1 ≤ x) && decide (x < 2147483579)
theorem resB_yes {x : Int} (h : resB x = true) : 1 ≤ x ∧ x < 2147483579 := by simpa [resB] using h
theorem resB_mk {x : Int} (a : 1 ≤ x) (b : x < 2147483579) : resB x = true := by simp [resB, a, b]
theorem muN_lt (a b : Nat) : muN a b < 2147483579 := Nat.mod_lt _ (by decide)
theorem mul_bd {a b : Nat} (ha : a < 2147483579) (hb : b < 2147483579) : a * b < 4611686018427387904 :=
  Nat.lt_of_le_of_lt (Nat.mul_le_mul (Nat.le_of_lt_succ (Nat.lt_succ_of_lt ha)) (Nat.le_of_lt_succ (Nat.lt_succ_of_lt hb))) (by decide)
theorem mu_val (a b : Nat) (ha : a < 2147483579) (hb : b < 2147483579) : (wrap64 ((a : Int) * (b : Int))).tmod 2147483579 = ((muN a b : Nat) : Int) := by
  have h := mul_bd ha hb
  have e : wrap64 ((a : Int) * (b : Int)) = ((a * b : Nat) : Int) := by
    rw [← Int.natCast_mul]
    generalize a * b = c at h
    unfold wrap64; omega
  rw [e, Int.tmod_eq_emod_of_nonneg (by omega)]
  unfold muN gP; omega
theorem grp_residue (x : Int) (w : World) : Calls Tryd.prog 63 #[.int .i64 x] w fun e w' => e = .returned (.bool (resB x)) ∧ w = w' := by
  by_cases h : 1 ≤ x
  · have d : decide (1 ≤ x) = true := by simpa using h
    have hv : resB x = decide (x < 2147483579) := by unfold resB; rw [d, Bool.true_and]
    rw [hv]; clear h hv
    go_enter Tryd.func63, Tryd.ntmps63
    go_wp2
    go_ret
    exact ⟨rfl, rfl⟩
  · have d : decide (1 ≤ x) = false := by simpa using h
    have hv : resB x = false := by unfold resB; rw [d, Bool.false_and]
    rw [hv]; clear h hv
    go_enter Tryd.func63, Tryd.ntmps63
    go_wp2
    go_ret
    exact ⟨rfl, rfl⟩
theorem ret_i64 {a b : Int} (h : a = b) : Ending.returned (.int .i64 a) = .returned (.int .i64 b) := by rw [h]
theorem grp_product_n (a b : Nat) (w : World) (ha : a < 2147483579) (hb : b < 2147483579) :
    Calls Tryd.prog 71 #[.int .i64 (a : Int), .int .i64 (b : Int)] w fun e w' => e = .returned (.int .i64 ((muN a b : Nat) : Int)) ∧ w = w' := by
  have H := Lib.hid (mu_val a b ha hb)
  go_enter Tryd.func71, Tryd.ntmps71
  go_wp2
  go_ret
  exact ⟨ret_i64 H.out, rfl⟩
theorem and1 (q : Nat) (h : q < 9223372036854775808) : bits .and .i64 (q : Int) 1 = ((q % 2 : Nat) : Int) := by
  have h1 : (BitVec.ofInt 64 (q : Int)).toNat = q := by rw [BitVec.toNat_ofInt]; omega
  have h2 : (BitVec.ofInt 64 (1 : Int)).toNat = 1 := by decide
  show IntKind.i64.wrap ((BitVec.ofInt 64 (q : Int) &&& BitVec.ofInt 64 (1 : Int)).toNat : Int) = _
  rw [BitVec.toNat_and, h1, h2, Nat.and_one_is_mod]
  exact IntWalk.i64_in _ (by omega)
theorem bit_at (k j : Nat) (hk : k < 4611686018427387904) : bits .and .i64 ((k : Int) / 2 ^ j) 1 = ((k / 2 ^ j % 2 : Nat) : Int) := by
  have e : (k : Int) / 2 ^ j = ((k / 2 ^ j : Nat) : Int) := by simp
  have h := Nat.div_le_self k (2 ^ j)
  rw [e, and1 _ (by omega)]
theorem bit_one {k j : Nat} (hk : k < 4611686018427387904) (h : k / 2 ^ j % 2 = 1) : (bits .and .i64 ((k : Int) / 2 ^ j) 1 == 1) = true := by
  rw [bit_at k j hk, h]; rfl
theorem bit_no {k j : Nat} (hk : k < 4611686018427387904) (h : ¬ k / 2 ^ j % 2 = 1) : (bits .and .i64 ((k : Int) / 2 ^ j) 1 == 1) = false := by
  rw [bit_at k j hk, show k / 2 ^ j % 2 = 0 by omega]; rfl
set_option maxHeartbeats 1000000 in
theorem bits_lenG (x : Int) (w : World) (h0 : 0 ≤ x) (h1 : x ≤ 18446744073709551615) :
    Calls Tryd.prog 70 #[.int .u64 x] w fun e w' => e = .returned (.int .i64 (Lib.bitLen x.toNat)) ∧ w = w' := by
  go_enter Tryd.func70, Tryd.ntmps70
  go_wp2_with (go_at_call 75; (with_reducible refine (bits_len64 x _ h0 h1).mono ?_); rintro e w' ⟨rfl, rfl⟩)
  go_ret
  exact ⟨rfl, rfl⟩
def PwR (x0 k0 i r y : Nat) : Prop := r < 2147483579 ∧ y < 2147483579 ∧ r * y ^ (k0 / 2 ^ i) % gP = x0 ^ k0 % gP
theorem PwR.start {x k : Nat} (h : x < 2147483579) : PwR x k 0 1 x := ⟨by decide, h, by simp⟩
theorem PwR.step {x0 k0 i r y : Nat} (h : PwR x0 k0 i r y) (s : Nat) (hs : s = if k0 / 2 ^ i % 2 = 1 then muN r y else r) : PwR x0 k0 (i + 1) s (muN y y) := by
  obtain ⟨h1, h2, h3⟩ := h
  refine ⟨?_, muN_lt _ _, ?_⟩
  · rw [hs]; split
    · exact muN_lt _ _
    · exact h1
  · rw [hs, Nat.pow_succ, ← Nat.div_div_eq_div_mul, ← h3]
    exact pm_step gP r y (k0 / 2 ^ i)
theorem PwR.done {x0 k0 i r y : Nat} (h : PwR x0 k0 i r y) (hi : k0 < 2 ^ i) : r = pwN x0 k0 := by
  obtain ⟨h1, _, h3⟩ := h
  rw [Nat.div_eq_of_lt hi, Nat.pow_zero, Nat.mul_one, Nat.mod_eq_of_lt (b := gP) h1] at h3
  exact h3
theorem len_lt : ∀ f x : Nat, x < 2 ^ f → x < 2 ^ Lib.bitLenAux f x
  | 0, x, h => by simpa [Lib.bitLenAux] using h
  | f + 1, x, h => by
    unfold Lib.bitLenAux
    split
    · rename_i h0; subst h0; decide
    · have := len_lt f (x / 2) (by rw [Nat.pow_succ] at h; omega)
      rw [Nat.add_comm 1, Nat.pow_succ]; omega
theorem len_le : ∀ f x : Nat, Lib.bitLenAux f x ≤ f
  | 0, x => Nat.le_refl _
  | f + 1, x => by
    unfold Lib.bitLenAux
    split
    · omega
    · have := len_le f (x / 2); omega
set_option maxHeartbeats 1000000 in
theorem grp_power_n (x k : Nat) (w : World) (hx : x < 2147483579) (hk : k < 4611686018427387904) :
    Calls Tryd.prog 64 #[.int .i64 (x : Int), .int .i64 (k : Int)] w fun e w' => e = .returned (.int .i64 ((pwN x k : Nat) : Int)) ∧ w = w' := by
  have HL : ∃ L : Nat, Hid (Lib.bitLen k = L) := ⟨_, Lib.hid rfl⟩
  obtain ⟨L, HL⟩ := HL
  have hL : L ≤ 64 := by have := len_le 64 k; rw [← HL.out]; exact this
  have hb := bits_lenG (k : Int) w (by omega) (by omega)
  rw [Int.toNat_natCast, HL.out] at hb
  have HB := Lib.hid hb
  clear hb
  go_enter Tryd.func64, Tryd.ntmps64
  go_wp2_with (go_at_call 70; (with_reducible refine HB.out.mono ?_); rintro e w' ⟨rfl, rfl⟩)
  go_loop [0, 5, 6, 10] (fun x5 r _ i => ∃ j r0 y0 : Nat, j ≤ L ∧ i = .int .i64 (j : Int) ∧ r = .int .i64 (r0 : Int) ∧ x5 = .int .i64 (y0 : Int) ∧ Hid (PwR x k j r0 y0)) (fun _ _ _ i => L - (intOf i).toNat)
  case atStart => exact ⟨0, 1, x, Nat.zero_le _, rfl, rfl, rfl, Lib.hid (PwR.start hx)⟩
  case round =>
    obtain ⟨j, r0, y0, hj, rfl, rfl, rfl, HR⟩ := hrel
    by_cases hlt : j < L
    · have hr := HR.out.1
      have hy := HR.out.2.1
      by_cases hbit : k / 2 ^ j % 2 = 1
      · have HS := Lib.hid (HR.out.step (muN r0 y0) (by rw [if_pos hbit]))
        have hd := bit_one hk hbit
        clear hbit HR
        go_wp2_with fail
        with_reducible refine (grp_product_n r0 y0 _ hr hy).mono ?_
        rintro e w' ⟨rfl, rfl⟩
        go_wp2_with fail
        with_reducible refine (grp_product_n y0 y0 _ hy hy).mono ?_
        rintro e w' ⟨rfl, rfl⟩
        go_wp2
        go_round
        case rel => exact ⟨j + 1, _, _, by omega, by go_num, rfl, rfl, HS⟩
        case measure => simp [intOf]; omega
      · have HS := Lib.hid (HR.out.step r0 (by rw [if_neg hbit]))
        have hd := bit_no hk hbit
        clear hbit HR
        go_wp2_with fail
        with_reducible refine (grp_product_n y0 y0 _ hy hy).mono ?_
        rintro e w' ⟨rfl, rfl⟩
        go_wp2
        go_round
        case rel => exact ⟨j + 1, _, _, by omega, by go_num, rfl, rfl, HS⟩
        case measure => simp [intOf]; omega
    · go_wp2
      go_ret
      obtain rfl : j = L := by omega
      have hl := len_lt 64 k (by omega)
      have e : Lib.bitLenAux 64 k = j := HL.out
      rw [e] at hl
      exact ⟨ret_i64 (by rw [HR.out.done hl]), rfl⟩
theorem grp_power (x k : Int) (w : World) (h0 : 0 ≤ x) (hx : x < 2147483579) (hk0 : 0 ≤ k) (hk : k < 4611686018427387904) :
    Calls Tryd.prog 64 #[.int .i64 x, .int .i64 k] w fun e w' => e = .returned (.int .i64 (pwZ x k)) ∧ w = w' := by
  have h := grp_power_n x.toNat k.toNat w (by omega) (by omega)
  rw [Int.toNat_of_nonneg h0, Int.toNat_of_nonneg hk0] at h
  exact h
end Go.Proofs.YtkgfdbbdmchmeaaDoor
namespace Go.Proofs.YtkgfdbbdmchmeaaDoor
open Go.RowKit
set_option maxRecDepth 8000
theorem ref_residue (x : Int) (w : World) : Calls Tryd.prog 65 #[.int .i64 x] w fun e w' => e = .returned (.bool (resB x)) ∧ w = w' := by
  by_cases h : 1 ≤ x
  · have d : decide (1 ≤ x) = true := by simpa using h
    have hv : resB x = decide (x < 2147483579) := by unfold resB; rw [d, Bool.true_and]
    rw [hv]; clear h hv
    go_enter Tryd.func65, Tryd.ntmps65
    go_wp2
    go_ret
    exact ⟨rfl, rfl⟩
  · have d : decide (1 ≤ x) = false := by simpa using h
    have hv : resB x = false := by unfold resB; rw [d, Bool.false_and]
    rw [hv]; clear h hv
    go_enter Tryd.func65, Tryd.ntmps65
    go_wp2
    go_ret
    exact ⟨rfl, rfl⟩
def QwR (x0 k0 q r y : Nat) : Prop := r < 2147483579 ∧ y < 2147483579 ∧ r * y ^ q % gP = x0 ^ k0 % gP
theorem QwR.start {x k : Nat} (h : x < 2147483579) : QwR x k k 1 x := ⟨by decide, h, by simp⟩
theorem QwR.step {x0 k0 q r y : Nat} (h : QwR x0 k0 q r y) (s : Nat) (hs : s = if q % 2 = 1 then muN r y else r) : QwR x0 k0 (q / 2) s (muN y y) := by
  obtain ⟨h1, h2, h3⟩ := h
  refine ⟨?_, muN_lt _ _, ?_⟩
  · rw [hs]; split
    · exact muN_lt _ _
    · exact h1
  · rw [hs, ← h3]
    exact pm_step gP r y q
theorem QwR.done {x0 k0 r y : Nat} (h : QwR x0 k0 0 r y) : r = pwN x0 k0 := by
  obtain ⟨h1, _, h3⟩ := h
  rw [Nat.pow_zero, Nat.mul_one, Nat.mod_eq_of_lt (b := gP) h1] at h3
  exact h3
theorem int_mu {a b : Nat} (ha : a < 2147483579) (hb : b < 2147483579) : Value.int .i64 ((wrap64 ((a : Int) * (b : Int))).tmod 2147483579) = .int .i64 ((muN a b : Nat) : Int) := by rw [mu_val a b ha hb]
set_option maxHeartbeats 1000000 in
theorem ref_pow_n (x k : Nat) (w : World) (hx : x < 2147483579) (hk : k < 4611686018427387904) :
    Calls Tryd.prog 36 #[.int .i64 (x : Int), .int .i64 (k : Int)] w fun e w' => e = .returned (.int .i64 ((pwN x k : Nat) : Int)) ∧ w = w' := by
  go_enter Tryd.func36, Tryd.ntmps36
  go_wp2
  go_loop [0, 1, 5] (fun s t r => ∃ q r0 y0 : Nat, q ≤ k ∧ t = .int .i64 (q : Int) ∧ r = .int .i64 (r0 : Int) ∧ s = .int .i64 (y0 : Int) ∧ Hid (QwR x k q r0 y0)) (fun _ t _ => (intOf t).toNat)
  case atStart => exact ⟨k, 1, x, Nat.le_refl _, rfl, rfl, rfl, Lib.hid (QwR.start hx)⟩
  case round =>
    obtain ⟨q, r0, y0, hq, rfl, rfl, rfl, HR⟩ := hrel
    have hr := HR.out.1
    have hy := HR.out.2.1
    by_cases hlt : 0 < q
    · by_cases hbit : q % 2 = 1
      · have HS := Lib.hid (HR.out.step (muN r0 y0) (by rw [if_pos hbit]))
        have hd : ((q : Int) % 2 == 1) = true := by simp; omega
        clear hbit HR
        go_wp2
        go_round
        case rel => exact ⟨q / 2, _, _, by omega, by go_num, int_mu hr hy, int_mu hy hy, HS⟩
        case measure => simp [intOf]; omega
      · have HS := Lib.hid (HR.out.step r0 (by rw [if_neg hbit]))
        have hd : ((q : Int) % 2 == 1) = false := by simp; omega
        clear hbit HR
        go_wp2
        go_round
        case rel => exact ⟨q / 2, _, _, by omega, by go_num, rfl, int_mu hy hy, HS⟩
        case measure => simp [intOf]; omega
    · go_wp2
      go_ret
      obtain rfl : q = 0 := by omega
      exact ⟨ret_i64 (by rw [HR.out.done]), rfl⟩
theorem ref_pow (x k : Int) (w : World) (h0 : 0 ≤ x) (hx : x < 2147483579) (hk0 : 0 ≤ k) (hk : k < 4611686018427387904) :
    Calls Tryd.prog 36 #[.int .i64 x, .int .i64 k] w fun e w' => e = .returned (.int .i64 (pwZ x k)) ∧ w = w' := by
  have h := ref_pow_n x.toNat k.toNat w (by omega) (by omega)
  rw [Int.toNat_of_nonneg h0, Int.toNat_of_nonneg hk0] at h
  exact h
def nearZ (n : Int) : Int := 1 + n % 1073741788
theorem near_bd (n : Int) : 1 ≤ nearZ n ∧ nearZ n ≤ 1073741788 := by unfold nearZ; omega
theorem near_tmod (n : Int) : (n.tmod 1073741788 < 0 → n.tmod 1073741788 + 1073741788 = nearZ n - 1) ∧ (¬ n.tmod 1073741788 < 0 → n.tmod 1073741788 = nearZ n - 1) := by
  have h := Int.tmod_eq_emod (a := n) (b := 1073741788)
  unfold nearZ
  split at h <;> omega
theorem near_i64 (n : Int) : -1073741788 < n.tmod 1073741788 ∧ n.tmod 1073741788 < 1073741788 := by
  have h := near_tmod n
  have g := near_bd n
  have k := Int.tmod_eq_emod (a := n) (b := 1073741788)
  split at k <;> omega
theorem ref_near (n : Int) (w : World) : Calls Tryd.prog 37 #[.int .i64 n] w fun e w' => e = .returned (.int .i64 (nearZ n)) ∧ w = w' := by
  have H1 := Lib.hid (near_tmod n)
  have h2 := near_i64 n
  obtain ⟨h2a, h2b⟩ := h2
  by_cases hc : n.tmod 1073741788 < 0
  · have H3 := Lib.hid (H1.out.1 hc)
    go_enter Tryd.func37, Tryd.ntmps37
    go_wp2
    go_ret
    exact ⟨ret_i64 (by have := H3.out; omega), rfl⟩
  · have H3 := Lib.hid (H1.out.2 hc)
    go_enter Tryd.func37, Tryd.ntmps37
    go_wp2
    go_ret
    exact ⟨ret_i64 (by have := H3.out; omega), rfl⟩
def pointZ (n : Int) : Int := pwZ 4 (nearZ n)
theorem ref_point (n : Int) (w : World) : Calls Tryd.prog 21 #[.int .i64 n] w fun e w' => e = .returned (.int .i64 (pointZ n)) ∧ w = w' := by
  have hb := near_bd n
  obtain ⟨hb1, hb2⟩ := hb
  go_enter Tryd.func21, Tryd.ntmps21
  go_wp2_with fail
  with_reducible refine (ref_near n _).mono ?_
  rintro e w' ⟨rfl, rfl⟩
  go_wp2_with fail
  with_reducible refine (ref_pow 4 (nearZ n) _ (by decide) (by decide) (by omega) (by omega)).mono ?_
  rintro e w' ⟨rfl, rfl⟩
  go_wp2
  go_ret
  exact ⟨rfl, rfl⟩
end Go.Proofs.YtkgfdbbdmchmeaaDoor
