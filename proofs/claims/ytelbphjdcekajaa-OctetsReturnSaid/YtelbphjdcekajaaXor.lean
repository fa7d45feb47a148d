/-
  What is proved here: what the reference's and the program's Xor return, where each argument lies in memory and is at most 2^48 bytes long.
-/
import Derived.Test.YtelbphjdcekajaaRows
import Derived.Test.YtelbphjdcekajaaKit
namespace Go.Proofs.Ytelbphjdcekajaa
open Go.RowKit

theorem info_u8 : (Try.prog.info? 5).map (fun i => (i.zero, i.size, i.bytes)) = some (some (.int .u8 0), 1, 1) := by kernel_rfl

def xorAt (x y : List UInt8) (i : Nat) : UInt8 := x.getD i 0 ^^^ y.getD i 0
def xorL (x y : List UInt8) : List UInt8 := (List.range x.length).map (xorAt x y)
theorem xorL_length (x y : List UInt8) : (xorL x y).length = x.length := by simp [xorL]
def xorTo (x y : List UInt8) (n k : Nat) : List UInt8 := fillP (xorAt x y) n (fun i => decide (i < k))
theorem xorTo_zero (x y : List UInt8) (n : Nat) : xorTo x y n 0 = List.replicate n 0 := by
  rw [← fillP_none (xorAt x y)]; unfold xorTo; congr 1
theorem xorTo_all (x y : List UInt8) : xorTo x y x.length x.length = xorL x y := fillP_all fun i hi => by simpa using hi
theorem xorTo_set {x y : List UInt8} {n k : Nat} : (xorTo x y n k).set k (xorAt x y k) = xorTo x y n (k + 1) := by
  refine fillP_set (by simp) fun i hi => ?_
  have : (i < k + 1) = (i < k) := by apply propext; omega
  simp [this]
theorem xor_val {x y : List UInt8} {k : Nat} (hx : k < x.length) (hy : k < y.length) :
    Value.int .u8 (((x[k].toNat ^^^ y[k].toNat : Nat) : Int)) = U (xorAt x y k) := by
  simp [U, xorAt, hx, hy, UInt8.toNat_xor]

/-- what the loop keeps -/
def XorRel (B g : Nat) (x y : List UInt8) (n k : Nat) (w wr : World) : Prop :=
  wr.ownsRow B 5 1 (.slice (some ⟨g, 0, none⟩) n n) n (Us (xorTo x y n k)) ∧ Below B w wr ∧ B ≤ g

theorem XorRel.cell {B g : Nat} {x y : List UInt8} {n k : Nat} {w wr : World} (h : XorRel B g x y n k w wr) (hk : k < n) : ∃ u, wr.cell? ⟨g, k, none⟩ = some u := by
  have h1 := h.1.cellAt k (by omega)
  have hl : k < (Us (xorTo x y n k)).length := by rw [Us_length, xorTo, fillP_length]; exact hk
  rw [List.getElem?_eq_getElem hl] at h1
  exact ⟨_, h1⟩

theorem XorRel.step {B g : Nat} {x y : List UInt8} {n k : Nat} {w wr : World} (h : XorRel B g x y n k w wr) (hx : k < x.length) (hy : k < y.length) :
    XorRel B g x y n (k + 1) w (wr.setCell ⟨g, k, none⟩ (.int .u8 (bits .xor .u8 (x[k].toNat : Int) (y[k].toNat : Int)))).drew := by
  have hv : Value.int .u8 (bits .xor .u8 (x[k].toNat : Int) (y[k].toNat : Int)) = U (xorAt x y k) := by
    rw [u8_xor_nat _ _ (UInt8.toNat_lt _) (UInt8.toNat_lt _)]
    exact xor_val hx hy
  rw [hv]
  refine ⟨?_, (h.2.1.setCell (p := ⟨g, k, none⟩) h.2.2 _).drew, h.2.2⟩
  have h1 := (h.1.stored k (U (xorAt x y k))).1
  rw [Us_set, xorTo_set] at h1
  exact h1.drew
theorem XorRel.done {B g : Nat} {x y : List UInt8} {n k : Nat} {w wr : World} (h : XorRel B g x y n k w wr) (hB : B = w.heap.size) (hk : n ≤ k) (hn : n = x.length) :
    Gives w (xorL x y) 0 (.returned (.tuple #[.slice (some ⟨g, 0, none⟩) n n, .int .i64 0])) wr := by
  subst hB
  refine ⟨_, n, by rw [xorL_length, hn], ?_, h.2.1⟩
  have h1 := h.1
  have e : xorTo x y n k = xorL x y := by
    rw [hn]; exact fillP_all fun i hi => by simp; omega
  rw [e] at h1
  exact Sees.of_own h1

set_option maxHeartbeats 400000 in
theorem ref_xor (A1 A2 : Option Addr) (c1 c2 n : Nat) (x y : List UInt8) (w : World) (h1 : Sees w w.heap.size A1 (Us x)) (h2 : Sees w w.heap.size A2 (Us y)) (l1 : n = x.length) (l2 : n = y.length) (m1 : n ≤ 281474976710656) :
    Calls Try.prog 19 #[.slice A1 n c1, .slice A2 n c2] w (Gives w (xorL x y) 0) := by
  obtain ⟨i0, hi, hz0, hz1, hz2⟩ := info_parts info_u8
  have L1 := Lib.hid l1
  have L2 := Lib.hid l2
  clear l1 l2
  have mm : n ≤ maxLen := by unfold maxLen; omega
  go_enter Try.func19, Try.ntmps19
  go_wp2_with (at_make; refine wpList_make_full _ rfl _ _ 22 rfl w.heap.size 5 i0 (.int .u8 0) 1 Try.underlying22 hi hz0 hz1 _ _ _ _ n rfl rfl (by simp) (by simp) (by rw [hz2]; omega) mm (Nat.le_refl _) ?_; intro w1 hown hgrow)
  have hR : XorRel w.heap.size w.heap.size x y n 0 w w1 := by
    refine ⟨?_, (Below.refl _ _).grown hgrow (Nat.le_refl _) (by simp), Nat.le_refl _⟩
    rw [xorTo_zero, Us_zeros]
    simpa [Value.cells, toList_madeCells_one] using hown
  clear hown hgrow
  go_wp2
  go_loopw [7] (fun i wr => ∃ k : Nat, k ≤ n ∧ i = .int .i64 k ∧ XorRel w.heap.size w.heap.size x y n k w wr) (fun i _ => n - (intOf i).toNat)
  case atStart => exact ⟨0, Nat.zero_le _, rfl, hR⟩
  case round =>
    clear hR
    obtain ⟨k, hk, rfl, hR⟩ := hrel
    by_cases hlt : k < n
    · have hkx : k < x.length := by have := L1.out; omega
      have hky : k < y.length := by have := L2.out; omega
      obtain ⟨b1, o1, rfl, g1⟩ := byte_at h1 hR.2.1 hkx
      obtain ⟨b2, o2, rfl, g2⟩ := byte_at h2 hR.2.1 hky
      obtain ⟨old, g3⟩ := hR.cell hlt
      have g4 := hR.1.frozenAt k
      go_wp2
      go_region
      all_goals go_wp2
      go_roundw
      case rel => exact ⟨k + 1, by omega, by go_num, hR.step hkx hky⟩
      case measure => simp [intOf]; omega
    · have hd : Gives w (xorL x y) 0 (.returned (.tuple #[.slice (some ⟨w.heap.size, 0, none⟩) n n, .int .i64 0])) wr := hR.done rfl (by omega) L1.out
      have HD := Lib.hid hd
      clear hd hR
      go_wp2
      go_ret2
      exact HD.out
set_option maxHeartbeats 400000 in
theorem oct_xor (A1 A2 : Option Addr) (c1 c2 n : Nat) (x y : List UInt8) (w : World) (h1 : Sees w w.heap.size A1 (Us x)) (h2 : Sees w w.heap.size A2 (Us y)) (l1 : n = x.length) (l2 : n = y.length) (m1 : n ≤ 281474976710656) :
    Calls Try.prog 18 #[.slice A1 n c1, .slice A2 n c2] w (Gives w (xorL x y) 0) := by
  obtain ⟨i0, hi, hz0, hz1, hz2⟩ := info_parts info_u8
  have L1 := Lib.hid l1
  have L2 := Lib.hid l2
  clear l1 l2
  have mm : n ≤ maxLen := by unfold maxLen; omega
  go_enter Try.func18, Try.ntmps18
  go_wp2_with (at_make; refine wpList_make_full _ rfl _ _ 22 rfl w.heap.size 5 i0 (.int .u8 0) 1 Try.underlying22 hi hz0 hz1 _ _ _ _ n rfl rfl (by simp) (by simp) (by rw [hz2]; omega) mm (Nat.le_refl _) ?_; intro w1 hown hgrow)
  have hR : XorRel w.heap.size w.heap.size x y n 0 w w1 := by
    refine ⟨?_, (Below.refl _ _).grown hgrow (Nat.le_refl _) (by simp), Nat.le_refl _⟩
    rw [xorTo_zero, Us_zeros]
    simpa [Value.cells, toList_madeCells_one] using hown
  clear hown hgrow
  go_wp2
  go_loopw [18] (fun i wr => ∃ k : Nat, k ≤ n ∧ i = .int .i64 k ∧ XorRel w.heap.size w.heap.size x y n k w wr) (fun i _ => n - (intOf i).toNat)
  case atStart => exact ⟨0, Nat.zero_le _, rfl, hR⟩
  case round =>
    clear hR
    obtain ⟨k, hk, rfl, hR⟩ := hrel
    by_cases hlt : k < n
    · have hkx : k < x.length := by have := L1.out; omega
      have hky : k < y.length := by have := L2.out; omega
      obtain ⟨b1, o1, rfl, g1⟩ := byte_at h1 hR.2.1 hkx
      obtain ⟨b2, o2, rfl, g2⟩ := byte_at h2 hR.2.1 hky
      obtain ⟨old, g3⟩ := hR.cell hlt
      have g4 := hR.1.frozenAt k
      go_wp2
      go_region
      all_goals go_wp2
      go_roundw
      case rel => exact ⟨k + 1, by omega, by go_num, hR.step hkx hky⟩
      case measure => simp [intOf]; omega
    · have hd : Gives w (xorL x y) 0 (.returned (.tuple #[.slice (some ⟨w.heap.size, 0, none⟩) n n, .int .i64 0])) wr := hR.done rfl (by omega) L1.out
      have HD := Lib.hid hd
      clear hd hR
      go_wp2
      go_ret2
      exact HD.out

theorem ref_xor_no (A1 A2 : Option Addr) (c1 c2 n1 n2 : Nat) (w : World) (h : n1 ≠ n2) :
    Calls Try.prog 19 #[.slice A1 n1 c1, .slice A2 n2 c2] w fun e w' => e = .returned (.tuple #[.slice none 0 0, .int .i64 2]) ∧ w' = w := by
  have hne : ((n1 : Int) != (n2 : Int)) = true := by rw [bne_iff_ne]; omega
  clear h
  go_enter Try.func19, Try.ntmps19
  go_wp2
  go_ret2
  exact ⟨rfl, rfl⟩

theorem oct_xor_no (A1 A2 : Option Addr) (c1 c2 n1 n2 : Nat) (w : World) (h : n1 ≠ n2) :
    Calls Try.prog 18 #[.slice A1 n1 c1, .slice A2 n2 c2] w fun e w' => e = .returned (.tuple #[.slice none 0 0, .int .i64 2]) ∧ w' = w := by
  have hne : ((n1 : Int) != (n2 : Int)) = true := by rw [bne_iff_ne]; omega
  clear h
  go_enter Try.func18, Try.ntmps18
  go_wp2
  go_ret2
  exact ⟨rfl, rfl⟩

/-- what Xor answers: the bytes and the code -/
def xorB (x y : List UInt8) : List UInt8 := if x.length = y.length then xorL x y else []
def xorE (x y : List UInt8) : Int := if x.length = y.length then 0 else 2
theorem xorB_le (x y : List UInt8) : (xorB x y).length ≤ x.length := by
  unfold xorB; split
  · rw [xorL_length]; omega
  · simp
theorem oct_xor_any (A1 A2 : Option Addr) (c1 c2 : Nat) (x y : List UInt8) (w : World) (h1 : Sees w w.heap.size A1 (Us x)) (h2 : Sees w w.heap.size A2 (Us y)) (m1 : x.length ≤ 281474976710656) :
    Calls Try.prog 18 #[.slice A1 x.length c1, .slice A2 y.length c2] w (Gives w (xorB x y) (xorE x y)) := by
  unfold xorB xorE
  by_cases h : x.length = y.length
  · rw [if_pos h, if_pos h]
    have := oct_xor A1 A2 c1 c2 x.length x y w h1 h2 rfl h m1
    rw [h] at this ⊢
    exact this
  · rw [if_neg h, if_neg h]
    exact (oct_xor_no A1 A2 c1 c2 _ _ w h).mono fun e w' ⟨he, hw⟩ => by subst hw; exact ⟨none, 0, he, .inl rfl, Below.refl _ _⟩
theorem ref_xor_any (A1 A2 : Option Addr) (c1 c2 : Nat) (x y : List UInt8) (w : World) (h1 : Sees w w.heap.size A1 (Us x)) (h2 : Sees w w.heap.size A2 (Us y)) (m1 : x.length ≤ 281474976710656) :
    Calls Try.prog 19 #[.slice A1 x.length c1, .slice A2 y.length c2] w (Gives w (xorB x y) (xorE x y)) := by
  unfold xorB xorE
  by_cases h : x.length = y.length
  · rw [if_pos h, if_pos h]
    have := ref_xor A1 A2 c1 c2 x.length x y w h1 h2 rfl h m1
    rw [h] at this ⊢
    exact this
  · rw [if_neg h, if_neg h]
    exact (ref_xor_no A1 A2 c1 c2 _ _ w h).mono fun e w' ⟨he, hw⟩ => by subst hw; exact ⟨none, 0, he, .inl rfl, Below.refl _ _⟩

end Go.Proofs.Ytelbphjdcekajaa
