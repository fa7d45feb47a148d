/-
  What is proved here: what the reference's and the program's Octets return, for every two numbers.
-/
import Derived.Test.YtelbphjdcekajaaRows
import Derived.Test.YtelbphjdcekajaaKit
namespace Go.Proofs.Ytelbphjdcekajaa
open Go.RowKit

theorem info_u8 : (Try.prog.info? 5).map (fun i => (i.zero, i.size, i.bytes)) = some (some (.int .u8 0), 1, 1) := by kernel_rfl

/-- the byte at i of n written as s bytes -/
def octAt (n s i : Nat) : UInt8 := UInt8.ofNat (n / 256 ^ (s - 1 - i))
def octL (n s : Nat) : List UInt8 := (List.range s).map (octAt n s)
theorem octL_length (n s : Nat) : (octL n s).length = s := by simp [octL]

def octTo (n s k : Nat) : List UInt8 := fillP (octAt n s) s (fun i => decide (s ≤ i + k))
theorem octTo_zero (n s : Nat) : octTo n s 0 = List.replicate s 0 := by
  apply List.ext_getElem
  · simp [octTo, fillP]
  · intro i h1 h2
    have : i < s := by simpa [octTo, fillP] using h1
    simp [octTo, fillP]; omega
theorem octTo_all (n s : Nat) : octTo n s s = octL n s := fillP_all fun i _ => by simp
theorem octTo_set {n s k : Nat} (hk : k < s) : (octTo n s k).set (s - 1 - k) (octAt n s (s - 1 - k)) = octTo n s (k + 1) := by
  refine fillP_set (by simp; omega) fun i hi => ?_
  have : (s ≤ i + (k + 1)) = (s ≤ i + k) := by apply propext; omega
  simp [this]
theorem oct_val {n s k : Nat} (hk : k < s) : Value.int .u8 (IntKind.u8.wrap ((n : Int) / 2 ^ (8 * k))) = U (octAt n s (s - 1 - k)) := by
  have e : ((n : Int) / 2 ^ (8 * k)) = ((n / 256 ^ k : Nat) : Int) := by
    rw [show (256 : Nat) = 2 ^ 8 from rfl, ← Nat.pow_mul]; simp
  rw [e, IntKind.wrap_u8']
  simp only [U, octAt]
  rw [show s - 1 - (s - 1 - k) = k from by omega]
  simp

/-- what the loop keeps -/
def OctRel (B g : Nat) (n s k : Nat) (w wr : World) : Prop :=
  wr.ownsRow B 5 1 (.slice (some ⟨g, 0, none⟩) s s) s (Us (octTo n s k)) ∧ Below B w wr ∧ B ≤ g
theorem OctRel.cell {B g n s k j : Nat} {w wr : World} (h : OctRel B g n s k w wr) (hj : j < s) : ∃ u, wr.cell? ⟨g, j, none⟩ = some u := by
  have h1 := h.1.cellAt j (by omega)
  have hl : j < (Us (octTo n s k)).length := by rw [Us_length, octTo, fillP_length]; exact hj
  rw [List.getElem?_eq_getElem hl] at h1
  exact ⟨_, h1⟩
theorem OctRel.step {B g n s k : Nat} {w wr : World} (h : OctRel B g n s k w wr) (hk : k < s) :
    OctRel B g n s (k + 1) w (wr.setCell ⟨g, s - 1 - k, none⟩ (.int .u8 (IntKind.u8.wrap ((n : Int) / 2 ^ (8 * k))))) := by
  rw [oct_val hk]
  refine ⟨?_, (h.2.1.setCell (p := ⟨g, s - 1 - k, none⟩) h.2.2 _), h.2.2⟩
  have h1 := (h.1.stored (s - 1 - k) (U (octAt n s (s - 1 - k)))).1
  rw [Us_set, octTo_set hk] at h1
  exact h1
theorem OctRel.done {B g n s k : Nat} {w wr : World} (h : OctRel B g n s k w wr) (hB : B = w.heap.size) (hk : k = s) :
    Gives w (octL n s) 0 (.returned (.tuple #[.slice (some ⟨g, 0, none⟩) s s, .int .i64 0])) wr := by
  subst hB hk
  refine ⟨_, k, by rw [octL_length], ?_, h.2.1⟩
  have h1 := h.1
  rw [octTo_all] at h1
  exact Sees.of_own h1

set_option maxHeartbeats 400000 in
theorem oct_oct_yes (n : Nat) (s : Nat) (hs : s ≤ 7) (hn : n < 256 ^ s) (w : World) :
    Calls Try.prog 16 #[.int .i64 (n : Int), .int .i64 (s : Int)] w (Gives w (octL n s) 0) := by
  obtain ⟨i0, hi, hz0, hz1, hz2⟩ := info_parts info_u8
  have hb : n < 72057594037927936 := Nat.lt_of_lt_of_le hn (Nat.le_trans (Nat.pow_le_pow_right (by decide) hs) (by decide))
  have d1 : decide ((s : Int) < 0) = false := by simp
  have d2 : decide ((7 : Int) < (s : Int)) = false := by simp; omega
  have d3 : decide ((n : Int) < 0) = false := by simp
  have d4 : ((n : Int) / 2 ^ (8 * s) != 0) = false := by
    have e : ((n : Int) / 2 ^ (8 * s)) = ((n / 256 ^ s : Nat) : Int) := by
      rw [show (256 : Nat) = 2 ^ 8 from rfl, ← Nat.pow_mul]; simp
    rw [e, Nat.div_eq_of_lt hn]; rfl
  clear hn
  go_enter Try.func16, Try.ntmps16
  go_wp2_with (at_make; refine wpList_make_full _ rfl _ _ 22 rfl w.heap.size 5 i0 (.int .u8 0) 1 Try.underlying22 hi hz0 hz1 _ _ _ _ s rfl rfl (by simp) (by simp) (by rw [hz2]; omega) (by unfold maxLen; omega) (Nat.le_refl _) ?_; intro w1 hown hgrow)
  have hR : OctRel w.heap.size w.heap.size n s 0 w w1 := by
    refine ⟨?_, (Below.refl _ _).grown hgrow (Nat.le_refl _) (by simp), Nat.le_refl _⟩
    rw [octTo_zero, Us_zeros]
    simpa [Value.cells, toList_madeCells_one] using hown
  clear hown hgrow d1 d2 d3 d4
  go_wp2
  go_loopw [26] (fun i wr => ∃ k : Nat, k ≤ s ∧ i = .int .i64 k ∧ OctRel w.heap.size w.heap.size n s k w wr) (fun i _ => s - (intOf i).toNat)
  case atStart => exact ⟨0, Nat.zero_le _, rfl, hR⟩
  case round =>
    clear hR
    obtain ⟨k, hk, rfl, hR⟩ := hrel
    by_cases hlt : k < s
    · obtain ⟨old, g3⟩ := hR.cell (j := s - 1 - k) (by omega)
      have g4 := hR.1.frozenAt (s - 1 - k)
      go_wp2
      go_roundw
      case rel => exact ⟨k + 1, by omega, by go_num, hR.step hlt⟩
      case measure => simp [intOf]; omega
    · have hd := hR.done rfl (by omega)
      have HD := Lib.hid hd
      clear hd hR
      go_wp2
      go_ret2
      exact HD.out
/-- what Octets answers: the bytes and the code -/
def octB (n s : Int) : List UInt8 := if s < 0 ∨ 7 < s then [] else if n < 0 ∨ (256 : Int) ^ s.toNat ≤ n then [] else octL n.toNat s.toNat
def octE (n s : Int) : Int := if s < 0 ∨ 7 < s then 2 else if n < 0 ∨ (256 : Int) ^ s.toNat ≤ n then 3 else 0
theorem oct_1 {n s : Int} (h : s < 0 ∨ 7 < s) : octB n s = [] ∧ octE n s = 2 := by simp [octB, octE, h]
theorem oct_2 {n s : Int} (h : ¬ (s < 0 ∨ 7 < s)) (k : n < 0 ∨ (256 : Int) ^ s.toNat ≤ n) : octB n s = [] ∧ octE n s = 3 := by
  unfold octB octE; rw [if_neg h, if_neg h, if_pos k, if_pos k]; exact ⟨rfl, rfl⟩
theorem oct_3 {n s : Nat} (h : s ≤ 7) (k : n < 256 ^ s) : octB n s = octL n s ∧ octE n s = 0 := by
  have k' : ¬ ((n : Int) < 0 ∨ (256 : Int) ^ (s : Int).toNat ≤ n) := by
    have e : ((256 : Int) ^ (s : Int).toNat) = ((256 ^ s : Nat) : Int) := by simp
    rw [e]; omega
  unfold octB octE; rw [if_neg (show ¬ ((s : Int) < 0 ∨ 7 < (s : Int)) from by omega), if_neg (show ¬ ((s : Int) < 0 ∨ 7 < (s : Int)) from by omega), if_neg k', if_neg k']; exact ⟨rfl, rfl⟩
theorem oct_4 {n s : Nat} (h : s ≤ 7) (k : ¬ n < 256 ^ s) : octB n s = [] ∧ octE n s = 3 := by
  refine oct_2 (by omega) (.inr ?_)
  have e : ((256 : Int) ^ (s : Int).toNat) = ((256 ^ s : Nat) : Int) := by simp
  rw [e]; omega
theorem gives_nil (w : World) (r : Int) : Gives w [] r (.returned (.tuple #[.slice none 0 0, .int .i64 r])) w := ⟨none, 0, rfl, .inl rfl, Below.refl _ _⟩

theorem oct_oct (n s : Int) (w1 : (Lit.int .i64 n).wf = true) (w2 : (Lit.int .i64 s).wf = true) (w : World) :
    Calls Try.prog 16 #[.int .i64 n, .int .i64 s] w (Gives w (octB n s) (octE n s)) := by
  have b1 : -9223372036854775808 ≤ n ∧ n ≤ 9223372036854775807 := by simpa [Lit.wf, IntKind.min, IntKind.max, IntKind.signed, IntKind.bits] using w1
  have b2 : -9223372036854775808 ≤ s ∧ s ≤ 9223372036854775807 := by simpa [Lit.wf, IntKind.min, IntKind.max, IntKind.signed, IntKind.bits] using w2
  obtain ⟨b1l, b1r⟩ := b1
  obtain ⟨b2l, b2r⟩ := b2
  clear w1 w2
  by_cases h1 : s < 0 ∨ 7 < s
  · have hg := gives_nil w 2
    rw [(oct_1 (n := n) h1).1, (oct_1 (n := n) h1).2]
    have HG := Lib.hid hg
    clear hg
    by_cases h2 : s < 0
    · have d1 : decide ((s : Int) < 0) = true := by simpa using h2
      clear h1
      go_enter Try.func16, Try.ntmps16
      go_wp2
      go_ret2
      exact HG.out
    · have d1 : decide ((s : Int) < 0) = false := by simpa using h2
      have d2 : decide ((7 : Int) < s) = true := by simp; omega
      clear h1 h2
      go_enter Try.func16, Try.ntmps16
      go_wp2
      go_ret2
      exact HG.out
  · have d1 : decide ((s : Int) < 0) = false := by simp; omega
    have d2 : decide ((7 : Int) < s) = false := by simp; omega
    by_cases h2 : n < 0
    · have hg := gives_nil w 3
      rw [(oct_2 (n := n) h1 (.inl h2)).1, (oct_2 (n := n) h1 (.inl h2)).2]
      have HG := Lib.hid hg
      have d3 : decide ((n : Int) < 0) = true := by simpa using h2
      clear hg h1 h2
      go_enter Try.func16, Try.ntmps16
      go_wp2
      go_ret2
      exact HG.out
    · obtain ⟨m, rfl⟩ := Int.eq_ofNat_of_zero_le (show 0 ≤ n from by omega)
      obtain ⟨t, rfl⟩ := Int.eq_ofNat_of_zero_le (show 0 ≤ s from by omega)
      have ht : t ≤ 7 := by omega
      by_cases h3 : m < 256 ^ t
      · rw [(oct_3 ht h3).1, (oct_3 ht h3).2]
        exact oct_oct_yes m t ht h3 w
      · have hg := gives_nil w 3
        rw [(oct_4 ht h3).1, (oct_4 ht h3).2]
        have HG := Lib.hid hg
        have d3 : decide ((m : Int) < 0) = false := by simp
        have d4 : ((m : Int) / 2 ^ (8 * t) != 0) = true := by
          have e : ((m : Int) / 2 ^ (8 * t)) = ((m / 256 ^ t : Nat) : Int) := by
            rw [show (256 : Nat) = 2 ^ 8 from rfl, ← Nat.pow_mul]; simp
          have : 0 < m / 256 ^ t := Nat.div_pos (by omega) (Nat.pow_pos (by decide))
          rw [e, bne_iff_ne]; omega
        clear hg h1 h2 h3
        go_enter Try.func16, Try.ntmps16
        go_wp2
        go_ret2
        exact HG.out

theorem ref_val {n s k m : Nat} (hk : k < s) (hm : m = n / 256 ^ k) : Value.int .u8 ((m : Int) % 256) = Value.int .u8 (IntKind.u8.wrap ((n : Int) / 2 ^ (8 * k))) := by
  rw [oct_val hk]
  simp only [U, octAt]
  rw [show s - 1 - (s - 1 - k) = k from by omega, hm]
  simp
theorem div_step {n k m : Nat} (hm : m = n / 256 ^ k) : m / 256 = n / 256 ^ (k + 1) := by
  rw [hm, Nat.div_div_eq_div_mul, Nat.pow_succ]

set_option maxHeartbeats 400000 in
theorem ref_oct_in (n : Nat) (s : Nat) (hs : s ≤ 7) (hb : n ≤ 9223372036854775807) (w : World) :
    Calls Try.prog 17 #[.int .i64 (n : Int), .int .i64 (s : Int)] w (Gives w (octB n s) (octE n s)) := by
  obtain ⟨i0, hi, hz0, hz1, hz2⟩ := info_parts info_u8
  have d1 : decide ((s : Int) < 0) = false := by simp
  have d2 : decide ((7 : Int) < (s : Int)) = false := by simp; omega
  have d3 : decide ((n : Int) < 0) = false := by simp
  go_enter Try.func17, Try.ntmps17
  go_wp2_with (at_make; refine wpList_make_full _ rfl _ _ 22 rfl w.heap.size 5 i0 (.int .u8 0) 1 Try.underlying22 hi hz0 hz1 _ _ _ _ s rfl rfl (by simp) (by simp) (by rw [hz2]; omega) (by unfold maxLen; omega) (Nat.le_refl _) ?_; intro w1 hown hgrow)
  have hR : OctRel w.heap.size w.heap.size n s 0 w w1 := by
    refine ⟨?_, (Below.refl _ _).grown hgrow (Nat.le_refl _) (by simp), Nat.le_refl _⟩
    rw [octTo_zero, Us_zeros]
    simpa [Value.cells, toList_madeCells_one] using hown
  clear hown hgrow d1 d2 d3
  go_wp2
  go_loopw [0, 7] (fun q i wr => ∃ k m : Nat, k ≤ s ∧ m ≤ 9223372036854775807 ∧ q = .int .i64 m ∧ i = .int .i64 ((s : Int) - 1 - k) ∧ Hid (m = n / 256 ^ k) ∧ OctRel w.heap.size w.heap.size n s k w wr) (fun _ i _ => (intOf i + 1).toNat)
  case atStart => exact ⟨0, n, Nat.zero_le _, hb, rfl, by go_num, Lib.hid (by simp), hR⟩
  case round =>
    clear hR
    obtain ⟨k, m, hk, hmb, rfl, rfl, HM, hR⟩ := hrel
    by_cases hlt : k < s
    · obtain ⟨old, g3⟩ := hR.cell (j := s - 1 - k) (by omega)
      have g4 := hR.1.frozenAt (s - 1 - k)
      have hge : (0 : Int) ≤ (s : Int) - 1 - k := by omega
      go_wp2
      go_roundw
      case rel => exact ⟨k + 1, m / 256, by omega, by omega, by go_num, by go_num, Lib.hid (div_step HM.out), by rw [ref_val hlt HM.out]; exact hR.step hlt⟩
      case measure => simp [intOf]; omega
    · obtain rfl : k = s := by omega
      by_cases h3 : n < 256 ^ k
      · have hd : Gives w (octB n k) (octE n k) (.returned (.tuple #[.slice (some ⟨w.heap.size, 0, none⟩) k k, .int .i64 0])) wr := by
          rw [(oct_3 hs h3).1, (oct_3 hs h3).2]; exact hR.done rfl rfl
        have e0 : m = 0 := by rw [HM.out]; exact Nat.div_eq_of_lt h3
        have d4 : ((m : Int) != 0) = false := by rw [e0]; rfl
        have HD := Lib.hid hd
        clear hd hR h3 e0
        go_wp2
        go_ret2
        exact HD.out
      · have hd : Gives w (octB n k) (octE n k) (.returned (.tuple #[.slice none 0 0, .int .i64 3])) wr := by
          rw [(oct_4 hs h3).1, (oct_4 hs h3).2]; exact ⟨none, 0, rfl, .inl rfl, hR.2.1⟩
        have e0 : 0 < m := by rw [HM.out]; exact Nat.div_pos (by omega) (Nat.pow_pos (by decide))
        have d4 : ((m : Int) != 0) = true := by rw [bne_iff_ne]; omega
        have HD := Lib.hid hd
        clear hd hR h3 e0
        go_wp2
        go_ret2
        exact HD.out

theorem ref_oct (n s : Int) (w1 : (Lit.int .i64 n).wf = true) (w2 : (Lit.int .i64 s).wf = true) (w : World) :
    Calls Try.prog 17 #[.int .i64 n, .int .i64 s] w (Gives w (octB n s) (octE n s)) := by
  have b1 : -9223372036854775808 ≤ n ∧ n ≤ 9223372036854775807 := by simpa [Lit.wf, IntKind.min, IntKind.max, IntKind.signed, IntKind.bits] using w1
  have b2 : -9223372036854775808 ≤ s ∧ s ≤ 9223372036854775807 := by simpa [Lit.wf, IntKind.min, IntKind.max, IntKind.signed, IntKind.bits] using w2
  obtain ⟨b1l, b1r⟩ := b1
  obtain ⟨b2l, b2r⟩ := b2
  clear w1 w2
  by_cases h1 : s < 0 ∨ 7 < s
  · have hg := gives_nil w 2
    rw [(oct_1 (n := n) h1).1, (oct_1 (n := n) h1).2]
    have HG := Lib.hid hg
    clear hg
    by_cases h2 : s < 0
    · have d1 : decide ((s : Int) < 0) = true := by simpa using h2
      clear h1
      go_enter Try.func17, Try.ntmps17
      go_wp2
      go_ret2
      exact HG.out
    · have d1 : decide ((s : Int) < 0) = false := by simpa using h2
      have d2 : decide ((7 : Int) < s) = true := by simp; omega
      clear h1 h2
      go_enter Try.func17, Try.ntmps17
      go_wp2
      go_ret2
      exact HG.out
  · have d1 : decide ((s : Int) < 0) = false := by simp; omega
    have d2 : decide ((7 : Int) < s) = false := by simp; omega
    by_cases h2 : n < 0
    · have hg := gives_nil w 3
      rw [(oct_2 (n := n) h1 (.inl h2)).1, (oct_2 (n := n) h1 (.inl h2)).2]
      have HG := Lib.hid hg
      clear hg h1
      go_enter Try.func17, Try.ntmps17
      go_wp2
      go_ret2
      exact HG.out
    · obtain ⟨m, rfl⟩ := Int.eq_ofNat_of_zero_le (show 0 ≤ n from by omega)
      obtain ⟨t, rfl⟩ := Int.eq_ofNat_of_zero_le (show 0 ≤ s from by omega)
      exact ref_oct_in m t (by omega) (by omega) w

end Go.Proofs.Ytelbphjdcekajaa
