/-
  What is proved here: what the program's Octets returns for a number that fits.
-/
import Derived.Test.YtobbnedojmcgoaaRows
import Derived.Test.YtobbnedojmcgoaaKit
namespace Go.Proofs.Ytobbnedojmcgoaa
open Go.RowKit

theorem info_u8 : (Try.prog.info? 5).map (fun i => (i.zero, i.size, i.bytes)) = some (some (.int .u8 0), 1, 1) := by kernel_rfl

/-- the byte at i of n written as s bytes -/
def octAt (n s i : Nat) : UInt8 := UInt8.ofNat (n / 256 ^ (s - 1 - i))
def octL (n s : Nat) : List UInt8 := (List.range s).map (octAt n s)
theorem octL_length (n s : Nat) : (octL n s).length = s := by simp [octL]

def octTo (n s k : Nat) : List UInt8 := fillP (octAt n s) s (fun i => decide (s ≤ i + k))
theorem octTo_zero (n s : Nat) : octTo n s 0 = List.replicate s 0 := by
  apply List.ext_getElem
  · simp [octTo, fillP]
  · intro i h1 h2
    have : i < s := by simpa [octTo, fillP] using h1
    simp [octTo, fillP]; omega
theorem octTo_all (n s : Nat) : octTo n s s = octL n s := fillP_all fun i _ => by simp
theorem octTo_set {n s k : Nat} (hk : k < s) : (octTo n s k).set (s - 1 - k) (octAt n s (s - 1 - k)) = octTo n s (k + 1) := by
  refine fillP_set (by simp; omega) fun i hi => ?_
  have : (s ≤ i + (k + 1)) = (s ≤ i + k) := by apply propext; omega
  simp [this]
theorem oct_val {n s k : Nat} (hk : k < s) : Value.int .u8 (IntKind.u8.wrap ((n : Int) / 2 ^ (8 * k))) = U (octAt n s (s - 1 - k)) := by
  have e : ((n : Int) / 2 ^ (8 * k)) = ((n / 256 ^ k : Nat) : Int) := by
    rw [show (256 : Nat) = 2 ^ 8 from rfl, ← Nat.pow_mul]; simp
  rw [e, IntKind.wrap_u8']
  simp only [U, octAt]
  rw [show s - 1 - (s - 1 - k) = k from by omega]
  simp

/-- what the loop keeps -/
def OctRel (B g : Nat) (n s k : Nat) (w wr : World) : Prop :=
  wr.ownsRow B 5 1 (.slice (some ⟨g, 0, none⟩) s s) s (Us (octTo n s k)) ∧ Below B w wr ∧ B ≤ g
theorem OctRel.cell {B g n s k j : Nat} {w wr : World} (h : OctRel B g n s k w wr) (hj : j < s) : ∃ u, wr.cell? ⟨g, j, none⟩ = some u := by
  have h1 := h.1.cellAt j (by omega)
  have hl : j < (Us (octTo n s k)).length := by rw [Us_length, octTo, fillP_length]; exact hj
  rw [List.getElem?_eq_getElem hl] at h1
  exact ⟨_, h1⟩
theorem OctRel.step {B g n s k : Nat} {w wr : World} (h : OctRel B g n s k w wr) (hk : k < s) :
    OctRel B g n s (k + 1) w (wr.setCell ⟨g, s - 1 - k, none⟩ (.int .u8 (IntKind.u8.wrap ((n : Int) / 2 ^ (8 * k))))) := by
  rw [oct_val hk]
  refine ⟨?_, (h.2.1.setCell (p := ⟨g, s - 1 - k, none⟩) h.2.2 _), h.2.2⟩
  have h1 := (h.1.stored (s - 1 - k) (U (octAt n s (s - 1 - k)))).1
  rw [Us_set, octTo_set hk] at h1
  exact h1
theorem OctRel.done {B g n s k : Nat} {w wr : World} (h : OctRel B g n s k w wr) (hB : B = w.heap.size) (hk : k = s) :
    Gives w (octL n s) 0 (.returned (.tuple #[.slice (some ⟨g, 0, none⟩) s s, .int .i64 0])) wr := by
  subst hB hk
  refine ⟨_, k, by rw [octL_length], ?_, h.2.1⟩
  have h1 := h.1
  rw [octTo_all] at h1
  exact Sees.of_own h1

set_option maxHeartbeats 400000 in
theorem oct_oct_yes (n : Nat) (s : Nat) (hs : s ≤ 7) (hn : n < 256 ^ s) (w : World) :
    Calls Try.prog 49 #[.int .i64 (n : Int), .int .i64 (s : Int)] w (Gives w (octL n s) 0) := by
  obtain ⟨i0, hi, hz0, hz1, hz2⟩ := info_parts info_u8
  have hb : n < 72057594037927936 := Nat.lt_of_lt_of_le hn (Nat.le_trans (Nat.pow_le_pow_right (by decide) hs) (by decide))
  have d1 : decide ((s : Int) < 0) = false := by simp
  have d2 : decide ((7 : Int) < (s : Int)) = false := by simp; omega
  have d3 : decide ((n : Int) < 0) = false := by simp
  have d4 : ((n : Int) / 2 ^ (8 * s) != 0) = false := by
    have e : ((n : Int) / 2 ^ (8 * s)) = ((n / 256 ^ s : Nat) : Int) := by
      rw [show (256 : Nat) = 2 ^ 8 from rfl, ← Nat.pow_mul]; simp
    rw [e, Nat.div_eq_of_lt hn]; rfl
  clear hn
  go_enter Try.func49, Try.ntmps49
  go_wp2_with (at_make; refine wpList_make_full _ rfl _ _ 25 rfl w.heap.size 5 i0 (.int .u8 0) 1 Try.underlying25 hi hz0 hz1 _ _ _ _ s rfl rfl (by simp) (by simp) (by rw [hz2]; omega) (by unfold maxLen; omega) (Nat.le_refl _) ?_; intro w1 hown hgrow)
  have hR : OctRel w.heap.size w.heap.size n s 0 w w1 := by
    refine ⟨?_, (Below.refl _ _).grown hgrow (Nat.le_refl _) (by simp), Nat.le_refl _⟩
    rw [octTo_zero, Us_zeros]
    simpa [Value.cells, toList_madeCells_one] using hown
  clear hown hgrow d1 d2 d3 d4
  go_wp2
  go_loopw [26] (fun i wr => ∃ k : Nat, k ≤ s ∧ i = .int .i64 k ∧ OctRel w.heap.size w.heap.size n s k w wr) (fun i _ => s - (intOf i).toNat)
  case atStart => exact ⟨0, Nat.zero_le _, rfl, hR⟩
  case round =>
    clear hR
    obtain ⟨k, hk, rfl, hR⟩ := hrel
    by_cases hlt : k < s
    · obtain ⟨old, g3⟩ := hR.cell (j := s - 1 - k) (by omega)
      have g4 := hR.1.frozenAt (s - 1 - k)
      go_wp2
      go_roundw
      case rel => exact ⟨k + 1, by omega, by go_num, hR.step hlt⟩
      case measure => simp [intOf]; omega
    · have hd := hR.done rfl (by omega)
      have HD := Lib.hid hd
      clear hd hR
      go_wp2
      go_ret2
      exact HD.out
end Go.Proofs.Ytobbnedojmcgoaa
