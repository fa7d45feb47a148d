/-
  What is proved here: what the program's whole, valid and combine answer, for bytes that lie in memory.
-/
import Derived.Test.YtipkaeeimohmpaaP9
import Derived.Test.YtipkaeeimohmpaaSx
namespace Go.Proofs.Ytipkaeeimohmpaa
open Go.RowKit
set_option linter.unusedVariables false

/-- sixteen bytes combined by exclusive or -/
def xor16 (x y : List UInt8) : List UInt8 := (List.range 16).map fun i => x.getD i 0 ^^^ y.getD i 0
theorem xor16_length (x y : List UInt8) : (xor16 x y).length = 16 := by simp [xor16]
/-- the first k of sixteen bytes combined -/
def xorK (x y : List UInt8) (k : Nat) : List UInt8 := fillP (fun i => x.getD i 0 ^^^ y.getD i 0) 16 (fun i => decide (i < k))
theorem xorK_length (x y : List UInt8) (k : Nat) : (xorK x y k).length = 16 := fillP_length _ _ _
theorem xorK_zero (x y : List UInt8) : xorK x y 0 = List.replicate 16 0 := by
  unfold xorK; rw [← fillP_none (fun i => x.getD i 0 ^^^ y.getD i 0)]; congr 1
theorem xorK_all (x y : List UInt8) : xorK x y 16 = xor16 x y := fillP_all fun i hi => by simpa using hi
theorem xorK_set (x y : List UInt8) (k : Nat) : (xorK x y k).set k (x.getD k 0 ^^^ y.getD k 0) = xorK x y (k + 1) := by
  refine fillP_set (by simp) fun i hi => ?_
  have : (i < k + 1) = (i < k) := by apply propext; omega
  simp [this]
/-- a call that hands back 16 bytes in a block of its own -/
def One16 (w : World) (l : List UInt8) (e : Ending) (w' : World) : Prop := ∃ g, e = .returned (.slice (some ⟨g, 0, none⟩) 16 16) ∧ w.heap.size ≤ g ∧ RowB w' g l ∧ Below w.heap.size w w'
/-- the byte at k of bytes that lie in memory -/
theorem seen_byte {w : World} {p : Nat → Prop} {A : Option Addr} {x : List UInt8} {k : Nat} (h : SeesP w p A (Us x)) (hk : k < x.length) :
    ∃ b off, A = some ⟨b, off, none⟩ ∧ p b ∧ w.cell? ⟨b, off + k, none⟩ = some (.int .u8 ((x.getD k 0).toNat : Int)) := by
  rcases h with h | ⟨b, off, e, hb, hc⟩
  · have e0 : x.length = 0 := by simpa [Us] using congrArg List.length h
    omega
  · exact ⟨b, off, e, hb, by rw [hc k (by rw [Us_length]; exact hk), Us_get hk, getD_b hk]⟩
theorem seen_addr {w : World} {p : Nat → Prop} {A : Option Addr} {x : List UInt8} (h : SeesP w p A (Us x)) (hk : 0 < x.length) :
    ∃ b off, A = some ⟨b, off, none⟩ ∧ p b ∧ ∀ k, k < x.length → w.cell? ⟨b, off + k, none⟩ = some (.int .u8 ((x.getD k 0).toNat : Int)) := by
  rcases h with h | ⟨b, off, e, hb, hc⟩
  · have e0 : x.length = 0 := by simpa [Us] using congrArg List.length h
    omega
  · exact ⟨b, off, e, hb, fun k hk => by rw [hc k (by rw [Us_length]; exact hk), Us_get hk, getD_b hk]⟩

/-- whether bytes are whole blocks -/
theorem prog_whole (A : Option Addr) (n c : Nat) (w : World) : Calls Try.prog 26 #[.slice A n c] w fun e w' => e = .returned (.bool (decide (n % 16 = 0))) ∧ w = w' := by
  have d : ((n : Int) % 16 == 0) = decide (n % 16 = 0) := by
    by_cases h : n % 16 = 0
    · rw [decide_eq_true h]; simp; omega
    · rw [decide_eq_false h]; simp; omega
  have h16 : ¬ (16 : Int) = 0 := by decide
  go_enter Try.func26, Try.ntmps26
  go_wp2
  go_ret
  exact ⟨rfl, rfl⟩

/-- the code of Seal's and Open's arguments -/
def vE (k v b : Nat) : Int := if k ≠ 16 ∨ v ≠ 16 then 14 else if b % 16 ≠ 0 then 2 else 0
theorem prog_valid (A1 A2 A3 : Option Addr) (n1 n2 n3 c1 c2 c3 : Nat) (w : World) (m1 : n1 ≤ 281474976710656) (m2 : n2 ≤ 281474976710656) :
    Calls Try.prog 28 #[.slice A1 n1 c1, .slice A2 n2 c2, .slice A3 n3 c3] w fun e w' => e = .returned (.int .i64 (vE n1 n2 n3)) ∧ w = w' := by
  by_cases h1 : n1 = 16
  · by_cases h2 : n2 = 16
    · subst h1 h2
      by_cases h3 : n3 % 16 = 0
      · have e3 : vE 16 16 n3 = 0 := by simp [vE, h3]
        rw [e3]
        have d3 : (decide (n3 % 16 = 0)) = true := decide_eq_true h3
        go_enter Try.func28, Try.ntmps28
        go_wp2_with (go_at_call 26; (with_reducible refine (prog_whole _ _ _ _).mono ?_); rintro e w1 ⟨rfl, rfl⟩; rw [d3])
        go_ret
        exact ⟨rfl, rfl⟩
      · have e3 : vE 16 16 n3 = 2 := by simp [vE, h3]
        rw [e3]
        have d3 : (decide (n3 % 16 = 0)) = false := decide_eq_false h3
        go_enter Try.func28, Try.ntmps28
        go_wp2_with (go_at_call 26; (with_reducible refine (prog_whole _ _ _ _).mono ?_); rintro e w1 ⟨rfl, rfl⟩; rw [d3])
        go_ret
        exact ⟨rfl, rfl⟩
    · subst h1
      have e3 : vE 16 n2 n3 = 14 := by simp [vE, h2]
      rw [e3]
      have d2 : ((n2 : Int) != 16) = true := by simp; omega
      have d3 : ((n2 : Int) == 16) = false := by simp; omega
      go_enter Try.func28, Try.ntmps28
      go_wp2
      go_ret
      exact ⟨rfl, rfl⟩
  · have e3 : vE n1 n2 n3 = 14 := by simp [vE, h1]
    rw [e3]
    have d2 : ((n1 : Int) != 16) = true := by simp; omega
    have d3 : ((n1 : Int) == 16) = false := by simp; omega
    go_enter Try.func28, Try.ntmps28
    go_wp2
    go_ret
    exact ⟨rfl, rfl⟩

def CbR (w : World) (x y : List UInt8) (k : Nat) (wr : World) : Prop := RowB wr w.heap.size (xorK x y k) ∧ Below w.heap.size w wr
theorem CbR.step {w wr : World} {x y : List UInt8} {k : Nat} (h : CbR w x y k wr) (hk : k < 16) :
    CbR w x y (k + 1) (wr.setCell ⟨w.heap.size, k, none⟩ (.int .u8 (bits .xor .u8 ((x[k]?.getD 0).toNat : Int) ((y[k]?.getD 0).toNat : Int)))).drew := by
  rw [b_xor]
  refine ⟨?_, (h.2.setCell (p := ⟨w.heap.size, k, none⟩) (Nat.le_refl _) _).drew⟩
  rw [← xorK_set]
  exact (h.1.set k (x[k]?.getD 0 ^^^ y[k]?.getD 0)).drew
set_option maxHeartbeats 400000 in
theorem prog_combine (x y : List UInt8) (A1 A2 : Option Addr) (n1 n2 c1 c2 : Nat) (w : World) (hx : x.length = 16) (hy : y.length = 16) (l1 : 16 ≤ n1) (l2 : 16 ≤ n2) (h1 : SeesP w (· < w.heap.size) A1 (Us x)) (h2 : SeesP w (· < w.heap.size) A2 (Us y)) :
    Calls Try.prog 44 #[.slice A1 n1 c1, .slice A2 n2 c2] w (One16 w (xor16 x y)) := by
  obtain ⟨b1, o1, rfl, hb1, hc1⟩ := seen_addr h1 (by omega)
  obtain ⟨b2, o2, rfl, hb2, hc2⟩ := seen_addr h2 (by omega)
  have HC := Lib.hid (show (∀ k, k < 16 → w.cell? ⟨b1, o1 + k, none⟩ = some (.int .u8 ((x.getD k 0).toNat : Int))) ∧ (∀ k, k < 16 → w.cell? ⟨b2, o2 + k, none⟩ = some (.int .u8 ((y.getD k 0).toNat : Int))) from ⟨fun k hk => hc1 k (by omega), fun k hk => hc2 k (by omega)⟩)
  clear hc1 hc2 h1 h2 hx hy
  have hm : ∀ w, (Instr.makeSlice 22 (.int .i64 16) (.int .i64 16)).run Try.prog w = .ok (.slice (some ⟨w.heap.size, 0, none⟩) 16 16) (w.alloc (.cells (Us (List.replicate 16 0)).toArray 5)) := fun w => by kernel_rfl
  have HR0 := Lib.hid (show CbR w x y 0 (w.alloc (.cells (Us (List.replicate 16 0)).toArray 5)) from ⟨by rw [xorK_zero]; exact RowB.new rfl, (Below.refl _ _).alloc (Nat.le_refl _) _⟩)
  go_enter Try.func44, Try.ntmps44
  go_wp2
  go_loopw [10] (fun i wr => ∃ k : Nat, k ≤ 16 ∧ i = .int .i64 (k : Int) ∧ Hid (CbR w x y k wr)) (fun i _ => 16 - (intOf i).toNat)
  case atStart => exact ⟨0, by decide, rfl, HR0⟩
  case round =>
    clear HR0
    obtain ⟨k, hk, rfl, HR⟩ := hrel
    by_cases hlt : k < 16
    · have y1 := (HR.out.2.cell (p := ⟨b1, o1 + k, none⟩) hb1).trans (HC.out.1 k hlt)
      have y2 := (HR.out.2.cell (p := ⟨b2, o2 + k, none⟩) hb2).trans (HC.out.2 k hlt)
      have y3 := HR.out.1.cell (k := k) (by rw [xorK_length]; exact hlt)
      have y4 := HR.out.1.free k
      have i1 : (k : Int) < (n1 : Int) := by omega
      have i2 : (k : Int) < (n2 : Int) := by omega
      go_wp2
      go_region
      all_goals
        have HS := Lib.hid (HR.out.step hlt)
        clear y1 y2 y3 y4 HR
        go_wp2
        go_roundw
        case rel => exact ⟨k + 1, by omega, by go_num, HS⟩
        case measure => simp [intOf]; omega
    · obtain rfl : k = 16 := by omega
      clear hlt hk
      go_wp2
      go_ret
      have h := HR.out.1
      rw [xorK_all] at h
      exact ⟨_, rfl, Nat.le_refl _, h, HR.out.2⟩

end Go.Proofs.Ytipkaeeimohmpaa
