/-
  What is proved here: what the library's RotateLeft32 answers for a rotation to the right by 1 to 31, and what the program's combination of rotations answers.
-/
import Derived.Test.YtaikoeoabgkglaaDoorWd
namespace Go.Proofs.YtaikoeoabgkglaaDoor
open Go.RowKit
set_option linter.unusedVariables false

theorem and31 (n : Nat) (h1 : 1 ≤ n) (h2 : n ≤ 31) : bits .and .u64 (-(n : Int) % 18446744073709551616) 31 = ((32 - n : Nat) : Int) := by
  have e : -(n : Int) % 18446744073709551616 = ((18446744073709551616 - n : Nat) : Int) := by omega
  rw [e]
  have h := u64_and_nat (18446744073709551616 - n) 31 (by omega) (by decide)
  rw [show (31 : Int) = ((31 : Nat) : Int) from rfl, h]
  congr 1
  rw [show (31 : Nat) = 2 ^ 5 - 1 from rfl, Nat.and_two_pow_sub_one_eq_mod]
  omega
theorem rot_left (x : UInt32) (n : Nat) (h1 : 1 ≤ n) (h2 : n ≤ 31) (w : World) :
    Calls Tryd.prog 59 #[.int .u32 (x.toNat : Int), .int .i64 (-(n : Int))] w fun e w' => e = .returned (.int .u32 ((rotW x n).toNat : Int)) ∧ w' = w := by
  obtain ⟨m, hm⟩ : ∃ m, m = 32 - n := ⟨_, rfl⟩
  have e : bits .and .u64 (IntKind.u64.wrap (-(n : Int))) 31 = (m : Int) := by
    rw [hm, ← and31 n h1 h2]
    rfl
  have b1 : m ≤ 31 := by omega
  have b2 : 1 ≤ m := by omega
  have e3 : 32 - m = n := by omega
  have E := Lib.hid (And.intro hm e3)
  clear hm e3
  go_enter Tryd.func59, Tryd.ntmps59
  go_wp2
  rw [w_shl x m (by omega), E.out.2, w_shr x n (by omega), w_or]
  go_ret
  refine ⟨?_, rfl⟩
  have e4 : (x <<< UInt32.ofNat m ||| x >>> UInt32.ofNat n) = rotW x n := by
    unfold rotW
    rw [E.out.1, UInt32.or_comm]
  rw [← e4]
  rfl

/-- the exclusive or of a word rotated by each count -/
def xorR (x : UInt32) (ns : List Nat) : UInt32 := ns.foldl (fun o n => o ^^^ rotW x n) 0
theorem xorR_snoc (x : UInt32) (ns : List Nat) (n : Nat) : xorR x (ns ++ [n]) = xorR x ns ^^^ rotW x n := by simp [xorR]
def Ns (l : List Nat) : List Value := l.map fun (n : Nat) => Value.int .i64 (n : Int)
theorem take_at {ns : List Nat} {k : Nat} (h : k < ns.length) : ns.take (k + 1) = ns.take k ++ [ns[k]] := by rw [List.take_succ_eq_append_getElem h]
set_option maxHeartbeats 400000 in
theorem rot_all (x : UInt32) (ns : List Nat) (hn : ∀ n ∈ ns, 1 ≤ n ∧ n ≤ 31) (hl : ns.length ≤ 100) (b c : Nat) (w : World) (hc : ∀ j, j < ns.length → w.cell? ⟨b, j, none⟩ = (Ns ns)[j]?) :
    Calls Tryd.prog 58 #[.int .u32 (x.toNat : Int), .slice (some ⟨b, 0, none⟩) ns.length c] w fun e w' => e = .returned (.int .u32 ((xorR x ns).toNat : Int)) ∧ w' = w := by
  have H := Lib.hid (And.intro hn hc)
  clear hn hc
  go_enter Tryd.func58, Tryd.ntmps58
  go_wp2
  go_loop [5, 10] (fun o i => ∃ k : Nat, k ≤ ns.length ∧ i = .int .i64 k ∧ o = .int .u32 ((xorR x (ns.take k)).toNat : Int)) (fun _ i => ns.length - (intOf i).toNat)
  case atStart => exact ⟨0, Nat.zero_le _, rfl, rfl⟩
  case round =>
    obtain ⟨k, hk, rfl, rfl⟩ := hrel
    by_cases hlt : k < ns.length
    · have g := H.out.2 k hlt
      rw [show (Ns ns)[k]? = some (.int .i64 (ns[k] : Int)) from by simp [Ns, hlt]] at g
      obtain ⟨h1, h2⟩ := H.out.1 ns[k] (List.getElem_mem hlt)
      obtain ⟨m, hm⟩ : ∃ m, m = ns[k] := ⟨_, rfl⟩
      rw [← hm] at g h1 h2
      have HM := Lib.hid hm
      clear hm
      go_wp2_with (go_at_call 59; (with_reducible refine (rot_left _ _ h1 h2 _).mono ?_); rintro e w' ⟨rfl, rfl⟩)
      go_round
      case rel => exact ⟨k + 1, by omega, by go_num, by rw [w_xor, take_at hlt, xorR_snoc, ← HM.out]⟩
      case measure => simp [intOf]; omega
    · go_wp2
      go_ret
      refine ⟨?_, rfl⟩
      rw [List.take_of_length_le (by omega)]
      rfl
def sg2 (x : UInt32) (n1 n2 : Nat) : UInt32 := rotW x n1 ^^^ rotW x n2
def sg3 (x : UInt32) (n1 n2 n3 : Nat) : UInt32 := rotW x n1 ^^^ rotW x n2 ^^^ rotW x n3
theorem rot2 (x : UInt32) (n1 n2 : Nat) (b c : Nat) (w : World) (h : (1 ≤ n1 ∧ n1 ≤ 31) ∧ (1 ≤ n2 ∧ n2 ≤ 31)) (hc : w.cell? ⟨b, 0, none⟩ = some (.int .i64 (n1 : Int)) ∧ w.cell? ⟨b, 1, none⟩ = some (.int .i64 (n2 : Int))) :
    Calls Tryd.prog 58 #[.int .u32 (x.toNat : Int), .slice (some ⟨b, 0, none⟩) 2 c] w fun e w' => e = .returned (.int .u32 ((sg2 x n1 n2).toNat : Int)) ∧ w' = w := by
  have h0 := rot_all x [n1, n2] (by intro n hn; simp at hn; rcases hn with rfl | rfl; exact h.1; exact h.2) (by simp) b c w (by
    intro j hj
    match j, hj with
    | 0, _ => exact hc.1
    | 1, _ => exact hc.2)
  refine h0.mono ?_
  rintro e w' ⟨rfl, rfl⟩
  refine ⟨?_, rfl⟩
  simp [xorR, sg2]
theorem rot3 (x : UInt32) (n1 n2 n3 : Nat) (b c : Nat) (w : World) (h : (1 ≤ n1 ∧ n1 ≤ 31) ∧ (1 ≤ n2 ∧ n2 ≤ 31) ∧ (1 ≤ n3 ∧ n3 ≤ 31)) (hc : w.cell? ⟨b, 0, none⟩ = some (.int .i64 (n1 : Int)) ∧ w.cell? ⟨b, 1, none⟩ = some (.int .i64 (n2 : Int)) ∧ w.cell? ⟨b, 2, none⟩ = some (.int .i64 (n3 : Int))) :
    Calls Tryd.prog 58 #[.int .u32 (x.toNat : Int), .slice (some ⟨b, 0, none⟩) 3 c] w fun e w' => e = .returned (.int .u32 ((sg3 x n1 n2 n3).toNat : Int)) ∧ w' = w := by
  have h0 := rot_all x [n1, n2, n3] (by intro n hn; simp at hn; rcases hn with rfl | rfl | rfl; exact h.1; exact h.2.1; exact h.2.2) (by simp) b c w (by
    intro j hj
    match j, hj with
    | 0, _ => exact hc.1
    | 1, _ => exact hc.2.1
    | 2, _ => exact hc.2.2)
  refine h0.mono ?_
  rintro e w' ⟨rfl, rfl⟩
  refine ⟨?_, rfl⟩
  simp [xorR, sg3]

end Go.Proofs.YtaikoeoabgkglaaDoor
