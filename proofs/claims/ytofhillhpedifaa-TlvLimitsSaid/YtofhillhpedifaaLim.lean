/-
  What is proved here: plain facts on objects that are nested in each other and on equal objects one behind the other: their encodings and what is read of them.
-/
import Derived.Test.YtofhillhpedifaaAwt
namespace Go.Proofs.Ytofhillhpedifaa
open Go.RowKit

def nestF : Nat → F
  | 0 => .nil
  | d + 1 => .cons 48 [] (nestF d) .nil
def flatF : Nat → F
  | 0 => .nil
  | n + 1 => .cons 4 [] .nil (flatF n)
/-- the first j pairs of bytes of d objects that are nested in each other -/
def nestB (d j : Nat) : List UInt8 := (List.range j).flatMap fun i => [48, UInt8.ofNat (2 * (d - 1 - i))]
def flatB : Nat → List UInt8
  | 0 => []
  | n + 1 => 4 :: 0 :: flatB n
def parE : Except Int (F × Nat) → Int
  | .error x => x
  | .ok _ => 0
def parN : Except Int (F × Nat) → Nat
  | .error _ => 0
  | .ok (f, _) => f.len
theorem nestB_snoc (d j : Nat) : nestB d (j + 1) = nestB d j ++ [48, UInt8.ofNat (2 * (d - 1 - j))] := by simp [nestB, List.range_succ]
theorem nestB_length (d : Nat) : ∀ j, (nestB d j).length = 2 * j
  | 0 => rfl
  | j + 1 => by rw [nestB_snoc, List.length_append, nestB_length d j]; simp; omega
theorem flatB_snoc : ∀ n, flatB (n + 1) = flatB n ++ [4, 0]
  | 0 => rfl
  | n + 1 => by
    have := flatB_snoc n
    simp only [flatB, List.cons_append] at this ⊢
    rw [this]
theorem flatB_length : ∀ n, (flatB n).length = 2 * n
  | 0 => rfl
  | n + 1 => by simp only [flatB, List.length_cons, flatB_length n]; omega
theorem flatF_len : ∀ n, (flatF n).len = n
  | 0 => rfl
  | n + 1 => by simp only [flatF, F.len, flatF_len n]
theorem flatF_size : ∀ n, (flatF n).size = n
  | 0 => rfl
  | n + 1 => by simp only [flatF, F.size, flatF_size n]; omega
theorem flatF_snoc : ∀ n, flatF (n + 1) = (flatF n).app (.cons 4 [] .nil .nil)
  | 0 => rfl
  | n + 1 => by
    have := flatF_snoc n
    simp only [flatF, F.app] at this ⊢
    rw [this]
theorem flatF_ok : ∀ n, (flatF n).ok
  | 0 => trivial
  | n + 1 => ⟨by decide, by decide, trivial, flatF_ok n⟩
theorem nestF_len (d : Nat) : (nestF (d + 1)).len = 1 := rfl
theorem nestF_size : ∀ d, (nestF d).size = d
  | 0 => rfl
  | d + 1 => by simp only [nestF, F.size, nestF_size d]
theorem nestF_ok : ∀ d, (nestF d).ok
  | 0 => trivial
  | d + 1 => ⟨by decide, by decide, nestF_ok d, trivial⟩
theorem lim_nest : ∀ d : _root_.Fin 12, encE (nestF (d.val + 1)) = (if d.val + 1 ≤ 8 then 0 else 7) ∧ (d.val + 1 ≤ 8 → encB (nestF (d.val + 1)) = nestB (d.val + 1) (d.val + 1)) ∧ parE (parse true (nestB (d.val + 1) (d.val + 1))) = (if d.val + 1 ≤ 8 then 0 else 7) := by decide +kernel
theorem lim_flat : ∀ d : _root_.Fin 12, encE (flatF (250 + d.val)) = (if 250 + d.val ≤ 256 then 0 else 2) ∧ parE (parse true (flatB (250 + d.val))) = (if 250 + d.val ≤ 256 then 0 else 2) ∧ (250 + d.val ≤ 256 → parN (parse true (flatB (250 + d.val))) = 250 + d.val) := by decide +kernel

end Go.Proofs.Ytofhillhpedifaa
