/-
  What is proved here: the runes of a string; what stands for a letter, in the reference (letter).
-/
import Derived.Test.YtfkcnbcifidlgaaDoorOle
import Derived.Laws.IdiomStrings
namespace Go.Proofs.YtfkcnbcifidlgaaDoor
open Go.RowKit

/-- the runes of a string from a place on, as a range over it gives them -/
def rl (s : ByteArray) : Nat → Nat → List Nat
  | 0, _ => []
  | f + 1, pos => if pos < s.size then (Utf8.decode s pos).1 :: rl s f (pos + (Utf8.decode s pos).2) else []
theorem runesFrom_rl (s : ByteArray) : ∀ (f pos : Nat) (acc : Array Value), Conv.runesFrom s f pos acc = acc ++ ((rl s f pos).map fun (n : Nat) => Value.int .i32 n).toArray := by
  intro f
  induction f with
  | zero => intro pos acc; simp [Conv.runesFrom, rl]
  | succ f ih =>
    intro pos acc
    unfold Conv.runesFrom rl
    by_cases h : pos < s.size
    · rw [if_pos h, if_pos h]
      dsimp only
      rw [ih]
      apply Array.ext'
      simp
    · rw [if_neg h, if_neg h]; simp
theorem width_1 (s : ByteArray) (pos : Nat) : 1 ≤ (Utf8.decode s pos).2 := by
  rw [Lib.decode_N]
  have := Lib.decodeN_shape (s.data.toList.length - pos) (s.data.toList.getD pos 0).toNat (s.data.toList.getD (pos + 1) 0).toNat (s.data.toList.getD (pos + 2) 0).toNat (s.data.toList.getD (pos + 3) 0).toNat
  rcases this with ⟨_, e⟩ | ⟨_, _, _, _, e⟩ | ⟨_, _, _, _, _, _, e⟩ | ⟨_, _, _, _, _, _, _, e⟩ | e
  all_goals rw [e]; simp
theorem rl_len (s : ByteArray) : ∀ (f pos : Nat), (rl s f pos).length ≤ s.size - pos := by
  intro f
  induction f with
  | zero => intro pos; simp [rl]
  | succ f ih =>
    intro pos
    unfold rl
    by_cases h : pos < s.size
    · rw [if_pos h]
      have := ih (pos + (Utf8.decode s pos).2)
      have := width_1 s pos
      simp only [List.length_cons]
      omega
    · rw [if_neg h]; simp
theorem rl_twos (R : List Nat) (hR : ∀ n, n ∈ R → 128 ≤ n ∧ n < 2048) : ∀ (f k : Nat), R.length ≤ k + f → rl (S (twos R)) f (2 * k) = R.drop k := by
  intro f
  induction f with
  | zero => intro k h; rw [List.drop_of_length_le (by omega)]; rfl
  | succ f ih =>
    intro k h
    unfold rl
    rw [S_size, twos_len]
    by_cases hk : k < R.length
    · rw [if_pos (by omega), dec_twos R hR k hk, List.drop_eq_getElem_cons hk, show 2 * k + (R[k], 2).2 = 2 * (k + 1) by dsimp only; omega, ih (k + 1) (by omega)]
    · rw [if_neg (by omega), List.drop_of_length_le (by omega)]

/-- the runes as a row of cells -/
def runeCells (w : World) (L : List Nat) : Obj := .cells ((L.map fun (n : Nat) => Value.int .i32 n).toArray ++ Array.replicate (grownCap w L.length 0 21 - L.length) (.int .i32 0)) 21
theorem conv_runes (s : ByteArray) (hs : s.size ≤ 70368744177664) (w : World) :
    (convert 9 47 (.string s)).run Tryd.prog w = .ok (.slice (some ⟨w.heap.size, 0, none⟩) (rl s s.size 0).length (grownCap w (rl s s.size 0).length 0 21)) (w.drew.alloc (runeCells w (rl s s.size 0))) := by
  have h := run_runes_of_string (P := Tryd.prog) w 9 47 21 s Tryd.underlying9 Tryd.underlying47 Tryd.underlying21
  rw [runesFrom_rl] at h
  have hz : (#[] ++ ((rl s s.size 0).map fun (n : Nat) => Value.int .i32 n).toArray : Array Value).size = (rl s s.size 0).length := by simp
  rw [hz] at h
  rw [h (by have := rl_len s s.size 0; omega)]
  unfold runeCells
  simp
theorem rune_cell {w : World} {L : List Nat} {k : Nat} (hk : k < L.length) : (w.drew.alloc (runeCells w L)).cell? ⟨w.heap.size, k, none⟩ = some (.int .i32 (L[k] : Nat)) := by
  unfold World.cell?
  rw [show (w.drew.alloc (runeCells w L)).heap = w.heap.push (runeCells w L) from rfl, Array.getElem?_push_size]
  unfold runeCells
  dsimp only
  rw [if_neg (by simp), Array.getElem?_append_left (by simpa using hk)]
  simp [hk]

end Go.Proofs.YtfkcnbcifidlgaaDoor
