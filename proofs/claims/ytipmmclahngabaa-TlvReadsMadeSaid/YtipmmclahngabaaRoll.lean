/-
  What is proved here: the makers' Light and Roll: how long a list is; dice of their own over a list that came in.
-/
import Derived.Test.YtipmmclahngabaaRows
import Derived.Test.YtipmmclahngabaaKit
import Derived.Test.YtipmmclahngabaaDice
namespace Go.Proofs.Ytipmmclahngabaa
open Go.RowKit
set_option linter.unusedVariables false

/-- dice that lie at the end of what was there: what they turn is new -/
theorem below_row {w a b : World} (h : Below w.heap.size w a) (hg : a.grownBy b (some w.heap.size)) : Below w.heap.size w b :=
  h.grown hg h.size (fun k e => by injection e with e; omega)
theorem made_light (A : Option Addr) (n c : Nat) (w : World) (hn : n ≤ 140737488351232) :
    Calls Try.prog 28 #[.slice A n c] w fun e w' => e = .returned (.bool (decide (n ≤ 400))) ∧ w' = w := by
  by_cases h : n ≤ 400
  · have d : decide ((n : Int) ≤ 400) = true := by simp; omega
    rw [decide_eq_true h]
    clear h
    go_enter Try.func28, Try.ntmps28
    go_wp2
    go_ret
    exact ⟨rfl, rfl⟩
  · have d : decide ((n : Int) ≤ 400) = false := by simp; omega
    rw [decide_eq_false h]
    clear h
    go_enter Try.func28, Try.ntmps28
    go_wp2
    go_ret
    exact ⟨rfl, rfl⟩

theorem made_roll (A : Option Addr) (c : Nat) (ls : List Int) (w : World) (hl : ls.length ≤ 140737488351232) (hr : ∀ x ∈ ls, -9223372036854775808 ≤ x ∧ x ≤ 9223372036854775807) (hs : SeesP w (· < w.heap.size) A (ls.map (Value.int .i64))) :
    Calls Try.prog 29 #[.slice A ls.length c] w fun e w' => e = .returned (.pointer (some ⟨w.heap.size, 0, none⟩)) ∧ DiceOk w' w.heap.size ∧ Below w.heap.size w w' := by
  have hd : DiceOk (w.alloc (.cells #[.slice A ls.length c, .int .i64 0] 79)) w.heap.size :=
    ⟨A, c, 0, ls, heap_alloc_new w _, Nat.zero_le _, hl, hr, hs.keep fun q hq => World.cell?_alloc_lt w _ q hq⟩
  have HD := Lib.hid hd
  clear hd hs hr
  go_enter Try.func29, Try.ntmps29
  go_wp2
  go_ret
  exact ⟨rfl, HD.out, (Below.refl _ _).alloc (Nat.le_refl _) _⟩

end Go.Proofs.Ytipmmclahngabaa
