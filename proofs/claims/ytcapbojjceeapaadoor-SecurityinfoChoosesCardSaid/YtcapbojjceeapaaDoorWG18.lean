/-
  What is proved here: the makers' Light and Roll: how long a list is; dice of their own over a list that came in.
-/
import Derived.Test.YtcapbojjceeapaaDoorRows
import Derived.Test.YtcapbojjceeapaaDoorWG1
import Derived.Test.YtcapbojjceeapaaDoorWG5
import Derived.Test.YtcapbojjceeapaaDoorWG9
import Derived.Deep.RegionLaw
import Derived.Deep.RegionWith
namespace Go.Proofs.YtcapbojjceeapaaDoor
open Go.RowKit
set_option linter.unusedVariables false
theorem made_light (A : Option Addr) (n c : Nat) (w : World) (hn : n ≤ 140737488351232) :
    Calls Tryd.prog 17 #[.slice A n c] w fun e w' => e = .returned (.bool (decide (n ≤ 400))) ∧ w' = w := by
  by_cases h : n ≤ 400
  · have d : decide ((n : Int) ≤ 400) = true := by simp; omega
    rw [decide_eq_true h]
    clear h
    go_enter Tryd.func17, Tryd.ntmps17
    go_wp2
    go_ret
    exact ⟨rfl, rfl⟩
  · have d : decide ((n : Int) ≤ 400) = false := by simp; omega
    rw [decide_eq_false h]
    clear h
    go_enter Tryd.func17, Tryd.ntmps17
    go_wp2
    go_ret
    exact ⟨rfl, rfl⟩
theorem made_roll (A : Option Addr) (c : Nat) (ls : List Int) (w : World) (hl : ls.length ≤ 140737488351232) (hr : ∀ x ∈ ls, -9223372036854775808 ≤ x ∧ x ≤ 9223372036854775807) (hs : SeesP w (· < w.heap.size) A (ls.map (Value.int .i64))) :
    Calls Tryd.prog 18 #[.slice A ls.length c] w fun e w' => e = .returned (.pointer (some ⟨w.heap.size, 0, none⟩)) ∧ DiceOk w' w.heap.size ∧ Below w.heap.size w w' := by
  have hd : DiceOk (w.alloc (.cells #[.slice A ls.length c, .int .i64 0] 66)) w.heap.size :=
    ⟨A, c, 0, ls, heap_alloc_new w _, Nat.zero_le _, hl, hr, hs.keep fun q hq => World.cell?_alloc_lt w _ q hq⟩
  have HD := Lib.hid hd
  clear hd hs hr
  go_enter Tryd.func18, Tryd.ntmps18
  go_wp2
  go_ret
  exact ⟨rfl, HD.out, (Below.refl _ _).alloc (Nat.le_refl _) _⟩
def Blk (w : World) (g cap : Nat) (l : List UInt8) : Prop := ∃ cur : Array Value, w.heap[g]? = some (.cells cur 5 (0, 0)) ∧ cur.size = cap ∧ l.length ≤ cap ∧ cur.toList.take l.length = Us l
theorem Blk.lt {w : World} {g cap : Nat} {l : List UInt8} (h : Blk w g cap l) : g < w.heap.size := by
  obtain ⟨cur, h1, _⟩ := h
  exact lt_of_block h1
theorem Blk.cell {w : World} {g cap : Nat} {l : List UInt8} (h : Blk w g cap l) {k : Nat} (hk : k < l.length) : w.cell? ⟨g, k, none⟩ = some (U l[k]) := by
  obtain ⟨cur, h1, h2, h3, h4⟩ := h
  rw [cell_of_row w g k cur _ (0, 0) h1, ← Array.getElem?_toList]
  have := congrArg (·[k]?) h4
  simp only [List.getElem?_take, if_pos hk] at this
  rw [this]
  simp [Us, hk]
theorem Blk.frozen {w : World} {g cap : Nat} {l : List UInt8} (h : Blk w g cap l) (k : Nat) : w.frozen? ⟨g, k, none⟩ = false := by
  obtain ⟨cur, h1, _⟩ := h
  exact frozen_of_row w g k cur _ h1
theorem Blk.set {w : World} {g cap : Nat} {l : List UInt8} (h : Blk w g cap l) (k : Nat) (x : UInt8) : Blk (w.setCell ⟨g, k, none⟩ (U x)) g cap (l.set k x) := by
  obtain ⟨cur, h1, h2, h3, h4⟩ := h
  refine ⟨_, block_set (i := k) h1 (U x), by simpa using h2, by simpa using h3, ?_⟩
  rw [List.length_set, Array.toList_setIfInBounds, List.take_set, h4]
  simp [Us, List.map_set]
end Go.Proofs.YtcapbojjceeapaaDoor
