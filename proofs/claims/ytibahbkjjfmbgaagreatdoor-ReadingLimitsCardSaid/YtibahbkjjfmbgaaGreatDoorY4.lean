/-
  What is proved here: plain facts on lines that are put together field by field, in any order.
  And: bytes.Repeat of one filler, up to 64 of them.
  And: lines as the program writes them of the texts of their fields, whatever the order in which it goes through these.
-/
import Derived.Test.YtibahbkjjfmbgaaGreatDoorY3
import Derived.Test.YtibahbkjjfmbgaaGreatDoorShm
import Derived.Lib.MakeNoZero
import Derived.Lib.BufferWrite
import Derived.Deep.RegionLaw
import Derived.Test.YtibahbkjjfmbgaaGreatDoorOs
import Derived.Lib.SlBytesConst
namespace Go.Proofs.YtibahbkjjfmbgaaGreatDoor
open Go.RowKit
set_option linter.unusedVariables false

theorem padT_len (n : Nat) (x : List UInt8) : (padT n x).length = n := by unfold padT; rw [List.length_append, List.length_take, List.length_replicate]; omega
theorem padT_nil (n : Nat) : padT n [] = List.replicate n 60 := by simp [padT]
theorem padT_fit {n : Nat} {x : List UInt8} (h : x.length ≤ n) : padT n x = x ++ List.replicate (n - x.length) 60 := by unfold padT; rw [List.take_of_length_le h]
theorem padT_full {n : Nat} {x : List UInt8} (h : x.length = n) : padT n x = x := by rw [padT_fit (by omega), h]; simp
theorem lineT_cons (p : Nat × Nat) (r : List (Nat × Nat)) (T : Nat → List UInt8) : lineT (p :: r) T = padT p.2 (T p.1) ++ lineT r T := rfl
theorem lineT_app (a b : List (Nat × Nat)) (T : Nat → List UInt8) : lineT (a ++ b) T = lineT a T ++ lineT b T := by unfold lineT; rw [List.flatMap_append]
theorem lineT_len (T : Nat → List UInt8) : ∀ sg : List (Nat × Nat), (lineT sg T).length = (sg.map (·.2)).sum
  | [] => rfl
  | p :: r => by rw [lineT_cons, List.length_append, padT_len, lineT_len T r]; simp
theorem lineT_ext {T T' : Nat → List UInt8} : ∀ {sg : List (Nat × Nat)}, (∀ p ∈ sg, T p.1 = T' p.1) → lineT sg T = lineT sg T'
  | [], _ => rfl
  | p :: r, h => by rw [lineT_cons, lineT_cons, h p (by simp), lineT_ext fun q hq => h q (by simp [hq])]
theorem lineT_none {T : Nat → List UInt8} : ∀ {sg : List (Nat × Nat)}, (∀ p ∈ sg, T p.1 = []) → lineT sg T = List.replicate (sg.map (·.2)).sum 60
  | [], _ => rfl
  | p :: r, h => by rw [lineT_cons, h p (by simp), padT_nil, lineT_none fun q hq => h q (by simp [hq])]; simp
theorem splice_mid {α : Type} {a b c x : List α} (h : x.length ≤ b.length) : splice (a ++ (b ++ c)) a.length x = a ++ (x ++ b.drop x.length ++ c) := by
  unfold splice
  rw [List.take_left', ← List.drop_drop, List.drop_left', List.drop_append_of_le_length h, List.append_assoc]
  · rfl
  · rfl
theorem lineT_put {a b : List (Nat × Nat)} {k n : Nat} {T : Nat → List UInt8} {x : List UInt8} (ha : ∀ p ∈ a, p.1 ≠ k) (hb : ∀ p ∈ b, p.1 ≠ k) (hT : T k = []) :
    splice (lineT (a ++ (k, n) :: b) T) (a.map (·.2)).sum (x.take n) = lineT (a ++ (k, n) :: b) (updT T k x) := by
  have e1 : lineT a (updT T k x) = lineT a T := lineT_ext fun p hp => by unfold updT; rw [if_neg (ha p hp)]
  have e2 : lineT b (updT T k x) = lineT b T := lineT_ext fun p hp => by unfold updT; rw [if_neg (hb p hp)]
  have e3 : updT T k x k = x := by unfold updT; rw [if_pos rfl]
  rw [lineT_app, lineT_app, lineT_cons, lineT_cons, e1, e2, e3]
  show splice (lineT a T ++ (padT n (T k) ++ lineT b T)) _ _ = _ ++ (padT n x ++ _)
  rw [hT, padT_nil, ← lineT_len T a, splice_mid (by simp; omega), List.drop_replicate, List.length_take, show n - min n x.length = n - x.length by omega]
  rfl
/-- where a field stands in the lines of its format -/
def chkF (f : Int) (k : Nat) : Bool :=
  let p := plc f k
  (List.range (cntN f)).all (fun i => decide (i = p.1 ∧ p.2.2 - p.2.1 ≠ 0) || (segs f i).all (fun s => s.1 != k)) &&
  (decide (p.2.2 - p.2.1 = 0) || (List.range (segs f p.1).length).any fun j => decide ((segs f p.1)[j]? = some (k, p.2.2 - p.2.1)) && decide ((((segs f p.1).take j).map (·.2)).sum = p.2.1) && ((segs f p.1).take j).all (fun s => s.1 != k) && ((segs f p.1).drop (j + 1)).all (fun s => s.1 != k))
theorem chk_all {f : Int} (h : 1 ≤ f ∧ f ≤ 3) {k : Nat} (hk : k < 15) : chkF f k = true := by
  have h : f = 1 ∨ f = 2 ∨ f = 3 := by omega
  have key : ∀ k, k < 15 → chkF 1 k = true ∧ chkF 2 k = true ∧ chkF 3 k = true := by decide
  rcases h with rfl | rfl | rfl
  · exact (key k hk).1
  · exact (key k hk).2.1
  · exact (key k hk).2.2
theorem other_line {f : Int} (h : 1 ≤ f ∧ f ≤ 3) {k i : Nat} (hk : k < 15) (hi : i < cntN f) (hne : i ≠ (plc f k).1 ∨ (plc f k).2.2 - (plc f k).2.1 = 0) (T : Nat → List UInt8) (x : List UInt8) : lineT (segs f i) (updT T k x) = lineT (segs f i) T := by
  have hc := chk_all h hk
  unfold chkF at hc
  simp only [Bool.and_eq_true] at hc
  have h1 := hc.1
  rw [List.all_eq_true] at h1
  have h2 := h1 i (List.mem_range.2 hi)
  simp only [Bool.or_eq_true, decide_eq_true_eq] at h2
  rcases h2 with ⟨e1, e2⟩ | h2
  · rcases hne with hne | hne
    · exact absurd e1 hne
    · exact absurd hne e2
  · rw [List.all_eq_true] at h2
    exact lineT_ext fun p hp => by unfold updT; rw [if_neg (by simpa using h2 p hp)]
theorem cnt3 (f : Int) : cntN f ≤ 3 := by unfold cntN; repeat (first | omega | split)
theorem put_line {f : Int} (h : 1 ≤ f ∧ f ≤ 3) {k : Nat} (hk : k < 15) (T : Nat → List UInt8) (x : List UInt8) (hT : T k = []) :
    splice (lineT (segs f (plc f k).1) T) (plc f k).2.1 (x.take ((plc f k).2.2 - (plc f k).2.1)) = lineT (segs f (plc f k).1) (updT T k x) := by
  by_cases h0 : (plc f k).2.2 - (plc f k).2.1 = 0
  · have hc := chk_all h hk
    unfold chkF at hc
    simp only [Bool.and_eq_true] at hc
    have h3 : (plc f k).1 < cntN f := (plc_ok h hk).1
    rw [other_line h hk h3 (.inr h0), h0]
    simp [splice]
  · have hc := chk_all h hk
    unfold chkF at hc
    simp only [Bool.and_eq_true, Bool.or_eq_true, decide_eq_true_eq] at hc
    have h1 := hc.2.resolve_left h0
    rw [List.any_eq_true] at h1
    obtain ⟨j, hj, h2⟩ := h1
    simp only [Bool.and_eq_true, decide_eq_true_eq, List.all_eq_true] at h2
    obtain ⟨⟨⟨e1, e2⟩, h3⟩, h4⟩ := h2
    have hlt := List.mem_range.1 hj
    have e : segs f (plc f k).1 = (segs f (plc f k).1).take j ++ (k, (plc f k).2.2 - (plc f k).2.1) :: (segs f (plc f k).1).drop (j + 1) := by
      rw [List.getElem?_eq_getElem hlt] at e1
      injection e1 with e1
      rw [← e1, List.getElem_cons_drop, List.take_append_drop]
    rw [e, ← e2]
    exact lineT_put (fun p hp => by simpa using h3 p hp) (fun p hp => by simpa using h4 p hp) hT
theorem seg_sum {f : Int} (h : 1 ≤ f ∧ f ≤ 3) {i : Nat} (hi : i < cntN f) : ((segs f i).map (·.2)).sum = widN f := by
  have h : f = 1 ∨ f = 2 ∨ f = 3 := by omega
  have c1 : cntN 1 = 3 := rfl
  have c2 : cntN 2 = 2 := rfl
  have c3 : cntN 3 = 2 := rfl
  rcases h with rfl | rfl | rfl
  · rw [c1] at hi
    have : i = 0 ∨ i = 1 ∨ i = 2 := by omega
    rcases this with rfl | rfl | rfl <;> rfl
  · rw [c2] at hi
    have : i = 0 ∨ i = 1 := by omega
    rcases this with rfl | rfl <;> rfl
  · rw [c3] at hi
    have : i = 0 ∨ i = 1 := by omega
    rcases this with rfl | rfl <;> rfl
theorem seg_key {f : Int} (h : 1 ≤ f ∧ f ≤ 3) {i : Nat} (hi : i < 3) : ∀ p ∈ segs f i, p.1 < 15 := by
  have h : f = 1 ∨ f = 2 ∨ f = 3 := by omega
  have : i = 0 ∨ i = 1 ∨ i = 2 := by omega
  rcases h with rfl | rfl | rfl <;> rcases this with rfl | rfl | rfl <;> decide
/-- a line while it is put together: lf says which fields are still to come -/
def rowF (f : Int) (T : Nat → List UInt8) (lf : Nat → Bool) (i : Nat) : List UInt8 := lineT (segs f i) fun k => if lf k then [] else T k
theorem rowF_len {f : Int} (h : 1 ≤ f ∧ f ≤ 3) (T : Nat → List UInt8) (lf : Nat → Bool) {i : Nat} (hi : i < cntN f) : (rowF f T lf i).length = widN f := by unfold rowF; rw [lineT_len, seg_sum h hi]
theorem rowF_start {f : Int} (h : 1 ≤ f ∧ f ≤ 3) (T : Nat → List UInt8) (lf : Nat → Bool) (hl : ∀ k, k < 15 → lf k = false → T k = []) {i : Nat} (hi : i < cntN f) : rowF f T lf i = List.replicate (widN f) 60 := by
  unfold rowF
  rw [lineT_none, seg_sum h hi]
  intro p hp
  have := seg_key h (by have := cnt3 f; omega) p hp
  show (if lf p.1 then [] else T p.1) = []
  rcases hq : lf p.1 with _ | _
  · rw [if_neg (by simp)]; exact hl _ this hq
  · rw [if_pos rfl]
theorem lf_upd (T : Nat → List UInt8) (lf : Nat → Bool) {k : Nat} (hk : lf k = true) : (fun j => if (lf j && !(j == k)) then [] else T j) = updT (fun j => if lf j then [] else T j) k (T k) := by
  funext j
  unfold updT
  by_cases e : j = k
  · subst e; simp
  · simp [e]
theorem rowF_put {f : Int} (h : 1 ≤ f ∧ f ≤ 3) (T : Nat → List UInt8) (lf : Nat → Bool) {k : Nat} (hk : k < 15) (hl : lf k = true) :
    splice (rowF f T lf (plc f k).1) (plc f k).2.1 ((T k).take ((plc f k).2.2 - (plc f k).2.1)) = rowF f T (fun j => lf j && !(j == k)) (plc f k).1 := by
  unfold rowF
  rw [lf_upd T lf hl]
  exact put_line h hk _ _ (by show (if lf k then [] else T k) = []; rw [if_pos hl])
theorem rowF_other {f : Int} (h : 1 ≤ f ∧ f ≤ 3) (T : Nat → List UInt8) (lf : Nat → Bool) {k i : Nat} (hk : k < 15) (hi : i < cntN f) (hl : lf k = true) (hne : i ≠ (plc f k).1) : rowF f T (fun j => lf j && !(j == k)) i = rowF f T lf i := by
  unfold rowF
  rw [lf_upd T lf hl]
  exact other_line h hk hi (.inl hne) _ _
theorem rowF_end {f : Int} (h : 1 ≤ f ∧ f ≤ 3) (T : Nat → List UInt8) (lf : Nat → Bool) (hl : ∀ k, k < 15 → lf k = false) {i : Nat} (hi : i < 3) : rowF f T lf i = lineT (segs f i) T := by
  unfold rowF
  exact lineT_ext fun p hp => by
    have := seg_key h hi p hp
    show (if lf p.1 then [] else T p.1) = _
    rw [hl _ this, if_neg (by simp)]

/-! ## rows of the call's own -/
def rowsL (gi : Nat → Nat) (R : Nat → List UInt8) (ex : Nat → List Value) (n : Nat) : List (Nat × List Value) := (List.range n).map fun i => (gi i, Us (R i) ++ ex i)
def atN {α : Type} (f : Nat → α) (n : Nat) (x : α) : Nat → α := fun i => if i = n then x else f i
section
variable {gi : Nat → Nat} {R R' : Nat → List UInt8} {ex : Nat → List Value} {n j : Nat} {A : List (Nat × List Value)}
theorem rowsL_len : (rowsL gi R ex n).length = n := by simp [rowsL]
theorem rowsL_get (hj : j < n) : (rowsL gi R ex n)[j]? = some (gi j, Us (R j) ++ ex j) := by unfold rowsL; rw [List.getElem?_map, List.getElem?_range hj]; rfl
theorem rowsL_at (hj : j < n) : (A ++ rowsL gi R ex n)[A.length + j]? = some (gi j, Us (R j) ++ ex j) := by
  rw [List.getElem?_append_right (by omega), show A.length + j - A.length = j by omega, rowsL_get hj]
theorem rowsL_congr (h : ∀ i, i < n → R i = R' i) : rowsL gi R ex n = rowsL gi R' ex n := by
  unfold rowsL
  apply List.map_congr_left
  intro i hi
  rw [h i (List.mem_range.1 hi)]
theorem rowsL_set (hj : j < n) (h : ∀ i, i < n → i ≠ j → R' i = R i) : (A ++ rowsL gi R ex n).set (A.length + j) (gi j, Us (R' j) ++ ex j) = A ++ rowsL gi R' ex n := by
  rw [List.set_append_right _ _ (by omega), show A.length + j - A.length = j by omega]
  congr 1
  apply List.ext_getElem?
  intro i
  by_cases e : i = j
  · subst e
    rw [List.getElem?_set_self (by rw [rowsL_len]; exact hj), rowsL_get hj]
  · rw [List.getElem?_set_ne (Ne.symm e)]
    by_cases hi : i < n
    · rw [rowsL_get hi, rowsL_get hi, h i hi e]
    · rw [List.getElem?_eq_none (by rw [rowsL_len]; omega), List.getElem?_eq_none (by rw [rowsL_len]; omega)]
theorem rowsL_add (g : Nat) (r : List UInt8) (e : List Value) : A ++ rowsL gi R ex n ++ [(g, Us r ++ e)] = A ++ rowsL (atN gi n g) (atN R n r) (atN ex n e) (n + 1) := by
  rw [List.append_assoc]
  congr 1
  unfold rowsL
  rw [List.range_succ, List.map_append]
  congr 1
  · apply List.map_congr_left
    intro i hi
    have : i ≠ n := by have := List.mem_range.1 hi; omega
    simp [atN, this]
  · simp [atN]
end
theorem Own.drop {w cur : World} {A B : List (Nat × List Value)} {x : Nat × List Value} (h : Own w cur (A ++ x :: B)) : Own w cur (A ++ B) := by
  have key : ∀ (i : Nat) (p : Nat × List Value), (A ++ B)[i]? = some p → (A ++ x :: B)[if i < A.length then i else i + 1]? = some p := by
    intro i p e
    split
    · rename_i hi
      rw [List.getElem?_append_left hi] at e ⊢
      exact e
    · rename_i hi
      rw [List.getElem?_append_right (by omega)] at e ⊢
      rw [show i + 1 - A.length = (i - A.length) + 1 by omega, List.getElem?_cons_succ]
      exact e
  exact ⟨h.1, fun i g vs e => h.2.1 _ g vs (key i _ e), fun i j g g' vs vs' e1 e2 hne => h.2.2 _ _ _ _ _ _ (key i _ e1) (key j _ e2) (by split <;> split <;> omega)⟩
theorem splice_Us {r x : List UInt8} {e : List Value} {o : Nat} (h : o + x.length ≤ r.length) : splice (Us r ++ e) o (Us x) = Us (splice r o x) ++ e := by
  have hl : (Us r).length = r.length := Us_length r
  have hx : (Us x).length = x.length := Us_length x
  unfold splice
  rw [List.take_append_of_le_length (by omega), List.drop_append_of_le_length (by omega), hx]
  simp [Us, List.map_append, List.map_take, List.map_drop]
/-- the slices of rows that have been made -/
def slV (gi : Nat → Nat) (wd n cnt : Nat) : List Value := (List.range cnt).map fun i => if i < n then .slice (some ⟨gi i, 0, none⟩) wd wd else .slice none 0 0
theorem slV_len (gi : Nat → Nat) (wd n cnt : Nat) : (slV gi wd n cnt).length = cnt := by simp [slV]
theorem slV_get {gi : Nat → Nat} {wd n cnt j : Nat} (hj : j < n) (hn : n ≤ cnt) : (slV gi wd n cnt)[j]? = some (.slice (some ⟨gi j, 0, none⟩) wd wd) := by
  unfold slV
  rw [List.getElem?_map, List.getElem?_range (by omega)]
  show some (if j < n then _ else _) = _
  rw [if_pos hj]
theorem slV_set {gi : Nat → Nat} {wd n cnt g : Nat} (hn : n < cnt) : (slV gi wd n cnt).set n (.slice (some ⟨g, 0, none⟩) wd wd) = slV (atN gi n g) wd (n + 1) cnt := by
  apply List.ext_getElem?
  intro i
  by_cases e : i = n
  · subst e
    rw [List.getElem?_set_self (by rw [slV_len]; exact hn), slV_get (by omega) (by omega)]
    simp [atN]
  · rw [List.getElem?_set_ne (Ne.symm e)]
    unfold slV
    rw [List.getElem?_map, List.getElem?_map]
    rcases h : (List.range cnt)[i]? with _ | x
    · rfl
    · have hx : x = i := by
        have := List.getElem?_eq_some_iff.1 h
        obtain ⟨h1, h2⟩ := this
        rw [List.getElem_range] at h2
        exact h2.symm
      subst hx
      simp only [Option.map_some, atN, if_neg e]
      by_cases h3 : x < n
      · rw [if_pos h3, if_pos (by omega)]
      · rw [if_neg h3, if_neg (by omega)]
theorem slV_zero (gi : Nat → Nat) (wd cnt : Nat) : slV gi wd 0 cnt = List.replicate cnt (.slice none 0 0) := by
  unfold slV
  apply List.ext_getElem?
  intro i
  rw [List.getElem?_map, List.getElem?_replicate]
  by_cases h : i < cnt
  · rw [List.getElem?_range h, if_pos h]; simp
  · rw [List.getElem?_eq_none (by simpa using h), if_neg h]; rfl
/-! ## rows, and a map that is gone through -/
def OwnR (w cur : World) (L : List (Nat × List Value)) (mb r n : Nat) (T : Nat → List UInt8) (lf : Nat → Bool) (cnt : Nat) : Prop :=
  Own w cur L ∧ RangeIs cur mb r n T lf cnt ∧ mb < w.heap.size ∧ w.heap.size ≤ r ∧ ∀ (i g : Nat) (vs : List Value), L[i]? = some (g, vs) → g ≠ r
section
open Go.Maps
variable {w cur cur' : World} {L : List (Nat × List Value)} {mb r n g i cnt : Nat} {T : Nat → List UInt8} {lf : Nat → Bool} {vs us : List Value}
theorem OwnR.bl (h : OwnR w cur L mb r n T lf cnt) : Below w.heap.size w cur := h.1.1
theorem OwnR.start (h : Own w cur L) (hb : Below cur.heap.size cur cur') (hr : RangeIs cur' mb cur.heap.size n T lf cnt) (hm : mb < w.heap.size) : OwnR w cur' L mb cur.heap.size n T lf cnt :=
  ⟨h.on hb, hr, hm, h.1.size, fun i g vs e => by have := (h.row e).lt; omega⟩
theorem OwnR.on (h : OwnR w cur L mb r n T lf cnt) (hb : Below cur.heap.size cur cur') : OwnR w cur' L mb r n T lf cnt := ⟨h.1.on hb, h.2.1.on hb, h.2.2⟩
theorem OwnR.new (h : OwnR w cur L mb r n T lf cnt) (hf : Fresh cur cur' g) (hr : RowV cur' g vs) : OwnR w cur' (L ++ [(g, vs)]) mb r n T lf cnt := by
  refine ⟨h.1.new hf hr, h.2.1.on hf.bw, h.2.2.1, h.2.2.2.1, fun i g' vs' e => ?_⟩
  rw [List.getElem?_append] at e
  split at e
  · exact h.2.2.2.2 i g' vs' e
  · have e' : g' = g := by
      rcases hk : i - L.length with _ | k
      · rw [hk] at e; simp at e; exact e.1.symm
      · rw [hk] at e; simp at e
    have := (h.2.1.map trivial).2.1
    rw [e', hf.1]; omega
theorem OwnR.set (h : OwnR w cur L mb r n T lf cnt) (e : L[i]? = some (g, vs)) (hw : Wr cur cur' g) (hr : RowV cur' g us) : OwnR w cur' (L.set i (g, us)) mb r n T lf cnt := by
  have hne := h.2.2.2.2 i g vs e
  have hge := h.1.ge e
  have hmb := h.2.2.1
  refine ⟨h.1.set e hw hr, h.2.1.kept (wr_grown hw) (by simp; omega) (by simpa using Ne.symm hne), h.2.2.1, h.2.2.2.1, fun j g' vs' hj => ?_⟩
  by_cases hji : j = i
  · subst hji
    rw [List.getElem?_set_self (List.getElem?_eq_some_iff.1 e).1] at hj
    injection hj with hj
    injection hj with h1 _
    rw [← h1]; exact hne
  · rw [List.getElem?_set_ne (Ne.symm hji)] at hj
    exact h.2.2.2.2 j g' vs' hj
theorem OwnR.next {cnt' : Nat} {lf' : Nat → Bool} (h : OwnR w cur L mb r n T lf cnt) (hr : RangeIs cur' mb r n T lf' cnt') (hg : cur.grownBy cur' (some r)) : OwnR w cur' L mb r n T lf' cnt' :=
  ⟨h.1.far hg (fun r' hr' => by injection hr' with hr'; rw [← hr']; exact h.2.2.2.1) (fun i g vs e he => h.2.2.2.2 i g vs e (by injection he with he; exact he.symm)), hr, h.2.2⟩
theorem OwnR.drop {A B : List (Nat × List Value)} {x : Nat × List Value} (h : OwnR w cur (A ++ x :: B) mb r n T lf cnt) : OwnR w cur (A ++ B) mb r n T lf cnt := by
  refine ⟨h.1.drop, h.2.1, h.2.2.1, h.2.2.2.1, fun i g vs e => ?_⟩
  have key : (A ++ x :: B)[if i < A.length then i else i + 1]? = some (g, vs) := by
    split
    · rename_i hi
      rw [List.getElem?_append_left hi] at e ⊢
      exact e
    · rename_i hi
      rw [List.getElem?_append_right (by omega)] at e ⊢
      rw [show i + 1 - A.length = (i - A.length) + 1 by omega, List.getElem?_cons_succ]
      exact e
  exact h.2.2.2.2 _ g vs key
end
end Go.Proofs.YtibahbkjjfmbgaaGreatDoor
namespace Go.Proofs.YtibahbkjjfmbgaaGreatDoor
open Go.RowKit
set_option linter.unusedVariables false

theorem Own.add {w cur cur' : World} {L : List (Nat × List Value)} {g : Nat} {vs : List Value} (h : Own w cur L) (hb : Below cur.heap.size cur cur') (hr : RowV cur' g vs) (hg : cur.heap.size ≤ g) : Own w cur' (L ++ [(g, vs)]) := by
  have hlt : ∀ (i g' : Nat) (vs' : List Value), L[i]? = some (g', vs') → g' ≠ g := fun i g' vs' e => by have := (h.row e).lt; omega
  refine ⟨below_on h.1 hb, fun i g' vs' e => ?_, fun i j g1 g2 v1 v2 e1 e2 hne => ?_⟩
  · rw [List.getElem?_append] at e
    split at e
    · exact ⟨h.ge e, (h.row e).on hb⟩
    · have e' : g' = g ∧ vs' = vs := by
        rcases hk : i - L.length with _ | k
        · rw [hk] at e; simp at e; exact ⟨e.1.symm, e.2.symm⟩
        · rw [hk] at e; simp at e
      obtain ⟨rfl, rfl⟩ := e'
      exact ⟨Nat.le_trans h.1.size hg, hr⟩
  · rw [List.getElem?_append] at e1 e2
    have key : ∀ (k : Nat) (x : Nat) (y : List Value), [(g, vs)][k]? = some (x, y) → k = 0 ∧ x = g := by
      intro k x y e
      rcases k with _ | k
      · simp at e; exact ⟨rfl, e.1.symm⟩
      · simp at e
    split at e1 <;> split at e2
    · exact h.2.2 i j g1 g2 v1 v2 e1 e2 hne
    · obtain ⟨_, rfl⟩ := key _ _ _ e2; exact hlt i g1 v1 e1
    · obtain ⟨_, rfl⟩ := key _ _ _ e1; exact (hlt j g2 v2 e2).symm
    · have := (key _ _ _ e1).1; have := (key _ _ _ e2).1; omega
theorem digits_one : ∀ (n t : Nat) (acc : Array Value), (∀ u ∈ acc.toList, u.oneCell' = true) → ∀ u ∈ (Extern.BytealgMakeNoZero.digits n t acc).toList, u.oneCell' = true
  | 0, t, acc, h => by simpa [Extern.BytealgMakeNoZero.digits] using h
  | n + 1, t, acc, h => by
    rw [Extern.BytealgMakeNoZero.digits]
    apply digits_one n
    intro u hu
    rw [Array.toList_push] at hu
    rcases List.mem_append.1 hu with hu | hu
    · exact h u hu
    · simp at hu; rw [hu]; rfl
/-- MakeNoZero: a new row of whatever bytes -/
theorem mnz (n : Nat) (hn : n ≤ 64) (w : World) : ∃ (cs : List Value) (w' : World), (callFunc 178 #[.int .i64 (n : Int)]).run Tryz.prog w = .ok (.value (.slice (some ⟨w.heap.size, 0, none⟩) n cs.length)) w' ∧ RowV w' w.heap.size cs ∧ n ≤ cs.length ∧ Below w.heap.size w w' := by
  obtain ⟨cs, hrun, hle, hmax⟩ := Lib.run_makeNoZero (P := Tryz.prog) w #[3] 59 5 Tryz.underlying59 n (by omega)
  refine ⟨cs.toList, w.drew.drew.alloc (.cells cs 5), ?_, ?_, by simpa using hle, ?_⟩
  · rw [run_callFunc_extern Tryz.func178 (by kernel_rfl) (by kernel_rfl) (by kernel_rfl) (e := Extern.BytealgMakeNoZero.makeNoZero #[3] #[59]) (by kernel_rfl), hrun]
    simp [Result.andThen]
  · exact RowV.new (w := w.drew.drew) (c := cs) rfl
  · exact ((below_drewN w.heap.size w 2).alloc (Nat.le_refl _) _)
theorem at_call_ {P : Program} {ops : Array Oper} {rest : List Oper} {a : Act} {w : World} {Q : Exit → Act → World → Prop} {d : Nat} {x : Call} {t : TypeId} {ps : String} {af : Array Edge} {gd : Option (Nat × Bool)} (h : wpList P ops Q (⟨some d, .call x, t, ps, af, gd⟩ :: rest) a w) : wpList P ops Q (⟨some d, .call x, t, ps, af, gd⟩ :: rest) a w := h
theorem wpList_mnz {ops : Array Oper} {rest : List Oper} {op : Oper} {a : Act} {w : World} {Q : Exit → Act → World → Prop} (hgd : op.guard = none) (x : Operand) (tys : Array TypeId) (ho : op.op = .call { callee := .value (.func 178), args := #[x], argTypes := tys }) (n : Nat) (hn : n ≤ 64) (hx : a.eval x = .int .i64 (n : Int))
    (hK : ∀ g cs w', w.heap.size ≤ g → RowV w' g cs → n ≤ cs.length → Below w.heap.size w w' → wpList Tryz.prog ops Q rest (a.put op.dst (.slice (some ⟨g, 0, none⟩) n cs.length)) w') : wpList Tryz.prog ops Q (op :: rest) a w := by
  refine wpList_plain hgd fun K hK2 => ?_
  obtain ⟨cs, w', hr, h1, h2, h3⟩ := mnz n hn w
  unfold Oper.wp
  have he : a.eval (.func 178) = Value.func (.func 178) #[] #[] := rfl
  simp [execOp, ho, resolve, invoke, hx, he, hr, Deferred.ofValue]
  exact hK2 _ _ (hK _ cs w' (Nat.le_refl _) h1 h2 h3)
theorem wpList_copy_v {P : Program} {w : World} {ops : Array Oper} {rest : List Oper} {o : Oper} {a : Act} {Q : Exit → Act → World → Prop} (hgd : o.guard = none) (d s : Operand) (dT sT : TypeId)
    (ho : o.op = .call { callee := .builtin .copy, args := #[d, s], argTypes := #[dT, sT] }) (elem : TypeId) (hu : P.underlying dT = some (.slice elem)) (hsz : (P.info? elem).map (·.size) = some 1)
    (g off dLen dCap : Nat) (ad : Addr) (sLen sCap : Nat) (hd : a.eval d = .slice (some ⟨g, off, none⟩) dLen dCap) (hs : a.eval s = .slice (some ad) sLen sCap)
    (vs : List Value) (hr : RowV w g vs) (cs : List Value) (hn : cs.length = Nat.min sLen dLen) (hsrc : ∀ j v, cs[j]? = some v → w.cell? (ad.add j) = some v) (hfit : off + cs.length ≤ vs.length) (h1 : ∀ v ∈ cs, v.oneCell' = true)
    (h : ∀ w', Wr w w' g → RowV w' g (splice vs off cs) → wpList P ops Q rest (a.put o.dst (goInt cs.length)) w') : wpList P ops Q (o :: rest) a w := by
  obtain ⟨ty, hg⟩ := hr
  refine wpList_copy_own hgd d s dT sT ho elem hu hsz g off dLen dCap ad sLen sCap hd hs _ ty hg cs hn hsrc (by simpa using hfit) h1 ?_
  exact h _ (Wr.row _ _ _) ⟨ty, by rw [setRow_heap w g _ _ ty _ hg]; simp [splice]⟩
theorem splice_get {α : Type} {vs cs : List α} {off j : Nat} (hf : off + cs.length ≤ vs.length) : (splice vs off cs)[j]? = if j < off then vs[j]? else if j < off + cs.length then cs[j - off]? else vs[j]? := by
  unfold splice
  rw [List.getElem?_append]
  have e1 : (vs.take off).length = off := by rw [List.length_take]; omega
  rw [e1]
  split
  · rename_i h; rw [List.getElem?_take, if_pos h]
  · rename_i h
    rw [List.getElem?_append]
    split
    · rename_i h2; rw [if_pos (by omega)]
    · rename_i h2; rw [if_neg (by omega), List.getElem?_drop]; congr 1; omega
/-- the first m cells are fillers -/
def FillR (vs : List Value) (m : Nat) : Prop := ∀ j, j < m → vs[j]? = some (U 60)
theorem FillR.grow {vs : List Value} {m k : Nat} (h : FillR vs m) (hf : m + k ≤ vs.length) : FillR (splice vs m (List.replicate k (U 60))) (m + k) := by
  intro j hj
  rw [splice_get (by rw [List.length_replicate]; exact hf), List.length_replicate]
  split
  · rename_i h1; exact h j h1
  · rename_i h1; rw [List.getElem?_replicate, if_pos (by omega)]
theorem sl_from (g m n : Nat) (hm : m < n) (hn : n ≤ 64) (w : World) : (Instr.sliceAt 59 (.slice (some ⟨g, 0, none⟩) n n) (some (.int .i64 (m : Int))) none none).run Tryz.prog w = .ok (.slice (some ⟨g, m, none⟩) (n - m) (n - m)) w := by
  have h1 : n ≠ m := by omega
  have h2 : (m : Int) ≤ (n : Int) := by omega
  simp [go_sem, Addr.add, h1, h2]
  intro h; exact h.symm
theorem sl_to (g m n : Nat) (hm : m ≤ n) (hn : n ≤ 64) (w : World) : (Instr.sliceAt 59 (.slice (some ⟨g, 0, none⟩) n n) none (some (.int .i64 (m : Int))) none).run Tryz.prog w = .ok (.slice (some ⟨g, 0, none⟩) m n) w := by
  have h2 : (m : Int) ≤ (n : Int) := by omega
  simp [go_sem, Addr.add, h2]
end Go.Proofs.YtibahbkjjfmbgaaGreatDoor
namespace Go.Proofs.YtibahbkjjfmbgaaGreatDoor
open Go.RowKit Go.Maps
set_option linter.unusedVariables false

theorem lay_cnt {f : Int} (h : 1 ≤ f ∧ f ≤ 3) : (layV f)[1]? = some (.int .i64 ((cntN f : Nat) : Int)) ∧ (layV f)[2]? = some (.int .i64 ((widN f : Nat) : Int)) := by
  have h : f = 1 ∨ f = 2 ∨ f = 3 := by omega
  rcases h with rfl | rfl | rfl <;> exact ⟨rfl, rfl⟩
theorem mk_rows2 (w : World) : (Instr.makeSlice 134 (.int .i64 2) (.int .i64 2)).run Tryz.prog w = .ok (.slice (some ⟨w.heap.size, 0, none⟩) 2 2) (w.alloc (.cells (List.replicate 2 (Value.slice none 0 0)).toArray 59)) := by kernel_rfl
theorem mk_rows3 (w : World) : (Instr.makeSlice 134 (.int .i64 3) (.int .i64 3)).run Tryz.prog w = .ok (.slice (some ⟨w.heap.size, 0, none⟩) 3 3) (w.alloc (.cells (List.replicate 3 (Value.slice none 0 0)).toArray 59)) := by kernel_rfl
theorem mk_rows (n : Nat) (hn : n = 2 ∨ n = 3) (w : World) : (Instr.makeSlice 134 (.int .i64 (n : Int)) (.int .i64 (n : Int))).run Tryz.prog w = .ok (.slice (some ⟨w.heap.size, 0, none⟩) n n) (w.alloc (.cells (List.replicate n (Value.slice none 0 0)).toArray 59)) := by
  rcases hn with rfl | rfl
  · exact mk_rows2 w
  · exact mk_rows3 w
theorem mk_strs2 (w : World) : (Instr.makeSlice 25 (.int .i64 2) (.int .i64 2)).run Tryz.prog w = .ok (.slice (some ⟨w.heap.size, 0, none⟩) 2 2) (w.alloc (.cells (List.replicate 2 (Value.string ⟨#[]⟩)).toArray 9)) := by kernel_rfl
theorem mk_strs3 (w : World) : (Instr.makeSlice 25 (.int .i64 3) (.int .i64 3)).run Tryz.prog w = .ok (.slice (some ⟨w.heap.size, 0, none⟩) 3 3) (w.alloc (.cells (List.replicate 3 (Value.string ⟨#[]⟩)).toArray 9)) := by kernel_rfl
theorem mk_strs (n : Nat) (hn : n = 2 ∨ n = 3) (w : World) : (Instr.makeSlice 25 (.int .i64 (n : Int)) (.int .i64 (n : Int))).run Tryz.prog w = .ok (.slice (some ⟨w.heap.size, 0, none⟩) n n) (w.alloc (.cells (List.replicate n (Value.string ⟨#[]⟩)).toArray 9)) := by
  rcases hn with rfl | rfl
  · exact mk_strs2 w
  · exact mk_strs3 w
theorem conv_lit (w : World) : (convert 59 59 (.slice (some ⟨w.heap.size, 0, none⟩) 1 1)).run Tryz.prog (w.alloc (.cells #[Value.int .u8 60] 5)) = .ok (.slice (some ⟨w.heap.size, 0, none⟩) 1 1) (w.alloc (.cells #[Value.int .u8 60] 5 (1, 2))) :=
  Lib.run_convert_bytes_const w 59 5 #[Value.int .u8 60] 1 1 Tryz.underlying59 Tryz.underlying5
theorem at_make_ {P : Program} {ops : Array Oper} {rest : List Oper} {a : Act} {w : World} {Q : Exit → Act → World → Prop} {d : Nat} {x y : Operand} {ty t : TypeId} {ps : String} {af : Array Edge} {gd : Option (Nat × Bool)} (h : wpList P ops Q (⟨some d, .makeSlice ty x y, t, ps, af, gd⟩ :: rest) a w) : wpList P ops Q (⟨some d, .makeSlice ty x y, t, ps, af, gd⟩ :: rest) a w := h
theorem cell_alloc1 (w : World) (u : Value) (t : TypeId) (fr : Nat × Nat) : (w.alloc (.cells #[u] t fr)).cell? ⟨w.heap.size, 0, none⟩ = some u := by
  have h : (w.alloc (.cells #[u] t fr)).heap[w.heap.size]? = some (.cells #[u] t fr) := by
    show (w.heap.push _)[w.heap.size]? = _
    simp
  unfold World.cell?
  rw [h]
  rfl
theorem size_sb : (Tryz.prog.info? 59).map (·.size) = some 1 := by kernel_rfl
theorem size_st : (Tryz.prog.info? 9).map (·.size) = some 1 := by kernel_rfl
theorem at_range_ {P : Program} {ops : Array Oper} {rest : List Oper} {a : Act} {w : World} {Q : Exit → Act → World → Prop} {d : Nat} {x : Operand} {ty t : TypeId} {ps : String} {af : Array Edge} {gd : Option (Nat × Bool)} (h : wpList P ops Q (⟨some d, .range ty x, t, ps, af, gd⟩ :: rest) a w) : wpList P ops Q (⟨some d, .range ty x, t, ps, af, gd⟩ :: rest) a w := h
theorem at_next_ {P : Program} {ops : Array Oper} {rest : List Oper} {a : Act} {w : World} {Q : Exit → Act → World → Prop} {d : Nat} {x : Operand} {b : Bool} {t : TypeId} {ps : String} {af : Array Edge} {gd : Option (Nat × Bool)} (h : wpList P ops Q (⟨some d, .next x b, t, ps, af, gd⟩ :: rest) a w) : wpList P ops Q (⟨some d, .next x b, t, ps, af, gd⟩ :: rest) a w := h
theorem last_get {α : Type} (L : List α) (x : α) : (L ++ [x])[L.length]? = some x := by simp
theorem last_set {α : Type} (L : List α) (x y : α) : (L ++ [x]).set L.length y = L ++ [y] := by simp
theorem pre_set {α : Type} {L : List α} {i : Nat} {x y z : α} (h : L[i]? = some x) : (L ++ [y]).set i z = L.set i z ++ [y] := by rw [List.set_append_left _ _ (List.getElem?_eq_some_iff.1 h).1]
theorem pre_get {α : Type} {L : List α} {i : Nat} {x y : α} (h : L[i]? = some x) : (L ++ [y])[i]? = some x := by rw [List.getElem?_append_left (List.getElem?_eq_some_iff.1 h).1]; exact h
theorem OwnR.pre {w cur : World} {L M : List (Nat × List Value)} {mb r n : Nat} {T : Nat → List UInt8} {lf : Nat → Bool} {cnt : Nat} (h : OwnR w cur (L ++ M) mb r n T lf cnt) : OwnR w cur L mb r n T lf cnt :=
  ⟨h.1.pre, h.2.1, h.2.2.1, h.2.2.2.1, fun i g vs e => h.2.2.2.2 i g vs (by rw [List.getElem?_append_left (List.getElem?_eq_some_iff.1 e).1]; exact e)⟩
theorem ix_rows (g n i : Nat) (hi : i < n) (w : World) : (Instr.indexAt 134 (.slice (some ⟨g, 0, none⟩) n n) (.int .i64 (i : Int))).run Tryz.prog w = .ok (.pointer (some ⟨g, i, none⟩)) w := by
  have h1 : (0 : Int) ≤ i := by omega
  have h2 : (i : Int) < n := by omega
  simp [go_sem, Addr.add, h1, h2]
  intro h; exact h.symm
theorem sl_row (g a b wd : Nat) (h1 : a ≤ b) (h2 : b ≤ wd) (h3 : a < wd) (hw : wd ≤ 64) (w : World) : (Instr.sliceAt 59 (.slice (some ⟨g, 0, none⟩) wd wd) (some (.int .i64 (a : Int))) (some (.int .i64 (b : Int))) none).run Tryz.prog w = .ok (.slice (some ⟨g, a, none⟩) (b - a) (wd - a)) w := by
  have e1 : (a : Int) ≤ (b : Int) := by omega
  have e2 : (b : Int) ≤ (wd : Int) := by omega
  have e3 : wd ≠ a := by omega
  simp [go_sem, Addr.add, e1, e2, e3]
  intro h; exact h.symm
theorem fa_plc0 (g : Nat) (w : World) : (Instr.fieldAt 84 (.pointer (some ⟨g, 0, none⟩)) 0).run Tryz.prog w = .ok (.pointer (some ⟨g, 0, none⟩)) w := by kernel_rfl
theorem fa_plc1 (g : Nat) (w : World) : (Instr.fieldAt 84 (.pointer (some ⟨g, 0, none⟩)) 1).run Tryz.prog w = .ok (.pointer (some ⟨g, 1, none⟩)) w := by kernel_rfl
theorem fa_plc2 (g : Nat) (w : World) : (Instr.fieldAt 84 (.pointer (some ⟨g, 0, none⟩)) 2).run Tryz.prog w = .ok (.pointer (some ⟨g, 2, none⟩)) w := by kernel_rfl
theorem plc_lt {f : Int} (h : 1 ≤ f ∧ f ≤ 3) {k : Nat} (hk : k < 15) : (plc f k).2.1 < widN f := by
  have h : f = 1 ∨ f = 2 ∨ f = 3 := by omega
  have key : ∀ k, k < 15 → (plc 1 k).2.1 < widN 1 ∧ (plc 2 k).2.1 < widN 2 ∧ (plc 3 k).2.1 < widN 3 := by decide
  rcases h with rfl | rfl | rfl
  · exact (key k hk).1
  · exact (key k hk).2.1
  · exact (key k hk).2.2
theorem RowV.sees {w : World} {g : Nat} {vs us : List Value} (h : RowV w g (vs ++ us)) : Sees w w.heap.size (some ⟨g, 0, none⟩) vs :=
  .inr ⟨g, 0, rfl, h.lt, fun j hj => by rw [Nat.zero_add, h.cell, List.getElem?_append_left hj]⟩
theorem RowV.sees0 {w : World} {g : Nat} {vs : List Value} (h : RowV w g vs) : Sees w w.heap.size (some ⟨g, 0, none⟩) vs :=
  .inr ⟨g, 0, rfl, h.lt, fun j hj => by rw [Nat.zero_add, h.cell]⟩
/-- the strings that have been laid -/
def svV (ls : List (List UInt8)) (j n : Nat) : List Value := (List.range n).map fun i => if i < j then .string (S (ls.getD i [])) else .string ⟨#[]⟩
theorem svV_len (ls : List (List UInt8)) (j n : Nat) : (svV ls j n).length = n := by simp [svV]
theorem svV_zero (ls : List (List UInt8)) (n : Nat) : svV ls 0 n = List.replicate n (.string ⟨#[]⟩) := by
  unfold svV
  apply List.ext_getElem?
  intro i
  rw [List.getElem?_map, List.getElem?_replicate]
  by_cases h : i < n
  · rw [List.getElem?_range h, if_pos h]; simp
  · rw [List.getElem?_eq_none (by simpa using h), if_neg h]; rfl
theorem svV_set {ls : List (List UInt8)} {j n : Nat} (hj : j < n) : (svV ls j n).set j (.string (S (ls.getD j []))) = svV ls (j + 1) n := by
  apply List.ext_getElem?
  intro i
  by_cases e : i = j
  · subst e
    rw [List.getElem?_set_self (by rw [svV_len]; exact hj)]
    unfold svV
    rw [List.getElem?_map, List.getElem?_range hj]
    simp
  · rw [List.getElem?_set_ne (Ne.symm e)]
    unfold svV
    rw [List.getElem?_map, List.getElem?_map]
    by_cases hi : i < n
    · rw [List.getElem?_range hi]
      simp only [Option.map_some]
      by_cases h3 : i < j
      · rw [if_pos h3, if_pos (by omega)]
      · rw [if_neg h3, if_neg (by omega)]
    · rw [List.getElem?_eq_none (by simpa using hi)]; rfl
theorem svV_all {ls : List (List UInt8)} {n : Nat} (h : ls.length = n) : svV ls n n = strV ls := by
  unfold svV strV
  apply List.ext_getElem?
  intro i
  rw [List.getElem?_map, List.getElem?_map]
  by_cases hi : i < n
  · rw [List.getElem?_range hi, List.getElem?_eq_getElem (by omega)]
    simp only [Option.map_some, if_pos hi, List.getD_eq_getElem?_getD, List.getElem?_eq_getElem (show i < ls.length by omega), Option.getD_some]
  · rw [List.getElem?_eq_none (by simpa using hi), List.getElem?_eq_none (by omega)]
    rfl
theorem linesT_len (f : Int) (T : Nat → List UInt8) : (linesT f T).length = cntN f := by simp [linesT]
theorem linesT_get (f : Int) (T : Nat → List UInt8) {j : Nat} (h : j < cntN f) : (linesT f T).getD j [] = lineT (segs f j) T := by
  unfold linesT
  rw [List.getD_eq_getElem?_getD, List.getElem?_map, List.getElem?_range h]
  rfl
theorem cell_lit (w : World) : (w.alloc (.cells #[Value.int .u8 60] 5 (1, 2))).cell? ⟨w.heap.size, 0, none⟩ = some (U 60) := cell_alloc1 w _ _ _
end Go.Proofs.YtibahbkjjfmbgaaGreatDoor
