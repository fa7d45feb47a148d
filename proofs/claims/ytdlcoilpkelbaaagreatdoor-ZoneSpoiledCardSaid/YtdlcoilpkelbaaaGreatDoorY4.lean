/-
  What is proved here: plain facts on lines that are put together field by field, in any order.
  And: bytes.Repeat of one filler, up to 64 of them.
  And: lines as the program writes them of the texts of their fields, whatever the order in which it goes through these.
-/
import Derived.Test.YtdlcoilpkelbaaaGreatDoorY3
import Derived.Test.YtdlcoilpkelbaaaGreatDoorShm
import Derived.Lib.MakeNoZero
import Derived.Lib.BufferWrite
import Derived.Deep.RegionLaw
import Derived.Test.YtdlcoilpkelbaaaGreatDoorOs
import Derived.Lib.SlBytesConst
namespace Go.Proofs.YtdlcoilpkelbaaaGreatDoor
open Go.RowKit
set_option linter.unusedVariables false

theorem padT_len (n : Nat) (x : List UInt8) : (padT n x).length = n := by unfold padT; rw [List.length_append, List.length_take, List.length_replicate]; omega
theorem padT_nil (n : Nat) : padT n [] = List.replicate n 60 := by simp [padT]
theorem padT_fit {n : Nat} {x : List UInt8} (h : x.length ≤ n) : padT n x = x ++ List.replicate (n - x.length) 60 := by unfold padT; rw [List.take_of_length_le h]
theorem padT_full {n : Nat} {x : List UInt8} (h : x.length = n) : padT n x = x := by rw [padT_fit (by omega), h]; simp
theorem lineT_cons (p : Nat × Nat) (r : List (Nat × Nat)) (T : Nat → List UInt8) : lineT (p :: r) T = padT p.2 (T p.1) ++ lineT r T := rfl
theorem lineT_app (a b : List (Nat × Nat)) (T : Nat → List UInt8) : lineT (a ++ b) T = lineT a T ++ lineT b T := by unfold lineT; rw [List.flatMap_append]
theorem lineT_len (T : Nat → List UInt8) : ∀ sg : List (Nat × Nat), (lineT sg T).length = (sg.map (·.2)).sum
  | [] => rfl
  | p :: r => by rw [lineT_cons, List.length_append, padT_len, lineT_len T r]; simp
theorem lineT_ext {T T' : Nat → List UInt8} : ∀ {sg : List (Nat × Nat)}, (∀ p ∈ sg, T p.1 = T' p.1) → lineT sg T = lineT sg T'
  | [], _ => rfl
  | p :: r, h => by rw [lineT_cons, lineT_cons, h p (by simp), lineT_ext fun q hq => h q (by simp [hq])]
theorem lineT_none {T : Nat → List UInt8} : ∀ {sg : List (Nat × Nat)}, (∀ p ∈ sg, T p.1 = []) → lineT sg T = List.replicate (sg.map (·.2)).sum 60
  | [], _ => rfl
  | p :: r, h => by rw [lineT_cons, h p (by simp), padT_nil, lineT_none fun q hq => h q (by simp [hq])]; simp
theorem splice_mid {α : Type} {a b c x : List α} (h : x.length ≤ b.length) : splice (a ++ (b ++ c)) a.length x = a ++ (x ++ b.drop x.length ++ c) := by
  unfold splice
  rw [List.take_left', ← List.drop_drop, List.drop_left', List.drop_append_of_le_length h, List.append_assoc]
  · rfl
  · rfl
theorem lineT_put {a b : List (Nat × Nat)} {k n : Nat} {T : Nat → List UInt8} {x : List UInt8} (ha : ∀ p ∈ a, p.1 ≠ k) (hb : ∀ p ∈ b, p.1 ≠ k) (hT : T k = []) :
    splice (lineT (a ++ (k, n) :: b) T) (a.map (·.2)).sum (x.take n) = lineT (a ++ (k, n) :: b) (updT T k x) := by
  have e1 : lineT a (updT T k x) = lineT a T := lineT_ext fun p hp => by unfold updT; rw [if_neg (ha p hp)]
  have e2 : lineT b (updT T k x) = lineT b T := lineT_ext fun p hp => by unfold updT; rw [if_neg (hb p hp)]
  have e3 : updT T k x k = x := by unfold updT; rw [if_pos rfl]
  rw [lineT_app, lineT_app, lineT_cons, lineT_cons, e1, e2, e3]
  show splice (lineT a T ++ (padT n (T k) ++ lineT b T)) _ _ = _ ++ (padT n x ++ _)
  rw [hT, padT_nil, ← lineT_len T a, splice_mid (by simp; omega), List.drop_replicate, List.length_take, show n - min n x.length = n - x.length by omega]
  rfl
/-- where a field stands in the lines of its format -/
def chkF (f : Int) (k : Nat) : Bool :=
  let p := plc f k
  (List.range (cntN f)).all (fun i => decide (i = p.1 ∧ p.2.2 - p.2.1 ≠ 0) || (segs f i).all (fun s => s.1 != k)) &&
  (decide (p.2.2 - p.2.1 = 0) || (List.range (segs f p.1).length).any fun j => decide ((segs f p.1)[j]? = some (k, p.2.2 - p.2.1)) && decide ((((segs f p.1).take j).map (·.2)).sum = p.2.1) && ((segs f p.1).take j).all (fun s => s.1 != k) && ((segs f p.1).drop (j + 1)).all (fun s => s.1 != k))
theorem chk_all {f : Int} (h : 1 ≤ f ∧ f ≤ 3) {k : Nat} (hk : k < 15) : chkF f k = true := by
  have h : f = 1 ∨ f = 2 ∨ f = 3 := by omega
  have key : ∀ k, k < 15 → chkF 1 k = true ∧ chkF 2 k = true ∧ chkF 3 k = true := by decide
  rcases h with rfl | rfl | rfl
  · exact (key k hk).1
  · exact (key k hk).2.1
  · exact (key k hk).2.2
theorem other_line {f : Int} (h : 1 ≤ f ∧ f ≤ 3) {k i : Nat} (hk : k < 15) (hi : i < cntN f) (hne : i ≠ (plc f k).1 ∨ (plc f k).2.2 - (plc f k).2.1 = 0) (T : Nat → List UInt8) (x : List UInt8) : lineT (segs f i) (updT T k x) = lineT (segs f i) T := by
  have hc := chk_all h hk
  unfold chkF at hc
  simp only [Bool.and_eq_true] at hc
  have h1 := hc.1
  rw [List.all_eq_true] at h1
  have h2 := h1 i (List.mem_range.2 hi)
  simp only [Bool.or_eq_true, decide_eq_true_eq] at h2
  rcases h2 with ⟨e1, e2⟩ | h2
  · rcases hne with hne | hne
    · exact absurd e1 hne
    · exact absurd hne e2
  · rw [List.all_eq_true] at h2
    exact lineT_ext fun p hp => by unfold updT; rw [if_neg (by simpa using h2 p hp)]
theorem cnt3 (f : Int) : cntN f ≤ 3 := by unfold cntN; repeat (first | omega | split)
theorem put_line {f : Int} (h : 1 ≤ f ∧ f ≤ 3) {k : Nat} (hk : k < 15) (T : Nat → List UInt8) (x : List UInt8) (hT : T k = []) :
    splice (lineT (segs f (plc f k).1) T) (plc f k).2.1 (x.take ((plc f k).2.2 - (plc f k).2.1)) = lineT (segs f (plc f k).1) (updT T k x) := by
  by_cases h0 : (plc f k).2.2 - (plc f k).2.1 = 0
  · have hc := chk_all h hk
    unfold chkF at hc
    simp only [Bool.and_eq_true] at hc
    have h3 : (plc f k).1 < cntN f := (plc_ok h hk).1
    rw [other_line h hk h3 (.inr h0), h0]
    simp [splice]
  · have hc := chk_all h hk
    unfold chkF at hc
    simp only [Bool.and_eq_true, Bool.or_eq_true, decide_eq_true_eq] at hc
    have h1 := hc.2.resolve_left h0
    rw [List.any_eq_true] at h1
    obtain ⟨j, hj, h2⟩ := h1
    simp only [Bool.and_eq_true, decide_eq_true_eq, List.all_eq_true] at h2
    obtain ⟨⟨⟨e1, e2⟩, h3⟩, h4⟩ := h2
    have hlt := List.mem_range.1 hj
    have e : segs f (plc f k).1 = (segs f (plc f k).1).take j ++ (k, (plc f k).2.2 - (plc f k).2.1) :: (segs f (plc f k).1).drop (j + 1) := by
      rw [List.getElem?_eq_getElem hlt] at e1
      injection e1 with e1
      rw [← e1, List.getElem_cons_drop, List.take_append_drop]
    rw [e, ← e2]
    exact lineT_put (fun p hp => by simpa using h3 p hp) (fun p hp => by simpa using h4 p hp) hT
theorem seg_sum {f : Int} (h : 1 ≤ f ∧ f ≤ 3) {i : Nat} (hi : i < cntN f) : ((segs f i).map (·.2)).sum = widN f := by
  have h : f = 1 ∨ f = 2 ∨ f = 3 := by omega
  have c1 : cntN 1 = 3 := rfl
  have c2 : cntN 2 = 2 := rfl
  have c3 : cntN 3 = 2 := rfl
  rcases h with rfl | rfl | rfl
  · rw [c1] at hi
    have : i = 0 ∨ i = 1 ∨ i = 2 := by omega
    rcases this with rfl | rfl | rfl <;> rfl
  · rw [c2] at hi
    have : i = 0 ∨ i = 1 := by omega
    rcases this with rfl | rfl <;> rfl
  · rw [c3] at hi
    have : i = 0 ∨ i = 1 := by omega
    rcases this with rfl | rfl <;> rfl
theorem seg_key {f : Int} (h : 1 ≤ f ∧ f ≤ 3) {i : Nat} (hi : i < 3) : ∀ p ∈ segs f i, p.1 < 15 := by
  have h : f = 1 ∨ f = 2 ∨ f = 3 := by omega
  have : i = 0 ∨ i = 1 ∨ i = 2 := by omega
  rcases h with rfl | rfl | rfl <;> rcases this with rfl | rfl | rfl <;> decide
/-- a line while it is put together: lf says which fields are still to come -/
def rowF (f : Int) (T : Nat → List UInt8) (lf : Nat → Bool) (i : Nat) : List UInt8 := lineT (segs f i) fun k => if lf k then [] else T k
theorem rowF_len {f : Int} (h : 1 ≤ f ∧ f ≤ 3) (T : Nat → List UInt8) (lf : Nat → Bool) {i : Nat} (hi : i < cntN f) : (rowF f T lf i).length = widN f := by unfold rowF; rw [lineT_len, seg_sum h hi]
theorem rowF_start {f : Int} (h : 1 ≤ f ∧ f ≤ 3) (T : Nat → List UInt8) (lf : Nat → Bool) (hl : ∀ k, k < 15 → lf k = false → T k = []) {i : Nat} (hi : i < cntN f) : rowF f T lf i = List.replicate (widN f) 60 := by
  unfold rowF
  rw [lineT_none, seg_sum h hi]
  intro p hp
  have := seg_key h (by have := cnt3 f; omega) p hp
  show (if lf p.1 then [] else T p.1) = []
  rcases hq : lf p.1 with _ | _
  · rw [if_neg (by simp)]; exact hl _ this hq
  · rw [if_pos rfl]
theorem lf_upd (T : Nat → List UInt8) (lf : Nat → Bool) {k : Nat} (hk : lf k = true) : (fun j => if (lf j && !(j == k)) then [] else T j) = updT (fun j => if lf j then [] else T j) k (T k) := by
  funext j
  unfold updT
  by_cases e : j = k
  · subst e; simp
  · simp [e]
theorem rowF_put {f : Int} (h : 1 ≤ f ∧ f ≤ 3) (T : Nat → List UInt8) (lf : Nat → Bool) {k : Nat} (hk : k < 15) (hl : lf k = true) :
    splice (rowF f T lf (plc f k).1) (plc f k).2.1 ((T k).take ((plc f k).2.2 - (plc f k).2.1)) = rowF f T (fun j => lf j && !(j == k)) (plc f k).1 := by
  unfold rowF
  rw [lf_upd T lf hl]
  exact put_line h hk _ _ (by show (if lf k then [] else T k) = []; rw [if_pos hl])
theorem rowF_other {f : Int} (h : 1 ≤ f ∧ f ≤ 3) (T : Nat → List UInt8) (lf : Nat → Bool) {k i : Nat} (hk : k < 15) (hi : i < cntN f) (hl : lf k = true) (hne : i ≠ (plc f k).1) : rowF f T (fun j => lf j && !(j == k)) i = rowF f T lf i := by
  unfold rowF
  rw [lf_upd T lf hl]
  exact other_line h hk hi (.inl hne) _ _
theorem rowF_end {f : Int} (h : 1 ≤ f ∧ f ≤ 3) (T : Nat → List UInt8) (lf : Nat → Bool) (hl : ∀ k, k < 15 → lf k = false) {i : Nat} (hi : i < 3) : rowF f T lf i = lineT (segs f i) T := by
  unfold rowF
  exact lineT_ext fun p hp => by
    have := seg_key h hi p hp
    show (if lf p.1 then [] else T p.1) = _
    rw [hl _ this, if_neg (by simp)]

/-! ## rows of the call's own -/
def rowsL (gi : Nat → Nat) (R : Nat → List UInt8) (ex : Nat → List Value) (n : Nat) : List (Nat × List Value) := (List.range n).map fun i => (gi i, Us (R i) ++ ex i)
def atN {α : Type} (f : Nat → α) (n : Nat) (x : α) : Nat → α := fun i => if i = n then x else f i
section
variable {gi : Nat → Nat} {R R' : Nat → List UInt8} {ex : Nat → List Value} {n j : Nat} {A : List (Nat × List Value)}
theorem rowsL_len : (rowsL gi R ex n).length = n := by simp [rowsL]
theorem rowsL_get (hj : j < n) : (rowsL gi R ex n)[j]? = some (gi j, Us (R j) ++ ex j) := by unfold rowsL; rw [List.getElem?_map, List.getElem?_range hj]; rfl
theorem rowsL_at (hj : j < n) : (A ++ rowsL gi R ex n)[A.length + j]? = some (gi j, Us (R j) ++ ex j) := by
  rw [List.getElem?_append_right (by omega), show A.length + j - A.length = j by omega, rowsL_get hj]
theorem rowsL_congr (h : ∀ i, i < n → R i = R' i) : rowsL gi R ex n = rowsL gi R' ex n := by
  unfold rowsL
  apply List.map_congr_left
  intro i hi
  rw [h i (List.mem_range.1 hi)]
theorem rowsL_set (hj : j < n) (h : ∀ i, i < n → i ≠ j → R' i = R i) : (A ++ rowsL gi R ex n).set (A.length + j) (gi j, Us (R' j) ++ ex j) = A ++ rowsL gi R' ex n := by
  rw [List.set_append_right _ _ (by omega), show A.length + j - A.length = j by omega]
  congr 1
  apply List.ext_getElem?
  intro i
  by_cases e : i = j
  · subst e
    rw [List.getElem?_set_self (by rw [rowsL_len]; exact hj), rowsL_get hj]
  · rw [List.getElem?_set_ne (Ne.symm e)]
    by_cases hi : i < n
    · rw [rowsL_get hi, rowsL_get hi, h i hi e]
    · rw [List.getElem?_eq_none (by rw [rowsL_len]; omega), List.getElem?_eq_none (by rw [rowsL_len]; omega)]
theorem rowsL_add (g : Nat) (r : List UInt8) (e : List Value) : A ++ rowsL gi R ex n ++ [(g, Us r ++ e)] = A ++ rowsL (atN gi n g) (atN R n r) (atN ex n e) (n + 1) := by
  rw [List.append_assoc]
  congr 1
  unfold rowsL
  rw [List.range_succ, List.map_append]
  congr 1
  · apply List.map_congr_left
    intro i hi
    have : i ≠ n := by have := List.mem_range.1 hi; omega
    simp [atN, this]
  · simp [atN]
end
theorem Own.drop {w cur : World} {A B : List (Nat × List Value)} {x : Nat × List Value} (h : Own w cur (A ++ x :: B)) : Own w cur (A ++ B) := by
  have key : ∀ (i : Nat) (p : Nat × List Value), (A ++ B)[i]? = some p → (A ++ x :: B)[if i < A.length then i else i + 1]? = some p := by
    intro i p e
    split
    · rename_i hi
      rw [List.getElem?_append_left hi] at e ⊢
      exact e
    · rename_i hi
      rw [List.getElem?_append_right (by omega)] at e ⊢
      rw [show i + 1 - A.length = (i - A.length) + 1 by omega, List.getElem?_cons_succ]
      exact e
  exact ⟨h.1, fun i g vs e => h.2.1 _ g vs (key i _ e), fun i j g g' vs vs' e1 e2 hne => h.2.2 _ _ _ _ _ _ (key i _ e1) (key j _ e2) (by split <;> split <;> omega)⟩
theorem splice_Us {r x : List UInt8} {e : List Value} {o : Nat} (h : o + x.length ≤ r.length) : splice (Us r ++ e) o (Us x) = Us (splice r o x) ++ e := by
  have hl : (Us r).length = r.length := Us_length r
  have hx : (Us x).length = x.length := Us_length x
  unfold splice
  rw [List.take_append_of_le_length (by omega), List.drop_append_of_le_length (by omega), hx]
  simp [Us, List.map_append, List.map_take, List.map_drop]
/-- the slices of rows that have been made -/
def slV (gi : Nat → Nat) (wd n cnt : Nat) : List Value := (List.range cnt).map fun i => if i < n then .slice (some ⟨gi i, 0, none⟩) wd wd else .slice none 0 0
theorem slV_len (gi : Nat → Nat) (wd n cnt : Nat) : (slV gi wd n cnt).length = cnt := by simp [slV]
theorem slV_get {gi : Nat → Nat} {wd n cnt j : Nat} (hj : j < n) (hn : n ≤ cnt) : (slV gi wd n cnt)[j]? = some (.slice (some ⟨gi j, 0, none⟩) wd wd) := by
  unfold slV
  rw [List.getElem?_map, List.getElem?_range (by omega)]
  show some (if j < n then _ else _) = _
  rw [if_pos hj]
theorem slV_set {gi : Nat → Nat} {wd n cnt g : Nat} (hn : n < cnt) : (slV gi wd n cnt).set n (.slice (some ⟨g, 0, none⟩) wd wd) = slV (atN gi n g) wd (n + 1) cnt := by
  apply List.ext_getElem?
  intro i
  by_cases e : i = n
  · subst e
    rw [List.getElem?_set_self (by rw [slV_len]; exact hn), slV_get (by omega) (by omega)]
    simp [atN]
  · rw [List.getElem?_set_ne (Ne.symm e)]
    unfold slV
    rw [List.getElem?_map, List.getElem?_map]
    rcases h : (List.range cnt)[i]? with _ | x
    · rfl
    · have hx : x = i := by
        have := List.getElem?_eq_some_iff.1 h
        obtain ⟨h1, h2⟩ := this
        rw [List.getElem_range] at h2
        exact h2.symm
      subst hx
      simp only [Option.map_some, atN, if_neg e]
      by_cases h3 : x < n
      · rw [if_pos h3, if_pos (by omega)]
      · rw [if_neg h3, if_neg (by omega)]
theorem slV_zero (gi : Nat → Nat) (wd cnt : Nat) : slV gi wd 0 cnt = List.replicate cnt (.slice none 0 0) := by
  unfold slV
  apply List.ext_getElem?
  intro i
  rw [List.getElem?_map, List.getElem?_replicate]
  by_cases h : i < cnt
  · rw [List.getElem?_range h, if_pos h]; simp
  · rw [List.getElem?_eq_none (by simpa using h), if_neg h]; rfl
/-! ## rows, and a map that is gone through -/
def OwnR (w cur : World) (L : List (Nat × List Value)) (mb r n : Nat) (T : Nat → List UInt8) (lf : Nat → Bool) (cnt : Nat) : Prop :=
  Own w cur L ∧ RangeIs cur mb r n T lf cnt ∧ mb < w.heap.size ∧ w.heap.size ≤ r ∧ ∀ (i g : Nat) (vs : List Value), L[i]? = some (g, vs) → g ≠ r
section
open Go.Maps
variable {w cur cur' : World} {L : List (Nat × List Value)} {mb r n g i cnt : Nat} {T : Nat → List UInt8} {lf : Nat → Bool} {vs us : List Value}
theorem OwnR.bl (h : OwnR w cur L mb r n T lf cnt) : Below w.heap.size w cur := h.1.1
theorem OwnR.start (h : Own w cur L) (hb : Below cur.heap.size cur cur') (hr : RangeIs cur' mb cur.heap.size n T lf cnt) (hm : mb < w.heap.size) : OwnR w cur' L mb cur.heap.size n T lf cnt :=
  ⟨h.on hb, hr, hm, h.1.size, fun i g vs e => by have := (h.row e).lt; omega⟩
theorem OwnR.on (h : OwnR w cur L mb r n T lf cnt) (hb : Below cur.heap.size cur cur') : OwnR w cur' L mb r n T lf cnt := ⟨h.1.on hb, h.2.1.on hb, h.2.2⟩
theorem OwnR.new (h : OwnR w cur L mb r n T lf cnt) (hf : Fresh cur cur' g) (hr : RowV cur' g vs) : OwnR w cur' (L ++ [(g, vs)]) mb r n T lf cnt := by
  refine ⟨h.1.new hf hr, h.2.1.on hf.bw, h.2.2.1, h.2.2.2.1, fun i g' vs' e => ?_⟩
  rw [List.getElem?_append] at e
  split at e
  · exact h.2.2.2.2 i g' vs' e
  · have e' : g' = g := by
      rcases hk : i - L.length with _ | k
      · rw [hk] at e; simp at e; exact e.1.symm
      · rw [hk] at e; simp at e
    have := (h.2.1.map trivial).2.1
    rw [e', hf.1]; omega
theorem OwnR.set (h : OwnR w cur L mb r n T lf cnt) (e : L[i]? = some (g, vs)) (hw : Wr cur cur' g) (hr : RowV cur' g us) : OwnR w cur' (L.set i (g, us)) mb r n T lf cnt := by
  have hne := h.2.2.2.2 i g vs e
  have hge := h.1.ge e
  have hmb := h.2.2.1
  refine ⟨h.1.set e hw hr, h.2.1.kept (wr_grown hw) (by simp; omega) (by simpa using Ne.symm hne), h.2.2.1, h.2.2.2.1, fun j g' vs' hj => ?_⟩
  by_cases hji : j = i
  · subst hji
    rw [List.getElem?_set_self (List.getElem?_eq_some_iff.1 e).1] at hj
    injection hj with hj
    injection hj with h1 _
    rw [← h1]; exact hne
  · rw [List.getElem?_set_ne (Ne.symm hji)] at hj
    exact h.2.2.2.2 j g' vs' hj
theorem OwnR.next {cnt' : Nat} {lf' : Nat → Bool} (h : OwnR w cur L mb r n T lf cnt) (hr : RangeIs cur' mb r n T lf' cnt') (hg : cur.grownBy cur' (some r)) : OwnR w cur' L mb r n T lf' cnt' :=
  ⟨h.1.far hg (fun r' hr' => by injection hr' with hr'; rw [← hr']; exact h.2.2.2.1) (fun i g vs e he => h.2.2.2.2 i g vs e (by injection he with he; exact he.symm)), hr, h.2.2⟩
theorem OwnR.drop {A B : List (Nat × List Value)} {x : Nat × List Value} (h : OwnR w cur (A ++ x :: B) mb r n T lf cnt) : OwnR w cur (A ++ B) mb r n T lf cnt := by
  refine ⟨h.1.drop, h.2.1, h.2.2.1, h.2.2.2.1, fun i g vs e => ?_⟩
  have key : (A ++ x :: B)[if i < A.length then i else i + 1]? = some (g, vs) := by
    split
    · rename_i hi
      rw [List.getElem?_append_left hi] at e ⊢
      exact e
    · rename_i hi
      rw [List.getElem?_append_right (by omega)] at e ⊢
      rw [show i + 1 - A.length = (i - A.length) + 1 by omega, List.getElem?_cons_succ]
      exact e
  exact h.2.2.2.2 _ g vs key
end
end Go.Proofs.YtdlcoilpkelbaaaGreatDoor
namespace Go.Proofs.YtdlcoilpkelbaaaGreatDoor
open Go.RowKit
set_option linter.unusedVariables false

theorem Own.add {w cur cur' : World} {L : List (Nat × List Value)} {g : Nat} {vs : List Value} (h : Own w cur L) (hb : Below cur.heap.size cur cur') (hr : RowV cur' g vs) (hg : cur.heap.size ≤ g) : Own w cur' (L ++ [(g, vs)]) := by
  have hlt : ∀ (i g' : Nat) (vs' : List Value), L[i]? = some (g', vs') → g' ≠ g := fun i g' vs' e => by have := (h.row e).lt; omega
  refine ⟨below_on h.1 hb, fun i g' vs' e => ?_, fun i j g1 g2 v1 v2 e1 e2 hne => ?_⟩
  · rw [List.getElem?_append] at e
    split at e
    · exact ⟨h.ge e, (h.row e).on hb⟩
    · have e' : g' = g ∧ vs' = vs := by
        rcases hk : i - L.length with _ | k
        · rw [hk] at e; simp at e; exact ⟨e.1.symm, e.2.symm⟩
        · rw [hk] at e; simp at e
      obtain ⟨rfl, rfl⟩ := e'
      exact ⟨Nat.le_trans h.1.size hg, hr⟩
  · rw [List.getElem?_append] at e1 e2
    have key : ∀ (k : Nat) (x : Nat) (y : List Value), [(g, vs)][k]? = some (x, y) → k = 0 ∧ x = g := by
      intro k x y e
      rcases k with _ | k
      · simp at e; exact ⟨rfl, e.1.symm⟩
      · simp at e
    split at e1 <;> split at e2
    · exact h.2.2 i j g1 g2 v1 v2 e1 e2 hne
    · obtain ⟨_, rfl⟩ := key _ _ _ e2; exact hlt i g1 v1 e1
    · obtain ⟨_, rfl⟩ := key _ _ _ e1; exact (hlt j g2 v2 e2).symm
    · have := (key _ _ _ e1).1; have := (key _ _ _ e2).1; omega
theorem digits_one : ∀ (n t : Nat) (acc : Array Value), (∀ u ∈ acc.toList, u.oneCell' = true) → ∀ u ∈ (Extern.BytealgMakeNoZero.digits n t acc).toList, u.oneCell' = true
  | 0, t, acc, h => by simpa [Extern.BytealgMakeNoZero.digits] using h
  | n + 1, t, acc, h => by
    rw [Extern.BytealgMakeNoZero.digits]
    apply digits_one n
    intro u hu
    rw [Array.toList_push] at hu
    rcases List.mem_append.1 hu with hu | hu
    · exact h u hu
    · simp at hu; rw [hu]; rfl
/-- MakeNoZero: a new row of whatever bytes -/
theorem mnz (n : Nat) (hn : n ≤ 64) (w : World) : ∃ (cs : List Value) (w' : World), (callFunc 105 #[.int .i64 (n : Int)]).run Tryz.prog w = .ok (.value (.slice (some ⟨w.heap.size, 0, none⟩) n cs.length)) w' ∧ RowV w' w.heap.size cs ∧ n ≤ cs.length ∧ Below w.heap.size w w' := by
  obtain ⟨cs, hrun, hle, hmax⟩ := Lib.run_makeNoZero (P := Tryz.prog) w #[3] 47 5 Tryz.underlying47 n (by omega)
  refine ⟨cs.toList, w.drew.drew.alloc (.cells cs 5), ?_, ?_, by simpa using hle, ?_⟩
  · rw [run_callFunc_extern Tryz.func105 (by kernel_rfl) (by kernel_rfl) (by kernel_rfl) (e := Extern.BytealgMakeNoZero.makeNoZero #[3] #[47]) (by kernel_rfl), hrun]
    simp [Result.andThen]
  · exact RowV.new (w := w.drew.drew) (c := cs) rfl
  · exact ((below_drewN w.heap.size w 2).alloc (Nat.le_refl _) _)
theorem at_call_ {P : Program} {ops : Array Oper} {rest : List Oper} {a : Act} {w : World} {Q : Exit → Act → World → Prop} {d : Nat} {x : Call} {t : TypeId} {ps : String} {af : Array Edge} {gd : Option (Nat × Bool)} (h : wpList P ops Q (⟨some d, .call x, t, ps, af, gd⟩ :: rest) a w) : wpList P ops Q (⟨some d, .call x, t, ps, af, gd⟩ :: rest) a w := h
theorem wpList_mnz {ops : Array Oper} {rest : List Oper} {op : Oper} {a : Act} {w : World} {Q : Exit → Act → World → Prop} (hgd : op.guard = none) (x : Operand) (tys : Array TypeId) (ho : op.op = .call { callee := .value (.func 105), args := #[x], argTypes := tys }) (n : Nat) (hn : n ≤ 64) (hx : a.eval x = .int .i64 (n : Int))
    (hK : ∀ g cs w', w.heap.size ≤ g → RowV w' g cs → n ≤ cs.length → Below w.heap.size w w' → wpList Tryz.prog ops Q rest (a.put op.dst (.slice (some ⟨g, 0, none⟩) n cs.length)) w') : wpList Tryz.prog ops Q (op :: rest) a w := by
  refine wpList_plain hgd fun K hK2 => ?_
  obtain ⟨cs, w', hr, h1, h2, h3⟩ := mnz n hn w
  unfold Oper.wp
  have he : a.eval (.func 105) = Value.func (.func 105) #[] #[] := rfl
  simp [execOp, ho, resolve, invoke, hx, he, hr, Deferred.ofValue]
  exact hK2 _ _ (hK _ cs w' (Nat.le_refl _) h1 h2 h3)
theorem wpList_copy_v {P : Program} {w : World} {ops : Array Oper} {rest : List Oper} {o : Oper} {a : Act} {Q : Exit → Act → World → Prop} (hgd : o.guard = none) (d s : Operand) (dT sT : TypeId)
    (ho : o.op = .call { callee := .builtin .copy, args := #[d, s], argTypes := #[dT, sT] }) (elem : TypeId) (hu : P.underlying dT = some (.slice elem)) (hsz : (P.info? elem).map (·.size) = some 1)
    (g off dLen dCap : Nat) (ad : Addr) (sLen sCap : Nat) (hd : a.eval d = .slice (some ⟨g, off, none⟩) dLen dCap) (hs : a.eval s = .slice (some ad) sLen sCap)
    (vs : List Value) (hr : RowV w g vs) (cs : List Value) (hn : cs.length = Nat.min sLen dLen) (hsrc : ∀ j v, cs[j]? = some v → w.cell? (ad.add j) = some v) (hfit : off + cs.length ≤ vs.length) (h1 : ∀ v ∈ cs, v.oneCell' = true)
    (h : ∀ w', Wr w w' g → RowV w' g (splice vs off cs) → wpList P ops Q rest (a.put o.dst (goInt cs.length)) w') : wpList P ops Q (o :: rest) a w := by
  obtain ⟨ty, hg⟩ := hr
  refine wpList_copy_own hgd d s dT sT ho elem hu hsz g off dLen dCap ad sLen sCap hd hs _ ty hg cs hn hsrc (by simpa using hfit) h1 ?_
  exact h _ (Wr.row _ _ _) ⟨ty, by rw [setRow_heap w g _ _ ty _ hg]; simp [splice]⟩
theorem splice_get {α : Type} {vs cs : List α} {off j : Nat} (hf : off + cs.length ≤ vs.length) : (splice vs off cs)[j]? = if j < off then vs[j]? else if j < off + cs.length then cs[j - off]? else vs[j]? := by
  unfold splice
  rw [List.getElem?_append]
  have e1 : (vs.take off).length = off := by rw [List.length_take]; omega
  rw [e1]
  split
  · rename_i h; rw [List.getElem?_take, if_pos h]
  · rename_i h
    rw [List.getElem?_append]
    split
    · rename_i h2; rw [if_pos (by omega)]
    · rename_i h2; rw [if_neg (by omega), List.getElem?_drop]; congr 1; omega
/-- the first m cells are fillers -/
def FillR (vs : List Value) (m : Nat) : Prop := ∀ j, j < m → vs[j]? = some (U 60)
theorem FillR.grow {vs : List Value} {m k : Nat} (h : FillR vs m) (hf : m + k ≤ vs.length) : FillR (splice vs m (List.replicate k (U 60))) (m + k) := by
  intro j hj
  rw [splice_get (by rw [List.length_replicate]; exact hf), List.length_replicate]
  split
  · rename_i h1; exact h j h1
  · rename_i h1; rw [List.getElem?_replicate, if_pos (by omega)]
theorem sl_from (g m n : Nat) (hm : m < n) (hn : n ≤ 64) (w : World) : (Instr.sliceAt 47 (.slice (some ⟨g, 0, none⟩) n n) (some (.int .i64 (m : Int))) none none).run Tryz.prog w = .ok (.slice (some ⟨g, m, none⟩) (n - m) (n - m)) w := by
  have h1 : n ≠ m := by omega
  have h2 : (m : Int) ≤ (n : Int) := by omega
  simp [go_sem, Addr.add, h1, h2]
  intro h; exact h.symm
theorem sl_to (g m n : Nat) (hm : m ≤ n) (hn : n ≤ 64) (w : World) : (Instr.sliceAt 47 (.slice (some ⟨g, 0, none⟩) n n) none (some (.int .i64 (m : Int))) none).run Tryz.prog w = .ok (.slice (some ⟨g, 0, none⟩) m n) w := by
  have h2 : (m : Int) ≤ (n : Int) := by omega
  simp [go_sem, Addr.add, h2]
set_option maxHeartbeats 1600000 in
set_option maxRecDepth 20000 in
theorem p_brep (n : Nat) (h1 : 1 ≤ n) (h64 : n ≤ 64) (g0 : Nat) (c0 : Nat) (w : World) (hc : w.cell? ⟨g0, 0, none⟩ = some (U 60)) :
    Calls Tryz.prog 78 #[.slice (some ⟨g0, 0, none⟩) 1 c0, .int .i64 (n : Int)] w fun e w' => ∃ g ex, e = .returned (.slice (some ⟨g, 0, none⟩) n n) ∧ w.heap.size ≤ g ∧ RowV w' g (Us (List.replicate n 60) ++ ex) ∧ Below w.heap.size w w' := by
  have HC := Lib.hid (show _ ∧ g0 < w.heap.size from ⟨hc, cell_lt hc⟩)
  have m1 : (1 * n / 18446744073709551616 : Nat) = 0 := by omega
  have m2 : (1 * n % 18446744073709551616 : Nat) = n := by omega
  have HM : Hid (∀ w, Calls Tryz.prog 80 #[.int .u64 1, .int .u64 (n : Int)] w fun e w' => e = .returned (.tuple #[.int .u64 0, .int .u64 (n : Int)]) ∧ w = w') := Lib.hid (fun w => by
    have h := sh_bits_Mul 1 n (by omega) (by omega) w
    rw [m1, m2] at h
    exact h.mono fun e w' he => ⟨he.1, he.2.symm⟩)
  clear hc m1 m2
  have HO := Lib.hid (Own.start w)
  go_enter Tryz.func78, Tryz.ntmps78
  go_wp2_with (first
    | (go_at_call 80; ((with_reducible refine (HM.out _).mono ?_); rintro e w' ⟨rfl, rfl⟩))
    | ((with_reducible refine at_call_ (d := 54) ?_); refine wpList_mnz rfl (.tmp 53) _ rfl n h64 rfl ?_; intro g cs w1 hg hr hle hb; have HL := Lib.hid (show n ≤ cs.length ∧ RowV w1 g cs from ⟨hle, hr⟩); replace HO := Lib.hid (HO.out.add hb hr hg); clear hb hr hg)
    | ((with_reducible refine at_call_ (d := 60) ?_); refine wpList_copy_v rfl (.tmp 58) (.tmp 59) _ _ rfl 5 Tryz.underlying47 (by kernel_rfl) g 0 n n _ 1 _ rfl rfl cs HL.out.2 [U 60] (by show 1 = min 1 n; omega) (by intro j v hj; rcases j with _ | j; (simp at hj; rw [← hj]; exact (HO.out.bl.cell (p := ⟨g0, 0, none⟩) HC.out.2).trans HC.out.1); simp at hj) (by have := HL.out.1; simp; omega) (by intro v hv; simp at hv; rw [hv]; rfl) ?_; intro w2 hw hr; replace HO := Lib.hid (HO.out.set (i := 0) rfl hw hr); clear hw hr))
  go_loopw [10] (fun i wr => ∃ (m : Nat) (vs : List Value), i = .int .i64 (m : Int) ∧ 1 ≤ m ∧ m ≤ n ∧ Hid (FillR vs m ∧ n ≤ vs.length) ∧ Hid (Own w wr [(g, vs)])) (fun i _ => n - (intOf i).toNat)
  case atStart =>
    refine ⟨1, splice cs 0 [U 60], rfl, by omega, by omega, Lib.hid ⟨fun j hj => ?_, ?_⟩, HO⟩
    · rw [splice_get (by have := HL.out.1; simp; omega)]
      obtain rfl : j = 0 := by omega
      simp
    · have := HL.out.1
      rw [length_splice _ _ _ (by simp; omega)]; exact this
  case round =>
    obtain ⟨m, vs, rfl, hm1, hmn, HF, HO⟩ := hrel
    by_cases hlt : m < n
    · go_wp2_with fail
      obtain ⟨k, hk⟩ : ∃ k, k = min m (n - m) := ⟨_, rfl⟩
      rw [show min (m : Int) (n : Int) = (m : Int) by omega]
      refine region_setC (by kernel_rfl) _ (fun (_ : Unit) i => [Value.int .i64 (m : Int), .slice (some ⟨g, 0, none⟩) n n, .int .i64 (m : Int), .slice (some ⟨g, m, none⟩) (n - m) (n - m), .slice (some ⟨g, 0, none⟩) n n, .int .i64 (m : Int), .slice (some ⟨g, 0, none⟩) m n, goInt k, .int .i64 ((m + k : Nat) : Int), .int .i64 ((m + k : Nat) : Int)].getD i undef)
        (fun _ S cur => Own w cur [(g, if S 7 = true then splice vs m (List.replicate k (U 60)) else vs)]) (by kernel_rfl) () (HO.out.on (below_drewN _ _ 1)) ?_ ?_
      · refine ops_all (allI.cons ?_ (allI.cons ?_ (allI.cons ?_ (allI.cons ?_ (allI.cons ?_ (allI.cons ?_ (allI.cons ?_ (allI.cons ?_ (allI.cons ?_ (allI.cons ?_ allI.nil)))))))))) <;> intro b S cur a hW hSi hdep hS hC <;> refine ⟨(), fun _ _ => rfl, ?_⟩
        · exact o_mv (.tmp 10) rfl (hS.before hC hSi 10 rfl) ⟨rfl, by simpa using hW⟩
        · exact o_mv (.tmp 9) rfl (hS.before hC hSi 9 rfl) ⟨rfl, by simpa using hW⟩
        · exact o_mv (.tmp 10) rfl (hS.before hC hSi 10 rfl) ⟨rfl, by simpa using hW⟩
        · exact o_sl _ (.tmp 68) (some (.tmp 69)) none none rfl (hS.get 1 (dep_at hdep 1 rfl) rfl rfl) (congrArg some (hS.get 2 (dep_at hdep 2 rfl) rfl rfl)) rfl rfl (sl_from g m n hlt h64 _) ⟨rfl, by simpa using hW⟩
        · exact o_mv (.tmp 9) rfl (hS.before hC hSi 9 rfl) ⟨rfl, by simpa using hW⟩
        · exact o_mv (.tmp 11) rfl (hS.before hC hSi 11 rfl) ⟨rfl, by simpa using hW⟩
        · exact o_sl _ (.tmp 71) none (some (.tmp 72)) none rfl (hS.get 4 (dep_at hdep 4 rfl) rfl rfl) rfl (congrArg some (hS.get 5 (dep_at hdep 5 rfl) rfl rfl)) rfl (sl_to g m n hmn h64 _) ⟨rfl, by simpa using hW⟩
        · rw [hSi] at hW
          replace hW : Own w cur [(g, vs)] := hW
          refine o_copy_v (.tmp 70) (.tmp 73) _ _ rfl 5 Tryz.underlying47 (by kernel_rfl) g m (n - m) (n - m) ⟨g, 0, none⟩ m n (hS.get 3 (dep_at hdep 3 rfl) rfl rfl) (hS.get 6 (dep_at hdep 6 rfl) rfl rfl) vs (hW.row (i := 0) rfl) (List.replicate k (U 60)) ?_ ?_ ?_ ?_ ?_
          · rw [List.length_replicate]; exact hk
          · intro j v hj
            rw [List.getElem?_replicate] at hj
            split at hj
            · injection hj with hj
              rw [← hj, ← HF.out.1 j (by omega), ← (hW.row (i := 0) rfl).cell j]
              congr 1
              simp [Addr.add]
              intro h; exact h.symm
            · cases hj
          · have := HF.out.2; simp; omega
          · intro v hv; rw [(List.mem_replicate.1 hv).2]; rfl
          · intro w' hw hr
            refine ⟨by rw [List.length_replicate]; rfl, ?_⟩
            have := hW.set (i := 0) rfl hw hr
            simpa using this
        · refine o_add _ _ (.tmp 67) (.tmp 74) rfl (hS.get 0 (dep_at hdep 0 rfl) rfl rfl) (hS.get 7 (dep_at hdep 7 rfl) rfl rfl) ?_ ⟨rfl, by simpa using hW⟩
          have e : (m : Int) + (k : Int) = ((m + k : Nat) : Int) := by omega
          rw [← e]
          simp [go_sem, goInt]
          rw [IntKind.wrap_i64]; omega
        · exact o_as (.tmp 75) rfl (hS.get 8 (dep_at hdep 8 rfl) rfl rfl) ⟨rfl, by simpa using hW⟩
      · intro b cur S hall hW
        rw [hall 7 (by decide)] at hW
        replace hW : Own w cur [(g, splice vs m (List.replicate k (U 60)))] := hW
        simp only [putAll, Act.put, goInt]
        simp
        go_wp2
        go_roundw
        case rel =>
          have hl := HF.out.2
          refine ⟨m + k, splice vs m (List.replicate k (U 60)), rfl, by omega, by omega, Lib.hid ⟨HF.out.1.grow (by omega), ?_⟩, Lib.hid hW⟩
          rw [length_splice _ _ _ (by simp; omega)]; exact hl
        case measure => simp [intOf]; omega
    · obtain rfl : m = n := by omega
      go_wp2
      go_ret
      obtain ⟨hf, hl⟩ := HF.out
      refine ⟨g, vs.drop m, rfl, HO.out.ge (i := 0) rfl, ?_, HO.out.bl⟩
      have e : Us (List.replicate m 60) ++ vs.drop m = vs := by
        conv => rhs; rw [← List.take_append_drop m vs]
        congr 1
        apply List.ext_getElem?
        intro j
        by_cases hj : j < m
        · rw [List.getElem?_take, if_pos hj, hf j hj]
          simp [Us, hj]
        · rw [List.getElem?_eq_none (by simp [Us]; omega), List.getElem?_eq_none (by simp; omega)]
      rw [e]
      exact HO.out.row (i := 0) rfl
end Go.Proofs.YtdlcoilpkelbaaaGreatDoor
namespace Go.Proofs.YtdlcoilpkelbaaaGreatDoor
open Go.RowKit Go.Maps
set_option linter.unusedVariables false

theorem lay_cnt {f : Int} (h : 1 ≤ f ∧ f ≤ 3) : (layV f)[1]? = some (.int .i64 ((cntN f : Nat) : Int)) ∧ (layV f)[2]? = some (.int .i64 ((widN f : Nat) : Int)) := by
  have h : f = 1 ∨ f = 2 ∨ f = 3 := by omega
  rcases h with rfl | rfl | rfl <;> exact ⟨rfl, rfl⟩
theorem mk_rows2 (w : World) : (Instr.makeSlice 97 (.int .i64 2) (.int .i64 2)).run Tryz.prog w = .ok (.slice (some ⟨w.heap.size, 0, none⟩) 2 2) (w.alloc (.cells (List.replicate 2 (Value.slice none 0 0)).toArray 47)) := by kernel_rfl
theorem mk_rows3 (w : World) : (Instr.makeSlice 97 (.int .i64 3) (.int .i64 3)).run Tryz.prog w = .ok (.slice (some ⟨w.heap.size, 0, none⟩) 3 3) (w.alloc (.cells (List.replicate 3 (Value.slice none 0 0)).toArray 47)) := by kernel_rfl
theorem mk_rows (n : Nat) (hn : n = 2 ∨ n = 3) (w : World) : (Instr.makeSlice 97 (.int .i64 (n : Int)) (.int .i64 (n : Int))).run Tryz.prog w = .ok (.slice (some ⟨w.heap.size, 0, none⟩) n n) (w.alloc (.cells (List.replicate n (Value.slice none 0 0)).toArray 47)) := by
  rcases hn with rfl | rfl
  · exact mk_rows2 w
  · exact mk_rows3 w
theorem mk_strs2 (w : World) : (Instr.makeSlice 24 (.int .i64 2) (.int .i64 2)).run Tryz.prog w = .ok (.slice (some ⟨w.heap.size, 0, none⟩) 2 2) (w.alloc (.cells (List.replicate 2 (Value.string ⟨#[]⟩)).toArray 9)) := by kernel_rfl
theorem mk_strs3 (w : World) : (Instr.makeSlice 24 (.int .i64 3) (.int .i64 3)).run Tryz.prog w = .ok (.slice (some ⟨w.heap.size, 0, none⟩) 3 3) (w.alloc (.cells (List.replicate 3 (Value.string ⟨#[]⟩)).toArray 9)) := by kernel_rfl
theorem mk_strs (n : Nat) (hn : n = 2 ∨ n = 3) (w : World) : (Instr.makeSlice 24 (.int .i64 (n : Int)) (.int .i64 (n : Int))).run Tryz.prog w = .ok (.slice (some ⟨w.heap.size, 0, none⟩) n n) (w.alloc (.cells (List.replicate n (Value.string ⟨#[]⟩)).toArray 9)) := by
  rcases hn with rfl | rfl
  · exact mk_strs2 w
  · exact mk_strs3 w
theorem conv_lit (w : World) : (convert 47 47 (.slice (some ⟨w.heap.size, 0, none⟩) 1 1)).run Tryz.prog (w.alloc (.cells #[Value.int .u8 60] 5)) = .ok (.slice (some ⟨w.heap.size, 0, none⟩) 1 1) (w.alloc (.cells #[Value.int .u8 60] 5 (1, 2))) :=
  Lib.run_convert_bytes_const w 47 5 #[Value.int .u8 60] 1 1 Tryz.underlying47 Tryz.underlying5
theorem at_make_ {P : Program} {ops : Array Oper} {rest : List Oper} {a : Act} {w : World} {Q : Exit → Act → World → Prop} {d : Nat} {x y : Operand} {ty t : TypeId} {ps : String} {af : Array Edge} {gd : Option (Nat × Bool)} (h : wpList P ops Q (⟨some d, .makeSlice ty x y, t, ps, af, gd⟩ :: rest) a w) : wpList P ops Q (⟨some d, .makeSlice ty x y, t, ps, af, gd⟩ :: rest) a w := h
theorem cell_alloc1 (w : World) (u : Value) (t : TypeId) (fr : Nat × Nat) : (w.alloc (.cells #[u] t fr)).cell? ⟨w.heap.size, 0, none⟩ = some u := by
  have h : (w.alloc (.cells #[u] t fr)).heap[w.heap.size]? = some (.cells #[u] t fr) := by
    show (w.heap.push _)[w.heap.size]? = _
    simp
  unfold World.cell?
  rw [h]
  rfl
theorem size_sb : (Tryz.prog.info? 47).map (·.size) = some 1 := by kernel_rfl
theorem size_st : (Tryz.prog.info? 9).map (·.size) = some 1 := by kernel_rfl
theorem at_range_ {P : Program} {ops : Array Oper} {rest : List Oper} {a : Act} {w : World} {Q : Exit → Act → World → Prop} {d : Nat} {x : Operand} {ty t : TypeId} {ps : String} {af : Array Edge} {gd : Option (Nat × Bool)} (h : wpList P ops Q (⟨some d, .range ty x, t, ps, af, gd⟩ :: rest) a w) : wpList P ops Q (⟨some d, .range ty x, t, ps, af, gd⟩ :: rest) a w := h
theorem at_next_ {P : Program} {ops : Array Oper} {rest : List Oper} {a : Act} {w : World} {Q : Exit → Act → World → Prop} {d : Nat} {x : Operand} {b : Bool} {t : TypeId} {ps : String} {af : Array Edge} {gd : Option (Nat × Bool)} (h : wpList P ops Q (⟨some d, .next x b, t, ps, af, gd⟩ :: rest) a w) : wpList P ops Q (⟨some d, .next x b, t, ps, af, gd⟩ :: rest) a w := h
theorem last_get {α : Type} (L : List α) (x : α) : (L ++ [x])[L.length]? = some x := by simp
theorem last_set {α : Type} (L : List α) (x y : α) : (L ++ [x]).set L.length y = L ++ [y] := by simp
theorem pre_set {α : Type} {L : List α} {i : Nat} {x y z : α} (h : L[i]? = some x) : (L ++ [y]).set i z = L.set i z ++ [y] := by rw [List.set_append_left _ _ (List.getElem?_eq_some_iff.1 h).1]
theorem pre_get {α : Type} {L : List α} {i : Nat} {x y : α} (h : L[i]? = some x) : (L ++ [y])[i]? = some x := by rw [List.getElem?_append_left (List.getElem?_eq_some_iff.1 h).1]; exact h
theorem OwnR.pre {w cur : World} {L M : List (Nat × List Value)} {mb r n : Nat} {T : Nat → List UInt8} {lf : Nat → Bool} {cnt : Nat} (h : OwnR w cur (L ++ M) mb r n T lf cnt) : OwnR w cur L mb r n T lf cnt :=
  ⟨h.1.pre, h.2.1, h.2.2.1, h.2.2.2.1, fun i g vs e => h.2.2.2.2 i g vs (by rw [List.getElem?_append_left (List.getElem?_eq_some_iff.1 e).1]; exact e)⟩
theorem ix_rows (g n i : Nat) (hi : i < n) (w : World) : (Instr.indexAt 97 (.slice (some ⟨g, 0, none⟩) n n) (.int .i64 (i : Int))).run Tryz.prog w = .ok (.pointer (some ⟨g, i, none⟩)) w := by
  have h1 : (0 : Int) ≤ i := by omega
  have h2 : (i : Int) < n := by omega
  simp [go_sem, Addr.add, h1, h2]
  intro h; exact h.symm
theorem sl_row (g a b wd : Nat) (h1 : a ≤ b) (h2 : b ≤ wd) (h3 : a < wd) (hw : wd ≤ 64) (w : World) : (Instr.sliceAt 47 (.slice (some ⟨g, 0, none⟩) wd wd) (some (.int .i64 (a : Int))) (some (.int .i64 (b : Int))) none).run Tryz.prog w = .ok (.slice (some ⟨g, a, none⟩) (b - a) (wd - a)) w := by
  have e1 : (a : Int) ≤ (b : Int) := by omega
  have e2 : (b : Int) ≤ (wd : Int) := by omega
  have e3 : wd ≠ a := by omega
  simp [go_sem, Addr.add, e1, e2, e3]
  intro h; exact h.symm
theorem fa_plc0 (g : Nat) (w : World) : (Instr.fieldAt 53 (.pointer (some ⟨g, 0, none⟩)) 0).run Tryz.prog w = .ok (.pointer (some ⟨g, 0, none⟩)) w := by kernel_rfl
theorem fa_plc1 (g : Nat) (w : World) : (Instr.fieldAt 53 (.pointer (some ⟨g, 0, none⟩)) 1).run Tryz.prog w = .ok (.pointer (some ⟨g, 1, none⟩)) w := by kernel_rfl
theorem fa_plc2 (g : Nat) (w : World) : (Instr.fieldAt 53 (.pointer (some ⟨g, 0, none⟩)) 2).run Tryz.prog w = .ok (.pointer (some ⟨g, 2, none⟩)) w := by kernel_rfl
theorem plc_lt {f : Int} (h : 1 ≤ f ∧ f ≤ 3) {k : Nat} (hk : k < 15) : (plc f k).2.1 < widN f := by
  have h : f = 1 ∨ f = 2 ∨ f = 3 := by omega
  have key : ∀ k, k < 15 → (plc 1 k).2.1 < widN 1 ∧ (plc 2 k).2.1 < widN 2 ∧ (plc 3 k).2.1 < widN 3 := by decide
  rcases h with rfl | rfl | rfl
  · exact (key k hk).1
  · exact (key k hk).2.1
  · exact (key k hk).2.2
theorem RowV.sees {w : World} {g : Nat} {vs us : List Value} (h : RowV w g (vs ++ us)) : Sees w w.heap.size (some ⟨g, 0, none⟩) vs :=
  .inr ⟨g, 0, rfl, h.lt, fun j hj => by rw [Nat.zero_add, h.cell, List.getElem?_append_left hj]⟩
theorem RowV.sees0 {w : World} {g : Nat} {vs : List Value} (h : RowV w g vs) : Sees w w.heap.size (some ⟨g, 0, none⟩) vs :=
  .inr ⟨g, 0, rfl, h.lt, fun j hj => by rw [Nat.zero_add, h.cell]⟩
/-- the strings that have been laid -/
def svV (ls : List (List UInt8)) (j n : Nat) : List Value := (List.range n).map fun i => if i < j then .string (S (ls.getD i [])) else .string ⟨#[]⟩
theorem svV_len (ls : List (List UInt8)) (j n : Nat) : (svV ls j n).length = n := by simp [svV]
theorem svV_zero (ls : List (List UInt8)) (n : Nat) : svV ls 0 n = List.replicate n (.string ⟨#[]⟩) := by
  unfold svV
  apply List.ext_getElem?
  intro i
  rw [List.getElem?_map, List.getElem?_replicate]
  by_cases h : i < n
  · rw [List.getElem?_range h, if_pos h]; simp
  · rw [List.getElem?_eq_none (by simpa using h), if_neg h]; rfl
theorem svV_set {ls : List (List UInt8)} {j n : Nat} (hj : j < n) : (svV ls j n).set j (.string (S (ls.getD j []))) = svV ls (j + 1) n := by
  apply List.ext_getElem?
  intro i
  by_cases e : i = j
  · subst e
    rw [List.getElem?_set_self (by rw [svV_len]; exact hj)]
    unfold svV
    rw [List.getElem?_map, List.getElem?_range hj]
    simp
  · rw [List.getElem?_set_ne (Ne.symm e)]
    unfold svV
    rw [List.getElem?_map, List.getElem?_map]
    by_cases hi : i < n
    · rw [List.getElem?_range hi]
      simp only [Option.map_some]
      by_cases h3 : i < j
      · rw [if_pos h3, if_pos (by omega)]
      · rw [if_neg h3, if_neg (by omega)]
    · rw [List.getElem?_eq_none (by simpa using hi)]; rfl
theorem svV_all {ls : List (List UInt8)} {n : Nat} (h : ls.length = n) : svV ls n n = strV ls := by
  unfold svV strV
  apply List.ext_getElem?
  intro i
  rw [List.getElem?_map, List.getElem?_map]
  by_cases hi : i < n
  · rw [List.getElem?_range hi, List.getElem?_eq_getElem (by omega)]
    simp only [Option.map_some, if_pos hi, List.getD_eq_getElem?_getD, List.getElem?_eq_getElem (show i < ls.length by omega), Option.getD_some]
  · rw [List.getElem?_eq_none (by simpa using hi), List.getElem?_eq_none (by omega)]
    rfl
theorem linesT_len (f : Int) (T : Nat → List UInt8) : (linesT f T).length = cntN f := by simp [linesT]
theorem linesT_get (f : Int) (T : Nat → List UInt8) {j : Nat} (h : j < cntN f) : (linesT f T).getD j [] = lineT (segs f j) T := by
  unfold linesT
  rw [List.getD_eq_getElem?_getD, List.getElem?_map, List.getElem?_range h]
  rfl
theorem cell_lit (w : World) : (w.alloc (.cells #[Value.int .u8 60] 5 (1, 2))).cell? ⟨w.heap.size, 0, none⟩ = some (U 60) := cell_alloc1 w _ _ _
set_option maxHeartbeats 1600000 in
set_option maxRecDepth 20000 in
theorem p_write (f : Int) (h : 1 ≤ f ∧ f ≤ 3) (mb n : Nat) (T : Nat → List UInt8) (w : World) (hm : MapIs w mb n T) :
    Calls Tryz.prog 31 #[.agg (layV f).toArray, .map (some mb)] w fun e w' => ∃ A, e = .returned (.slice A (cntN f) (cntN f)) ∧ Strs w' A (linesT f T) ∧ Below w.heap.size w w' := by
  have HH := Lib.hid (show _ ∧ _ from ⟨h, hm⟩)
  have HC := Lib.hid (lay_cnt h)
  obtain ⟨ct, hct⟩ : ∃ ct, cntN f = ct := ⟨_, rfl⟩
  obtain ⟨wd, hwd⟩ : ∃ wd, widN f = wd := ⟨_, rfl⟩
  have hc3 : ct = 2 ∨ ct = 3 := by rw [← hct]; unfold cntN; repeat (first | omega | split)
  have hw1 : 1 ≤ wd ∧ wd ≤ 64 := by rw [← hwd]; unfold widN; repeat (first | omega | split)
  rw [hct, hwd] at HC
  rw [hct]
  have HE := Lib.hid (show _ ∧ _ from ⟨hct, hwd⟩)
  clear h hm hct hwd
  have hcv := conv_lit
  have HO := Lib.hid (Own.start w)
  go_enter Tryz.func31, Tryz.ntmps31
  go_wp2_with (first
    | ((with_reducible refine at_box_ (d := 2) ?_); refine wpList_box_v (op := ⟨some 2, _, _, _, _, _⟩) rfl 57 _ rfl (layV f) rfl ?_; intro g2 v2b hf hr; replace HO := Lib.hid (HO.out.new hf hr); clear hf hr)
    | ((with_reducible refine at_load_ (d := 14) ?_); refine wpList_load_c rfl _ _ rfl g2 1 rfl (.int .i64 (ct : Int)) (((HO.out.row (i := 0) rfl).cell 1).trans HC.out.1) (fun w => by kernel_rfl) ?_)
    | ((with_reducible refine at_make_ (d := 15) ?_); refine wpList_make_v rfl _ _ _ rfl _ _ rfl rfl (List.replicate ct (Value.slice none 0 0)) ct _ (mk_rows ct hc3 _) ?_; intro gr vr hf hr; replace HO := Lib.hid (HO.out.new hf hr); clear hf hr))
  have hc4 : ct ≤ 3 := by rcases hc3 with h | h <;> omega
  have HD := Lib.hid hc3
  clear hc3
  go_loopw [18] (fun i wr => ∃ (k : Nat) (gi : Nat → Nat) (ex : Nat → List Value), k ≤ ct ∧ i = .int .i64 (k : Int) ∧ Hid (Own w wr ([(g2, layV f), (gr, slV gi wd k ct)] ++ rowsL gi (fun _ => List.replicate wd 60) ex k))) (fun i _ => ct - (intOf i).toNat)
  case atStart => exact ⟨0, fun _ => 0, fun _ => [], by omega, rfl, Lib.hid (by rw [slV_zero]; simpa [rowsL] using HO.out)⟩
  case round =>
    obtain ⟨k, gi, ex, hk, rfl, HO⟩ := hrel
    by_cases hlt : k < ct
    · go_wp2_with (first
    | ((with_reducible refine at_load_ (d := 26) ?_); refine wpList_load_c rfl _ _ rfl g2 2 rfl (.int .i64 (wd : Int)) (((Own.on HO.out ((Below.refl _ _).alloc (Nat.le_refl _) _)).row (i := 0) rfl |>.cell 2).trans HC.out.2) (fun w => by kernel_rfl) ?_)
    | (go_at_call 78; ((with_reducible refine (p_brep wd hw1.1 hw1.2 _ _ _ (cell_lit _)).mono ?_); rintro e w1 ⟨gn, en, rfl, hge, hr, hb⟩); replace HO := Lib.hid ((HO.out.on ((Below.refl _ _).alloc (Nat.le_refl _) _)).add hb hr hge); clear hb hr hge)
    | ((with_reducible refine at_store_ (i := 28) ?_); refine wpList_store_at rfl _ (.tmp 28) _ rfl gr k (slV gi wd k ct) (.slice (some ⟨gn, 0, none⟩) wd wd) rfl rfl (HO.out.row (i := 1) rfl) (by rw [slV_len]; exact hlt) rfl rfl size_sb ?_; intro w3 hw hr; replace HO := Lib.hid (HO.out.set (i := 1) rfl hw hr); clear hw hr))
      go_roundw
      case rel =>
        refine ⟨k + 1, atN gi k gn, atN ex k en, by omega, by go_num, Lib.hid ?_⟩
        have h1 := HO.out
        rw [slV_set hlt] at h1
        have h2 : ([(g2, layV f), (gr, slV (atN gi k gn) wd (k + 1) ct)] ++ rowsL gi (fun _ => List.replicate wd 60) ex k) ++ [(gn, Us (List.replicate wd 60) ++ en)] = [(g2, layV f), (gr, slV (atN gi k gn) wd (k + 1) ct)] ++ rowsL (atN gi k gn) (fun _ => List.replicate wd 60) (atN ex k en) (k + 1) := by
          rw [rowsL_add]
          congr 1
          exact rowsL_congr fun i _ => by unfold atN; split <;> rfl
        rw [← h2]
        exact h1
      case measure => simp [intOf]; omega
    · obtain rfl : k = ct := by omega
      go_wp2_with ((with_reducible refine at_range_ ?_); refine wpList_range_m rfl (.tmp 30) rfl mb n T rfl (HH.out.2.on HO.out.bl) ?_; intro w5 lf c5 hrg hlf hb5; have HR := Lib.hid (OwnR.start HO.out hb5 hrg (HH.out.2.lt)); have HLF := Lib.hid hlf; clear hrg hlf hb5)
      have hrow : rowsL gi (fun _ => List.replicate wd 60) ex k = rowsL gi (rowF f T lf) ex k := rowsL_congr fun i hi => by
        rw [rowF_start HH.out.1 T lf HLF.out (by rw [HE.out.1]; exact hi), HE.out.2]
      replace HR : Hid (OwnR w w5 ([(g2, layV f), (gr, slV gi wd k k)] ++ rowsL gi (rowF f T lf) ex k) mb wr.heap.size n T lf c5) := Lib.hid (by rw [← hrow]; exact HR.out)
      clear hrow
      go_frame
      obtain ⟨r, hr⟩ : ∃ r, wr.heap.size = r := ⟨_, rfl⟩
      rw [hr] at HR ⊢
      have HO1 := Lib.hid (HO.out.ge (i := 0) rfl)
      clear hr
      go_loopw [] (fun wq => ∃ (lf : Nat → Bool) (c : Nat), Hid (OwnR w wq ([(g2, layV f), (gr, slV gi wd k k)] ++ rowsL gi (rowF f T lf) ex k) mb r n T lf c)) (fun wq => wq.rangeLeft mb r)
      case atStart => exact ⟨lf, c5, HR⟩
      case round =>
        clear HLF HR HO
        clear lf c5
        obtain ⟨lf, c, HR⟩ := hrel
        go_wp2_with ((with_reducible refine at_next_ ?_); refine wpList_next_m rfl (.tmp 31) rfl mb r n T lf c rfl HR.out.2.1 ?_ ?_)
        · intro hdone
          have hrow : rowsL gi (rowF f T lf) ex k = rowsL gi (fun i => lineT (segs f i) T) ex k := rowsL_congr fun i hi => rowF_end HH.out.1 T lf hdone (by omega)
          have HO : Hid (Own w wr ([(g2, layV f), (gr, slV gi wd k k)] ++ rowsL gi (fun i => lineT (segs f i) T) ex k)) := Lib.hid (by rw [← hrow]; exact HR.out.1)
          clear hrow hdone HR
          clear c lf
          obtain ⟨L, hL⟩ : ∃ L, [(g2, layV f), (gr, slV gi wd k k)] ++ rowsL gi (fun i => lineT (segs f i) T) ex k = L := ⟨_, rfl⟩
          rw [hL] at HO
          have HL : Hid (L[0]? = some (g2, layV f) ∧ L[1]? = some (gr, slV gi wd k k) ∧ ∀ i, i < k → L[2 + i]? = some (gi i, Us (lineT (segs f i) T) ++ ex i)) := Lib.hid (by rw [← hL]; exact ⟨rfl, rfl, fun i hi => rowsL_at (A := [(g2, layV f), (gr, slV gi wd k k)]) hi⟩)
          obtain ⟨ls, hls⟩ : ∃ ls, linesT f T = ls := ⟨_, rfl⟩
          have HS : Hid (ls.length = k ∧ ∀ i, i < k → ls.getD i [] = lineT (segs f i) T ∧ (lineT (segs f i) T).length = wd) := Lib.hid (by
            refine ⟨by rw [← hls, linesT_len, HE.out.1], fun i hi => ⟨by rw [← hls]; exact linesT_get f T (by rw [HE.out.1]; exact hi), ?_⟩⟩
            rw [lineT_len, seg_sum HH.out.1 (by rw [HE.out.1]; exact hi), HE.out.2])
          have HLS := Lib.hid hls
          clear hL hls
          go_wp2_with (first
    | ((with_reducible refine at_load_ (d := 54) ?_); refine wpList_load_c rfl _ _ rfl g2 1 rfl (.int .i64 (k : Int)) (((HO.out.row (i := 0) HL.out.1).cell 1).trans HC.out.1) (fun w => by kernel_rfl) ?_)
    | ((with_reducible refine at_make_ (d := 55) ?_); refine wpList_make_v rfl _ _ _ rfl _ _ rfl rfl (List.replicate k (Value.string ⟨#[]⟩)) k _ (mk_strs k HD.out _) ?_; intro gs vs hf hr; replace HO := Lib.hid (HO.out.new hf hr); clear hf hr))
          go_loopw [58] (fun i wq => ∃ (j : Nat), j ≤ k ∧ i = .int .i64 (j : Int) ∧ Hid (Own w wq (L ++ [(gs, svV ls j k)]))) (fun i _ => k - (intOf i).toNat)
          case atStart => exact ⟨0, by omega, rfl, Lib.hid (by rw [svV_zero]; exact HO.out)⟩
          case round =>
            clear HO
            obtain ⟨j, hj, rfl, HO⟩ := hrel
            by_cases hlt : j < k
            · have hj0 : (j : Int) < (k : Int) := by omega
              have hsl := HS.out.2 j hlt
              have hcw := run_conv wr wr.heap.size (some ⟨gi j, 0, none⟩) (lineT (segs f j) T) (HO.out.row (pre_get (HL.out.2.2 j hlt))).sees wd wd hsl.2.symm
              rw [← hsl.1] at hcw
              clear hsl
              go_wp2_with (first
    | ((with_reducible refine at_load_ (d := 62) ?_); refine wpList_load_c rfl _ _ rfl gr j rfl (.slice (some ⟨gi j, 0, none⟩) wd wd) (((HO.out.row (pre_get HL.out.2.1)).cell j).trans (slV_get hlt (Nat.le_refl _))) (fun w => by kernel_rfl) ?_)
    | ((with_reducible refine at_store_ (i := 67) ?_); refine wpList_store_at rfl _ (.tmp 67) _ rfl gs j (svV ls j k) (.string (S (ls.getD j []))) rfl rfl (HO.out.row (last_get _ _)) (by rw [svV_len]; exact hlt) rfl rfl size_st ?_; intro w7 hw hr; replace HO := Lib.hid (HO.out.set (last_get _ _) hw hr); clear hw hr))
              go_roundw
              case rel =>
                refine ⟨j + 1, by omega, by go_num, Lib.hid ?_⟩
                have h1 := HO.out
                rw [last_set, svV_set hlt] at h1
                exact h1
              case measure => simp [intOf]; omega
            · obtain rfl : j = k := by omega
              go_wp2
              go_ret
              refine ⟨_, rfl, ?_, HO.out.bl⟩
              have h1 := HO.out.row (last_get _ _)
              rw [svV_all HS.out.1] at h1
              rw [HLS.out]
              exact h1.sees0
        · intro q w6 c6 hq hlq hTl hrg hcl hgr hen
          have HE2 := Lib.hid (show wr.rangeLeft mb r = c ∧ c6 < c from ⟨HR.out.2.1.left_eq, hcl⟩)
          replace HR := Lib.hid (HR.out.next hrg hgr)
          have HQ := Lib.hid (show _ ∧ _ from ⟨hq, hlq⟩)
          have q0 : (q : Int) < 15 := by omega
          obtain ⟨L, hL⟩ : ∃ L, [(g2, layV f), (gr, slV gi wd k k)] ++ rowsL gi (rowF f T lf) ex k = L := ⟨_, rfl⟩
          rw [hL] at HR
          have HL := Lib.hid (show L[0]? = some (g2, layV f) ∧ L[1]? = some (gr, slV gi wd k k) from by rw [← hL]; exact ⟨rfl, rfl⟩)
          have HLL := Lib.hid hL
          have h61 : 4 + q * 3 + 3 ≤ (layV f).length := by rw [layV_len HH.out.1]; omega
          have hpart := lay_part HH.out.1 hq
          have HPP := Lib.hid (show _ ∧ _ from ⟨h61, hpart⟩)
          clear hL hrg hcl hgr hlq hTl h61 hpart hq
          go_wp2_with (first
    | ((with_reducible refine at_load_ (d := 40) ?_); refine wpList_load_part rfl 53 _ rfl g2 (4 + q * 3) rfl (layV f) 3 (plcV (plc f q)) _ (HR.out.1.row (i := 0) HL.out.1) HPP.out.1 HPP.out.2 Tryz.underlying53 rfl size_p ?_)
    | ((with_reducible refine at_alloc_ (d := 9) ?_); refine wpList_alloc_v rfl 53 rfl plc0 info_p ?_; intro g9 v9 hf hr; replace HR := Lib.hid (HR.out.new hf hr); clear hf hr)
    | ((with_reducible refine at_store_ (i := 9) ?_); refine wpList_store_v rfl 53 (.tmp 9) (.tmp 40) rfl g9 plc0 (plcV (plc f q)) rfl rfl (HR.out.1.row (i := L.length) (last_get _ _)) rfl (plcV_one _) size_p ?_; intro v10 hw hr; replace HR := Lib.hid (HR.out.set (i := L.length) (last_get _ _) hw hr); clear hw hr))
          replace HR : Hid (OwnR w v10 (L ++ [(g9, plcV (plc f q))]) mb r n T (fun j => lf j && !(j == q)) c6) := Lib.hid (by have := HR.out; rwa [last_set] at this)
          obtain ⟨ln, fr, en, hp⟩ : ∃ ln fr en, plc f q = (ln, fr, en) := ⟨_, _, _, rfl⟩
          have hpo := plc_ok HH.out.1 HQ.out.1
          have hpl := plc_lt HH.out.1 HQ.out.1
          rw [hp, HE.out.1, HE.out.2] at hpo
          rw [hp, HE.out.2] at hpl
          obtain ⟨o1, o2, o3⟩ := hpo
          rw [hp] at HR
          have HLN : Hid (L[2 + ln]? = some (gi ln, Us (rowF f T lf ln) ++ ex ln)) := Lib.hid (by rw [← HLL.out]; exact rowsL_at (A := [(g2, layV f), (gr, slV gi wd k k)]) o1)
          obtain ⟨y, hy⟩ : ∃ y, (T q).take (en - fr) = y := ⟨_, rfl⟩
          have HY : Hid (fr + y.length ≤ (rowF f T lf ln).length ∧ splice (rowF f T lf ln) fr y = rowF f T (fun j => lf j && !(j == q)) ln) := Lib.hid (by
            have hrl := rowF_len HH.out.1 T lf (i := ln) (by rw [HE.out.1]; exact o1)
            have hput := rowF_put HH.out.1 T lf HQ.out.1 HQ.out.2
            rw [hp] at hput
            refine ⟨?_, by rw [← hy]; exact hput⟩
            rw [hrl, HE.out.2, ← hy, List.length_take]
            simp only at o2 o3
            omega)
          simp only at o1 o2 o3 hpl
          clear hen
          have HX1 : Hid (∀ b : Bool, (if b = true then L.set (2 + ln) (gi ln, Us (rowF f T (fun j => lf j && !(j == q)) ln) ++ ex ln) else L)[1]? = some (gr, slV gi wd k k)) := Lib.hid (fun b => by
            cases b
            · exact HL.out.2
            · show (L.set (2 + ln) _)[1]? = _
              rw [List.getElem?_set_ne (by omega)]; exact HL.out.2)
          refine region_setC (by kernel_rfl) _ (fun (_ : Unit) i => [Value.slice (some ⟨gr, 0, none⟩) k k, .pointer (some ⟨g9, 0, none⟩), .int .i64 (ln : Int), .pointer (some ⟨gr, ln, none⟩), .slice (some ⟨gi ln, 0, none⟩) wd wd, .pointer (some ⟨g9, 1, none⟩), .int .i64 (fr : Int), .pointer (some ⟨g9, 2, none⟩), .int .i64 (en : Int), .slice (some ⟨gi ln, fr, none⟩) (en - fr) (wd - fr), .string (S (T q)), goInt y.length].getD i undef)
            (fun _ S cur => OwnR w cur ((if S 11 = true then L.set (2 + ln) (gi ln, Us (rowF f T (fun j => lf j && !(j == q)) ln) ++ ex ln) else L) ++ [(g9, plcV (ln, fr, en))]) mb r n T (fun j => lf j && !(j == q)) c6) (by kernel_rfl) () (HR.out.on (below_drewN _ _ 1)) ?_ ?_
          · refine ops_all (allI.cons ?_ (allI.cons ?_ (allI.cons ?_ (allI.cons ?_ (allI.cons ?_ (allI.cons ?_ (allI.cons ?_ (allI.cons ?_ (allI.cons ?_ (allI.cons ?_ (allI.cons ?_ (allI.cons ?_ allI.nil)))))))))))) <;> intro b S cur a hW hSi hdep hS hC <;> refine ⟨(), fun _ _ => rfl, ?_⟩
            · exact o_mv (.tmp 5) rfl (hS.before hC hSi 5 rfl) ⟨rfl, by simpa using hW⟩
            · exact o_fa _ (.tmp 9) 0 rfl (hS.before hC hSi 9 rfl) (fa_plc0 g9 _) ⟨rfl, by simpa using hW⟩
            · exact o_ld _ (.tmp 42) rfl (hS.get 1 (dep_at hdep 1 rfl) rfl rfl) ((hW.1.row (last_get _ _)).cell 0) (fun w => by kernel_rfl) ⟨rfl, by simpa using hW⟩
            · exact o_ix _ (.tmp 41) (.tmp 43) rfl (hS.get 0 (dep_at hdep 0 rfl) rfl rfl) (hS.get 2 (dep_at hdep 2 rfl) rfl rfl) (ix_rows gr k ln o1 _) ⟨rfl, by simpa using hW⟩
            · exact o_ld _ (.tmp 44) rfl (hS.get 3 (dep_at hdep 3 rfl) rfl rfl) (((hW.1.row (pre_get (HX1.out _))).cell ln).trans (slV_get o1 (Nat.le_refl _))) (fun w => by kernel_rfl) ⟨rfl, by simpa using hW⟩
            · exact o_fa _ (.tmp 9) 1 rfl (hS.before hC hSi 9 rfl) (fa_plc1 g9 _) ⟨rfl, by simpa using hW⟩
            · exact o_ld _ (.tmp 46) rfl (hS.get 5 (dep_at hdep 5 rfl) rfl rfl) ((hW.1.row (last_get _ _)).cell 1) (fun w => by kernel_rfl) ⟨rfl, by simpa using hW⟩
            · exact o_fa _ (.tmp 9) 2 rfl (hS.before hC hSi 9 rfl) (fa_plc2 g9 _) ⟨rfl, by simpa using hW⟩
            · exact o_ld _ (.tmp 48) rfl (hS.get 7 (dep_at hdep 7 rfl) rfl rfl) ((hW.1.row (last_get _ _)).cell 2) (fun w => by kernel_rfl) ⟨rfl, by simpa using hW⟩
            · exact o_sl _ (.tmp 45) (some (.tmp 47)) (some (.tmp 49)) none rfl (hS.get 4 (dep_at hdep 4 rfl) rfl rfl) (congrArg some (hS.get 6 (dep_at hdep 6 rfl) rfl rfl)) (congrArg some (hS.get 8 (dep_at hdep 8 rfl) rfl rfl)) rfl (sl_row (gi ln) fr en wd o2 o3 hpl hw1.2 _) ⟨rfl, by simpa using hW⟩
            · exact o_mv (.tmp 8) rfl (hS.before hC hSi 8 rfl) ⟨rfl, by simpa using hW⟩
            · rw [hSi] at hW
              replace hW : OwnR w cur (L ++ [(g9, plcV (ln, fr, en))]) mb r n T (fun j => lf j && !(j == q)) c6 := hW
              refine o_copy_s (.tmp 50) (.tmp 51) _ _ rfl 5 Tryz.underlying47 (by kernel_rfl) (gi ln) fr (en - fr) (wd - fr) (T q) y hy (hS.get 9 (dep_at hdep 9 rfl) rfl rfl) (hS.get 10 (dep_at hdep 10 rfl) rfl rfl) _ (hW.1.row (pre_get HLN.out)) (by rw [List.length_append, Us_length]; have := HY.out.1; omega) ?_
              intro w' hw hr
              refine ⟨rfl, ?_⟩
              rw [splice_Us HY.out.1, HY.out.2] at hr
              have h1 := hW.set (pre_get HLN.out) hw hr
              rw [pre_set HLN.out] at h1
              simpa using h1
          · intro b cur S hall hW
            rw [hall 11 (by decide)] at hW
            simp only [putAll, Act.put, goInt]
            simp
            go_wp2
            go_roundw
            case rel =>
              have h1 : OwnR w cur (L.set (2 + ln) (gi ln, Us (rowF f T (fun j => lf j && !(j == q)) ln) ++ ex ln)) mb r n T (fun j => lf j && !(j == q)) c6 := OwnR.pre hW
              refine ⟨fun j => lf j && !(j == q), c6, Lib.hid ?_⟩
              have h2 : L.set (2 + ln) (gi ln, Us (rowF f T (fun j => lf j && !(j == q)) ln) ++ ex ln) = [(g2, layV f), (gr, slV gi wd k k)] ++ rowsL gi (rowF f T (fun j => lf j && !(j == q))) ex k := by
                rw [← HLL.out]
                exact rowsL_set (A := [(g2, layV f), (gr, slV gi wd k k)]) o1 fun i hi hne => rowF_other HH.out.1 T lf HQ.out.1 (by rw [HE.out.1]; exact hi) HQ.out.2 (by rw [hp]; exact hne)
              rw [← h2]
              exact h1
            case measure =>
              rw [hW.2.1.left_eq, HE2.out.1]; exact HE2.out.2
end Go.Proofs.YtdlcoilpkelbaaaGreatDoor
