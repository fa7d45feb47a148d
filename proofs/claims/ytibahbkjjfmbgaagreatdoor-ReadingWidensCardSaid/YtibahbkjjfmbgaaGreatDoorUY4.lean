/-
  What is proved here: plain facts on lines that are put together field by field, in any order.
-/
import Derived.Test.YtibahbkjjfmbgaaGreatDoorUY3
import Derived.Test.YtibahbkjjfmbgaaGreatDoorUShm
import Derived.Lib.MakeNoZero
import Derived.Lib.BufferWrite
import Derived.Deep.RegionLaw
import Derived.Test.YtibahbkjjfmbgaaGreatDoorUQ8
import Derived.Lib.SlBytesConst
namespace Go.Proofs.YtibahbkjjfmbgaaGreatDoor
open Go.RowKit
set_option linter.unusedVariables false
theorem padT_len (n : Nat) (x : List UInt8) : (padT n x).length = n := by unfold padT; rw [List.length_append, List.length_take, List.length_replicate]; omega
theorem padT_fit {n : Nat} {x : List UInt8} (h : x.length ≤ n) : padT n x = x ++ List.replicate (n - x.length) 60 := by unfold padT; rw [List.take_of_length_le h]
theorem padT_full {n : Nat} {x : List UInt8} (h : x.length = n) : padT n x = x := by rw [padT_fit (by omega), h]; simp
theorem lineT_cons (p : Nat × Nat) (r : List (Nat × Nat)) (T : Nat → List UInt8) : lineT (p :: r) T = padT p.2 (T p.1) ++ lineT r T := rfl
theorem lineT_len (T : Nat → List UInt8) : ∀ sg : List (Nat × Nat), (lineT sg T).length = (sg.map (·.2)).sum
 | [] => rfl
 | p :: r => by rw [lineT_cons, List.length_append, padT_len, lineT_len T r]; simp
theorem seg_sum {f : Int} (h : 1 ≤ f ∧ f ≤ 3) {i : Nat} (hi : i < cntN f) : ((segs f i).map (·.2)).sum = widN f := by
 have h : f = 1 ∨ f = 2 ∨ f = 3 := by omega
 have c1 : cntN 1 = 3 := rfl
 have c2 : cntN 2 = 2 := rfl
 have c3 : cntN 3 = 2 := rfl
 rcases h with rfl | rfl | rfl
 · rw [c1] at hi
   have : i = 0 ∨ i = 1 ∨ i = 2 := by omega
   rcases this with rfl | rfl | rfl <;> rfl
 · rw [c2] at hi
   have : i = 0 ∨ i = 1 := by omega
   rcases this with rfl | rfl <;> rfl
 · rw [c3] at hi
   have : i = 0 ∨ i = 1 := by omega
   rcases this with rfl | rfl <;> rfl
section
variable {gi : Nat → Nat} {R R' : Nat → List UInt8} {ex : Nat → List Value} {n j : Nat} {A : List (Nat × List Value)}
end
theorem Own.drop {w cur : World} {A B : List (Nat × List Value)} {x : Nat × List Value} (h : Own w cur (A ++ x :: B)) : Own w cur (A ++ B) := by
 have key : ∀ (i : Nat) (p : Nat × List Value), (A ++ B)[i]? = some p → (A ++ x :: B)[if i < A.length then i else i + 1]? = some p := by
  intro i p e
  split
  · rename_i hi
    rw [List.getElem?_append_left hi] at e ⊢
    exact e
  · rename_i hi
    rw [List.getElem?_append_right (by omega)] at e ⊢
    rw [show i + 1 - A.length = (i - A.length) + 1 by omega, List.getElem?_cons_succ]
    exact e
 exact ⟨h.1, fun i g vs e => h.2.1 _ g vs (key i _ e), fun i j g g' vs vs' e1 e2 hne => h.2.2 _ _ _ _ _ _ (key i _ e1) (key j _ e2) (by split <;> split <;> omega)⟩
def OwnR (w cur : World) (L : List (Nat × List Value)) (mb r n : Nat) (T : Nat → List UInt8) (lf : Nat → Bool) (cnt : Nat) : Prop :=
 Own w cur L ∧ RangeIs cur mb r n T lf cnt ∧ mb < w.heap.size ∧ w.heap.size ≤ r ∧ ∀ (i g : Nat) (vs : List Value), L[i]? = some (g, vs) → g ≠ r
section
open Go.Maps
variable {w cur cur' : World} {L : List (Nat × List Value)} {mb r n g i cnt : Nat} {T : Nat → List UInt8} {lf : Nat → Bool} {vs us : List Value}
theorem OwnR.bl (h : OwnR w cur L mb r n T lf cnt) : Below w.heap.size w cur := h.1.1
theorem OwnR.start (h : Own w cur L) (hb : Below cur.heap.size cur cur') (hr : RangeIs cur' mb cur.heap.size n T lf cnt) (hm : mb < w.heap.size) : OwnR w cur' L mb cur.heap.size n T lf cnt :=
 ⟨h.on hb, hr, hm, h.1.size, fun i g vs e => by have := (h.row e).lt; omega⟩
theorem OwnR.on (h : OwnR w cur L mb r n T lf cnt) (hb : Below cur.heap.size cur cur') : OwnR w cur' L mb r n T lf cnt := ⟨h.1.on hb, h.2.1.on hb, h.2.2⟩
theorem OwnR.new (h : OwnR w cur L mb r n T lf cnt) (hf : Fresh cur cur' g) (hr : RowV cur' g vs) : OwnR w cur' (L ++ [(g, vs)]) mb r n T lf cnt := by
 refine ⟨h.1.new hf hr, h.2.1.on hf.bw, h.2.2.1, h.2.2.2.1, fun i g' vs' e => ?_⟩
 rw [List.getElem?_append] at e
 split at e
 · exact h.2.2.2.2 i g' vs' e
 · have e' : g' = g := by
    rcases hk : i - L.length with _ | k
    · rw [hk] at e; simp at e; exact e.1.symm
    · rw [hk] at e; simp at e
   have := (h.2.1.map trivial).2.1
   rw [e', hf.1]; omega
theorem OwnR.set (h : OwnR w cur L mb r n T lf cnt) (e : L[i]? = some (g, vs)) (hw : Wr cur cur' g) (hr : RowV cur' g us) : OwnR w cur' (L.set i (g, us)) mb r n T lf cnt := by
 have hne := h.2.2.2.2 i g vs e
 have hge := h.1.ge e
 have hmb := h.2.2.1
 refine ⟨h.1.set e hw hr, h.2.1.kept (wr_grown hw) (by simp; omega) (by simpa using Ne.symm hne), h.2.2.1, h.2.2.2.1, fun j g' vs' hj => ?_⟩
 by_cases hji : j = i
 · subst hji
   rw [List.getElem?_set_self (List.getElem?_eq_some_iff.1 e).1] at hj
   injection hj with hj
   injection hj with h1 _
   rw [← h1]; exact hne
 · rw [List.getElem?_set_ne (Ne.symm hji)] at hj
   exact h.2.2.2.2 j g' vs' hj
theorem OwnR.drop {A B : List (Nat × List Value)} {x : Nat × List Value} (h : OwnR w cur (A ++ x :: B) mb r n T lf cnt) : OwnR w cur (A ++ B) mb r n T lf cnt := by
 refine ⟨h.1.drop, h.2.1, h.2.2.1, h.2.2.2.1, fun i g vs e => ?_⟩
 have key : (A ++ x :: B)[if i < A.length then i else i + 1]? = some (g, vs) := by
  split
  · rename_i hi
    rw [List.getElem?_append_left hi] at e ⊢
    exact e
  · rename_i hi
    rw [List.getElem?_append_right (by omega)] at e ⊢
    rw [show i + 1 - A.length = (i - A.length) + 1 by omega, List.getElem?_cons_succ]
    exact e
 exact h.2.2.2.2 _ g vs key
end
end Go.Proofs.YtibahbkjjfmbgaaGreatDoor
namespace Go.Proofs.YtibahbkjjfmbgaaGreatDoor
open Go.RowKit
set_option linter.unusedVariables false
theorem Own.add {w cur cur' : World} {L : List (Nat × List Value)} {g : Nat} {vs : List Value} (h : Own w cur L) (hb : Below cur.heap.size cur cur') (hr : RowV cur' g vs) (hg : cur.heap.size ≤ g) : Own w cur' (L ++ [(g, vs)]) := by
 have hlt : ∀ (i g' : Nat) (vs' : List Value), L[i]? = some (g', vs') → g' ≠ g := fun i g' vs' e => by have := (h.row e).lt; omega
 refine ⟨below_on h.1 hb, fun i g' vs' e => ?_, fun i j g1 g2 v1 v2 e1 e2 hne => ?_⟩
 · rw [List.getElem?_append] at e
   split at e
   · exact ⟨h.ge e, (h.row e).on hb⟩
   · have e' : g' = g ∧ vs' = vs := by
      rcases hk : i - L.length with _ | k
      · rw [hk] at e; simp at e; exact ⟨e.1.symm, e.2.symm⟩
      · rw [hk] at e; simp at e
     obtain ⟨rfl, rfl⟩ := e'
     exact ⟨Nat.le_trans h.1.size hg, hr⟩
 · rw [List.getElem?_append] at e1 e2
   have key : ∀ (k : Nat) (x : Nat) (y : List Value), [(g, vs)][k]? = some (x, y) → k = 0 ∧ x = g := by
    intro k x y e
    rcases k with _ | k
    · simp at e; exact ⟨rfl, e.1.symm⟩
    · simp at e
   split at e1 <;> split at e2
   · exact h.2.2 i j g1 g2 v1 v2 e1 e2 hne
   · obtain ⟨_, rfl⟩ := key _ _ _ e2; exact hlt i g1 v1 e1
   · obtain ⟨_, rfl⟩ := key _ _ _ e1; exact (hlt j g2 v2 e2).symm
   · have := (key _ _ _ e1).1; have := (key _ _ _ e2).1; omega
theorem at_call_ {P : Program} {ops : Array Oper} {rest : List Oper} {a : Act} {w : World} {Q : Exit → Act → World → Prop} {d : Nat} {x : Call} {t : TypeId} {ps : String} {af : Array Edge} {gd : Option (Nat × Bool)} (h : wpList P ops Q (⟨some d, .call x, t, ps, af, gd⟩ :: rest) a w) : wpList P ops Q (⟨some d, .call x, t, ps, af, gd⟩ :: rest) a w := h
theorem splice_get {α : Type} {vs cs : List α} {off j : Nat} (hf : off + cs.length ≤ vs.length) : (splice vs off cs)[j]? = if j < off then vs[j]? else if j < off + cs.length then cs[j - off]? else vs[j]? := by
 unfold splice
 rw [List.getElem?_append]
 have e1 : (vs.take off).length = off := by rw [List.length_take]; omega
 rw [e1]
 split
 · rename_i h; rw [List.getElem?_take, if_pos h]
 · rename_i h
   rw [List.getElem?_append]
   split
   · rename_i h2; rw [if_pos (by omega)]
   · rename_i h2; rw [if_neg (by omega), List.getElem?_drop]; congr 1; omega
def FillR (vs : List Value) (m : Nat) : Prop := ∀ j, j < m → vs[j]? = some (U 60)
theorem FillR.grow {vs : List Value} {m k : Nat} (h : FillR vs m) (hf : m + k ≤ vs.length) : FillR (splice vs m (List.replicate k (U 60))) (m + k) := by
 intro j hj
 rw [splice_get (by rw [List.length_replicate]; exact hf), List.length_replicate]
 split
 · rename_i h1; exact h j h1
 · rename_i h1; rw [List.getElem?_replicate, if_pos (by omega)]
end Go.Proofs.YtibahbkjjfmbgaaGreatDoor
namespace Go.Proofs.YtibahbkjjfmbgaaGreatDoor
open Go.RowKit Go.Maps
set_option linter.unusedVariables false
theorem lay_cnt {f : Int} (h : 1 ≤ f ∧ f ≤ 3) : (layV f)[1]? = some (.int .i64 ((cntN f : Nat) : Int)) ∧ (layV f)[2]? = some (.int .i64 ((widN f : Nat) : Int)) := by
 have h : f = 1 ∨ f = 2 ∨ f = 3 := by omega
 rcases h with rfl | rfl | rfl <;> exact ⟨rfl, rfl⟩
theorem mk_strs2 (w : World) : (Instr.makeSlice 25 (.int .i64 2) (.int .i64 2)).run Tryz.prog w = .ok (.slice (some ⟨w.heap.size, 0, none⟩) 2 2) (w.alloc (.cells (List.replicate 2 (Value.string ⟨#[]⟩)).toArray 9)) := by kernel_rfl
theorem mk_strs3 (w : World) : (Instr.makeSlice 25 (.int .i64 3) (.int .i64 3)).run Tryz.prog w = .ok (.slice (some ⟨w.heap.size, 0, none⟩) 3 3) (w.alloc (.cells (List.replicate 3 (Value.string ⟨#[]⟩)).toArray 9)) := by kernel_rfl
theorem mk_strs (n : Nat) (hn : n = 2 ∨ n = 3) (w : World) : (Instr.makeSlice 25 (.int .i64 (n : Int)) (.int .i64 (n : Int))).run Tryz.prog w = .ok (.slice (some ⟨w.heap.size, 0, none⟩) n n) (w.alloc (.cells (List.replicate n (Value.string ⟨#[]⟩)).toArray 9)) := by
 rcases hn with rfl | rfl
 · exact mk_strs2 w
 · exact mk_strs3 w
theorem at_make_ {P : Program} {ops : Array Oper} {rest : List Oper} {a : Act} {w : World} {Q : Exit → Act → World → Prop} {d : Nat} {x y : Operand} {ty t : TypeId} {ps : String} {af : Array Edge} {gd : Option (Nat × Bool)} (h : wpList P ops Q (⟨some d, .makeSlice ty x y, t, ps, af, gd⟩ :: rest) a w) : wpList P ops Q (⟨some d, .makeSlice ty x y, t, ps, af, gd⟩ :: rest) a w := h
theorem cell_alloc1 (w : World) (u : Value) (t : TypeId) (fr : Nat × Nat) : (w.alloc (.cells #[u] t fr)).cell? ⟨w.heap.size, 0, none⟩ = some u := by
 have h : (w.alloc (.cells #[u] t fr)).heap[w.heap.size]? = some (.cells #[u] t fr) := by
  show (w.heap.push _)[w.heap.size]? = _
  simp
 unfold World.cell?
 rw [h]
 rfl
theorem size_sb : (Tryz.prog.info? 59).map (·.size) = some 1 := by kernel_rfl
theorem size_st : (Tryz.prog.info? 9).map (·.size) = some 1 := by kernel_rfl
theorem OwnR.pre {w cur : World} {L M : List (Nat × List Value)} {mb r n : Nat} {T : Nat → List UInt8} {lf : Nat → Bool} {cnt : Nat} (h : OwnR w cur (L ++ M) mb r n T lf cnt) : OwnR w cur L mb r n T lf cnt :=
 ⟨h.1.pre, h.2.1, h.2.2.1, h.2.2.2.1, fun i g vs e => h.2.2.2.2 i g vs (by rw [List.getElem?_append_left (List.getElem?_eq_some_iff.1 e).1]; exact e)⟩
theorem RowV.sees {w : World} {g : Nat} {vs us : List Value} (h : RowV w g (vs ++ us)) : Sees w w.heap.size (some ⟨g, 0, none⟩) vs :=
 .inr ⟨g, 0, rfl, h.lt, fun j hj => by rw [Nat.zero_add, h.cell, List.getElem?_append_left hj]⟩
theorem RowV.sees0 {w : World} {g : Nat} {vs : List Value} (h : RowV w g vs) : Sees w w.heap.size (some ⟨g, 0, none⟩) vs :=
 .inr ⟨g, 0, rfl, h.lt, fun j hj => by rw [Nat.zero_add, h.cell]⟩
def svV (ls : List (List UInt8)) (j n : Nat) : List Value := (List.range n).map fun i => if i < j then .string (S (ls.getD i [])) else .string ⟨#[]⟩
theorem svV_len (ls : List (List UInt8)) (j n : Nat) : (svV ls j n).length = n := by simp [svV]
theorem svV_zero (ls : List (List UInt8)) (n : Nat) : svV ls 0 n = List.replicate n (.string ⟨#[]⟩) := by
 unfold svV
 apply List.ext_getElem?
 intro i
 rw [List.getElem?_map, List.getElem?_replicate]
 by_cases h : i < n
 · rw [List.getElem?_range h, if_pos h]; simp
 · rw [List.getElem?_eq_none (by simpa using h), if_neg h]; rfl
theorem svV_set {ls : List (List UInt8)} {j n : Nat} (hj : j < n) : (svV ls j n).set j (.string (S (ls.getD j []))) = svV ls (j + 1) n := by
 apply List.ext_getElem?
 intro i
 by_cases e : i = j
 · subst e
   rw [List.getElem?_set_self (by rw [svV_len]; exact hj)]
   unfold svV
   rw [List.getElem?_map, List.getElem?_range hj]
   simp
 · rw [List.getElem?_set_ne (Ne.symm e)]
   unfold svV
   rw [List.getElem?_map, List.getElem?_map]
   by_cases hi : i < n
   · rw [List.getElem?_range hi]
     simp only [Option.map_some]
     by_cases h3 : i < j
     · rw [if_pos h3, if_pos (by omega)]
     · rw [if_neg h3, if_neg (by omega)]
   · rw [List.getElem?_eq_none (by simpa using hi)]; rfl
theorem svV_all {ls : List (List UInt8)} {n : Nat} (h : ls.length = n) : svV ls n n = strV ls := by
 unfold svV strV
 apply List.ext_getElem?
 intro i
 rw [List.getElem?_map, List.getElem?_map]
 by_cases hi : i < n
 · rw [List.getElem?_range hi, List.getElem?_eq_getElem (by omega)]
   simp only [Option.map_some, if_pos hi, List.getD_eq_getElem?_getD, List.getElem?_eq_getElem (show i < ls.length by omega), Option.getD_some]
 · rw [List.getElem?_eq_none (by simpa using hi), List.getElem?_eq_none (by omega)]
   rfl
theorem linesT_len (f : Int) (T : Nat → List UInt8) : (linesT f T).length = cntN f := by simp [linesT]
theorem linesT_get (f : Int) (T : Nat → List UInt8) {j : Nat} (h : j < cntN f) : (linesT f T).getD j [] = lineT (segs f j) T := by
 unfold linesT
 rw [List.getD_eq_getElem?_getD, List.getElem?_map, List.getElem?_range h]
 rfl
end Go.Proofs.YtibahbkjjfmbgaaGreatDoor
