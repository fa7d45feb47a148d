/-
  What is proved here: the function value of the program's Transliterate that puts letters behind a text.
-/
import Derived.Test.YtfkcnbcifidlgaaDoorOup
import Derived.Test.YtfkcnbcifidlgaaDoorDx
import Derived.Lib.AppendStr
namespace Go.Proofs.YtfkcnbcifidlgaaDoor
open Go.RowKit
set_option linter.unusedSimpArgs false

/-- one cell of its own -/
def One (w : World) (b : Nat) (t : TypeId) (v : Value) : Prop := w.heap[b]? = some (.cells #[v] t (0, 0))
theorem One.cell {w : World} {b : Nat} {t : TypeId} {v : Value} (h : One w b t v) : w.cell? ⟨b, 0, none⟩ = some v := by
  unfold World.cell?; rw [h]; rfl
theorem One.frozen {w : World} {b : Nat} {t : TypeId} {v : Value} (h : One w b t v) : w.frozen? ⟨b, 0, none⟩ = false := by
  unfold World.frozen?; rw [h]; rfl
theorem One.set {w : World} {b : Nat} {t : TypeId} {v : Value} (h : One w b t v) (u : Value) : One (w.setCell ⟨b, 0, none⟩ u) b t u := by
  unfold One World.setCell
  dsimp only
  unfold One at h
  rw [Array.getElem?_modify, if_pos rfl, h]
  simp
theorem One.other {w : World} {b c : Nat} {t : TypeId} {v : Value} (h : One w b t v) (hne : b ≠ c) (u : Value) : One (w.setCell ⟨c, 0, none⟩ u) b t v := by
  unfold One; rw [heap_setCell_other w ⟨c, 0, none⟩ b u hne]; exact h
theorem One.lt {w : World} {b : Nat} {t : TypeId} {v : Value} (h : One w b t v) : b < w.heap.size := (Array.getElem?_eq_some_iff.1 h).1

/-- what changes but the two cells and the row of its own lies above -/
structure Stp (tb pb base : Nat) (w w' : World) : Prop where
  os : w'.os = w.os
  tape : w'.tape = w.tape
  output : w'.output = w.output
  size : w.heap.size ≤ w'.heap.size
  block : ∀ k, k < base → k ≠ tb → k ≠ pb → w'.heap[k]? = w.heap[k]?
theorem Stp.refl (tb pb base : Nat) (w : World) : Stp tb pb base w w := ⟨rfl, rfl, rfl, Nat.le_refl _, fun _ _ _ _ => rfl⟩
theorem Stp.trans {tb pb base : Nat} {a b c : World} (h : Stp tb pb base a b) (k : Stp tb pb base b c) : Stp tb pb base a c :=
  ⟨k.os.trans h.os, k.tape.trans h.tape, k.output.trans h.output, Nat.le_trans h.size k.size, fun i h1 h2 h3 => (k.block i h1 h2 h3).trans (h.block i h1 h2 h3)⟩
theorem Stp.of_below {tb pb base : Nat} {a b : World} (h : Below a.heap.size a b) (hb : base ≤ a.heap.size) : Stp tb pb base a b :=
  ⟨h.os, h.tape, h.output, h.size, fun i h1 _ _ => h.block i (by omega)⟩
theorem Stp.set {tb pb base : Nat} (w : World) (c : Nat) (hc : c = tb ∨ c = pb) (u : Value) : Stp tb pb base w (w.setCell ⟨c, 0, none⟩ u) :=
  ⟨rfl, rfl, rfl, by simp [World.setCell], fun i _ h2 h3 => heap_setCell_other w ⟨c, 0, none⟩ i u (by show i ≠ c; rcases hc with h | h <;> omega)⟩
theorem Stp.grown {tb pb base : Nat} {w w' : World} {v : Value} {n : Nat} {xs : List Value} {e : TypeId} (h : w.grownBy w' v.ownBlock) (ho : w.ownsRow base e 1 v n xs) (hb : base ≤ w.heap.size) : Stp tb pb base w w' :=
  ⟨h.os, h.tape, h.output, h.size, fun i h1 _ _ => h.block i (by omega) (fun e => by have := (ho.lt i e.symm).1; omega)⟩
theorem Stp.below {tb pb base B : Nat} {w w' : World} (h : Stp tb pb base w w') (h1 : B ≤ tb) (h2 : B ≤ pb) (h3 : B ≤ base) : Below B w w' :=
  ⟨h.os, h.tape, h.output, h.size, fun i hi => h.block i (by omega) (by omega) (by omega)⟩
theorem own_set {w : World} {base : Nat} {e : TypeId} {v : Value} {n : Nat} {xs : List Value} (ho : w.ownsRow base e 1 v n xs) (c : Nat) (hc : c < base) (u : Value) : (w.setCell ⟨c, 0, none⟩ u).ownsRow base e 1 v n xs := by
  refine ho.kept (row := some c) ⟨rfl, rfl, rfl, by simp [World.setCell], fun k _ hk => heap_setCell_other w ⟨c, 0, none⟩ k u (by intro e; exact hk (by rw [e]))⟩ ?_
  cases hv : v.ownBlock with
  | none => exact .inl rfl
  | some k => exact .inr (by intro e; have := (ho.lt k hv).1; injection e with e; omega)

/-- the two cells, and the bytes -/
structure Tx (tb pb base : Nat) (t : List UInt8) (g : Bool) (v : Value) (w : World) : Prop where
  cell : One w tb 40 v
  part : One w pb 4 (.bool g)
  own : w.ownsRow base 5 1 v t.length (Us t)
  ne : tb ≠ pb
  lt : tb < base
  lp : pb < base
  up : base ≤ w.heap.size

theorem Tx.below {tb pb base : Nat} {t : List UInt8} {g : Bool} {v : Value} {w w' : World} (h : Tx tb pb base t g v w) (hb : Below w.heap.size w w') : Tx tb pb base t g v w' :=
  ⟨(hb.block tb h.cell.lt).trans h.cell, (hb.block pb h.part.lt).trans h.part, h.own.kept (row := none) ⟨hb.os, hb.tape, hb.output, hb.size, fun k hk _ => hb.block k hk⟩ (by cases v.ownBlock <;> simp), h.ne, h.lt, h.lp, Nat.le_trans h.up hb.size⟩
theorem Tx.gap {tb pb base : Nat} {t : List UInt8} {g : Bool} {v : Value} {w : World} (h : Tx tb pb base t g v w) (g2 : Bool) : Tx tb pb base t g2 v (w.setCell ⟨pb, 0, none⟩ (.bool g2)) :=
  ⟨h.cell.other h.ne _, h.part.set _, own_set h.own pb h.lp _, h.ne, h.lt, h.lp, by simp [World.setCell]; exact h.up⟩
theorem Tx.put {tb pb base : Nat} {t t2 : List UInt8} {g : Bool} {v v2 : Value} {w w2 : World} (h : Tx tb pb base t g v w) (hg : w.grownBy w2 v.ownBlock) (ho : w2.ownsRow base 5 1 v2 t2.length (Us t2)) : Tx tb pb base t2 g v2 (w2.setCell ⟨tb, 0, none⟩ v2) := by
  have hk : ∀ b, b < base → w2.heap[b]? = w.heap[b]? := fun b hb => hg.block b (by have := h.up; omega) (fun e => by have := (h.own.lt b e.symm).1; omega)
  have c1 : One w2 tb 40 v := (hk tb h.lt).trans h.cell
  have c2 : One w2 pb 4 (.bool g) := (hk pb h.lp).trans h.part
  exact ⟨c1.set _, c2.other (fun e => h.ne e.symm) _, own_set ho tb h.lt _, h.ne, h.lt, h.lp, by simp [World.setCell]; exact Nat.le_trans h.up hg.size⟩

theorem Tx.mid {tb pb base : Nat} {t : List UInt8} {g : Bool} {v : Value} {w w2 : World} (h : Tx tb pb base t g v w) (hg : w.grownBy w2 v.ownBlock) : One w2 tb 40 v ∧ One w2 pb 4 (.bool g) := by
  have hk : ∀ b, b < base → w2.heap[b]? = w.heap[b]? := fun b hb => hg.block b (by have := h.up; omega) (fun e => by have := (h.own.lt b e.symm).1; omega)
  exact ⟨(hk tb h.lt).trans h.cell, (hk pb h.lp).trans h.part⟩
theorem Us_one32 (t : List UInt8) : Us t ++ [Value.int .u8 32] = Us (t ++ [32]) := by simp [Us, U]
theorem str_us (ox : ByteArray) (x : List UInt8) (h : ox = S x) : Lib.strCells ox = Us x := by
  rw [h]; unfold Lib.strCells Us; rw [S_data]; rfl

theorem put_first {tb pb base : Nat} {t : List UInt8} {g : Bool} {v v3 : Value} {w w3 : World} (h : Tx tb pb base t g v w) (o : Obj) (ho : w3.ownsRow base 5 1 v3 (t.length + 1) (Us t ++ [Value.int .u8 32])) (hg : (w.alloc o).grownBy w3 v.ownBlock) :
    w3.cell? ⟨tb, 0, none⟩ = some v ∧ w3.frozen? ⟨tb, 0, none⟩ = false ∧ Tx tb pb base (t ++ [32]) false v3 ((w3.setCell ⟨tb, 0, none⟩ v3).setCell ⟨pb, 0, none⟩ (.bool false)) ∧ Stp tb pb base w ((w3.setCell ⟨tb, 0, none⟩ v3).setCell ⟨pb, 0, none⟩ (.bool false)) ∧
      (w3.setCell ⟨tb, 0, none⟩ v3).cell? ⟨pb, 0, none⟩ = some (.bool g) ∧ (w3.setCell ⟨tb, 0, none⟩ v3).frozen? ⟨pb, 0, none⟩ = false := by
  have hb : Below w.heap.size w (w.alloc o) := (Below.refl _ w).alloc (Nat.le_refl _) o
  have Tal := h.below hb
  have hm := Tal.mid hg
  have T4 := Tal.put (t2 := t ++ [32]) hg (by rw [← Us_one32, List.length_append]; exact ho)
  exact ⟨hm.1.cell, hm.1.frozen, T4.gap false, (((Stp.of_below hb h.up).trans (Stp.grown hg Tal.own Tal.up)).trans (Stp.set w3 tb (.inl rfl) _)).trans (Stp.set _ pb (.inr rfl) _), T4.part.cell, T4.part.frozen⟩
theorem put_last {tb pb base : Nat} {t x : List UInt8} {g : Bool} {v v3 : Value} {w w3 : World} {ox : ByteArray} (h : Tx tb pb base t g v w) (hx : ox = S x) (ho : w3.ownsRow base 5 1 v3 (t.length + ox.size) (Us t ++ Lib.strCells ox)) (hg : w.grownBy w3 v.ownBlock) :
    w3.cell? ⟨tb, 0, none⟩ = some v ∧ w3.frozen? ⟨tb, 0, none⟩ = false ∧ Tx tb pb base (t ++ x) g v3 (w3.setCell ⟨tb, 0, none⟩ v3) ∧ Stp tb pb base w (w3.setCell ⟨tb, 0, none⟩ v3) := by
  have hm := h.mid hg
  have T4 := h.put (t2 := t ++ x) hg (by rw [str_us ox x hx, hx, S_size] at ho; rw [List.length_append]; simpa [Us] using ho)
  exact ⟨hm.1.cell, hm.1.frozen, T4, (Stp.grown hg h.own h.up).trans (Stp.set w3 tb (.inl rfl) _)⟩

set_option maxRecDepth 40000 in
set_option maxHeartbeats 4000000 in
theorem p_put (tb pb base : Nat) (t x : List UInt8) (g : Bool) (v : Value) (ox : ByteArray) (hx : ox = S x) (w : World) (h : Tx tb pb base t g v w) (hl : t.length ≤ 100000000) (hxl : x.length ≤ 2) :
    Calls Tryd.prog 32 #[.string ox, .pointer (some ⟨pb, 0, none⟩), .pointer (some ⟨tb, 0, none⟩)] w fun e w' => (∃ r, e = .returned r) ∧ Stp tb pb base w w' ∧ ∃ v', Tx tb pb base (t ++ (if g = true ∧ t ≠ [] then [32] else []) ++ x) false v' w' := by
  obtain ⟨i0, hi, hz0, hz1, hz2⟩ := info_parts info_u8b
  have hxs : ox.size ≤ 2 := by rw [hx, S_size]; exact hxl
  have HOX := Lib.hid hx
  have hc1 := h.cell.cell
  have hf1 := h.cell.frozen
  have hc2 := h.part.cell
  have hf2 := h.part.frozen
  obtain ⟨A, c, hv⟩ := own_len h.own
  have H := Lib.hid h
  have HL := Lib.hid hl
  by_cases hg : g = true ∧ t ≠ []
  · have hlt : (0 : Int) < t.length := by have := List.length_pos_iff.2 hg.2; omega
    have hgt := hg.1
    rw [if_pos hg]
    subst hgt
    subst hv
    have hq1 : Hid (t.length + 1 ≤ maxLen) := Lib.hid (by unfold maxLen; omega)
    have hq2 : Hid ((t.length + 1) * 1 ≤ 140737488355328) := Lib.hid (by omega)
    have hq3 : Hid (∀ o : Obj, base ≤ (w.alloc o).heap.size) := Lib.hid (fun o => Nat.le_trans H.out.up ((Below.refl _ w).alloc (Nat.le_refl _) o).size)
    clear hx h hl hg hxl
    go_enter Tryd.func32, Tryd.ntmps32
    go_wp2_with (first
      | (at_builtin; (refine wpList_append_own _ rfl (.tmp 10) (.tmp 11) 40 rfl base 5 i0 (.int .u8 0) 1 1 Tryd.underlying40 hi hz0 hz1 hz2 rfl (by decide) (.slice A t.length c) t.length _ rfl (H.out.own.alloc _) ⟨_, 0, none⟩ 1 1 [.int .u8 32] rfl rfl (World.news_of_block (heap_alloc_new _ _)) (one_cell1 _) hq1.out hq2.out (hq3.out _) ?_; intro v3 w3 ho3 hg3 _; obtain ⟨A3, c3, rfl⟩ := own_len ho3; obtain ⟨m1, m2, T5, S5, n1, n2⟩ := put_first H.out _ ho3 hg3; have p1 := T5.cell.cell; have p2 := T5.cell.frozen; have HT5 := Lib.hid T5; have HS5 := Lib.hid S5; clear T5 S5 ho3 hg3))
      | (at_builtin; (refine Lib.wpList_append_own_string _ rfl (.tmp 13) (.tmp 14) 40 9 rfl base 5 i0 Tryd.underlying40 Tryd.underlying9 hi hz0 hz1 hz2 _ _ _ rfl HT5.out.own ox rfl (by have := HL.out; unfold maxLen; simp; omega) (by have := HL.out; simp; omega) HT5.out.up ?_; intro v6 w6 ho6 hg6 _; obtain ⟨A6, c6, rfl⟩ := own_len ho6; obtain ⟨q1, q2, T7, S7⟩ := put_last HT5.out HOX.out ho6 hg6; have HT7 := Lib.hid T7; have HS7 := Lib.hid S7; clear T7 S7 ho6 hg6)))
    have e1 := HS5.out.trans HS7.out
    have e2 := HT7.out
    try simp only [List.length_append, List.length_cons, List.length_nil, Nat.zero_add] at e1 e2 ⊢
    exact ⟨rfl, _, results_none rfl _ _ _, ⟨_, rfl⟩, e1, _, e2⟩
  · rw [if_neg hg, List.append_nil]
    have T5 := H.out.gap false
    have p1 := T5.cell.cell
    have p2 := T5.cell.frozen
    have HT5 := Lib.hid T5
    have HS5 := Lib.hid (Stp.set (tb := tb) (pb := pb) (base := base) w pb (.inr rfl) (.bool false))
    subst hv
    clear T5 hx h hl hxl
    rcases g with _ | _
    · clear hg
      go_enter Tryd.func32, Tryd.ntmps32
      go_wp2_with (at_builtin; (refine Lib.wpList_append_own_string _ rfl (.tmp 13) (.tmp 14) 40 9 rfl base 5 i0 Tryd.underlying40 Tryd.underlying9 hi hz0 hz1 hz2 _ _ _ rfl HT5.out.own ox rfl (by have := HL.out; unfold maxLen; simp; omega) (by have := HL.out; simp; omega) HT5.out.up ?_; intro v6 w6 ho6 hg6 _; obtain ⟨A6, c6, rfl⟩ := own_len ho6; obtain ⟨q1, q2, T7, S7⟩ := put_last HT5.out HOX.out ho6 hg6; have HT7 := Lib.hid T7; have HS7 := Lib.hid S7; clear T7 S7 ho6 hg6))
      have e1 := HS5.out.trans HS7.out
      have e2 := HT7.out
      try simp only [List.length_append, List.length_cons, List.length_nil, Nat.zero_add] at e1 e2 ⊢
      exact ⟨rfl, _, results_none rfl _ _ _, ⟨_, rfl⟩, e1, _, e2⟩
    · have ht : t = [] := by by_cases e : t = []; exact e; exact absurd ⟨rfl, e⟩ hg
      subst ht
      clear hg
      go_enter Tryd.func32, Tryd.ntmps32
      go_wp2_with (at_builtin; (refine Lib.wpList_append_own_string _ rfl (.tmp 13) (.tmp 14) 40 9 rfl base 5 i0 Tryd.underlying40 Tryd.underlying9 hi hz0 hz1 hz2 _ _ _ rfl HT5.out.own ox rfl (by have := HL.out; unfold maxLen; simp; omega) (by have := HL.out; simp; omega) HT5.out.up ?_; intro v6 w6 ho6 hg6 _; obtain ⟨A6, c6, rfl⟩ := own_len ho6; obtain ⟨q1, q2, T7, S7⟩ := put_last HT5.out HOX.out ho6 hg6; have HT7 := Lib.hid T7; have HS7 := Lib.hid S7; clear T7 S7 ho6 hg6))
      have e1 := HS5.out.trans HS7.out
      have e2 := HT7.out
      try simp only [List.length_append, List.length_cons, List.length_nil, Nat.zero_add] at e1 e2 ⊢
      exact ⟨rfl, _, results_none rfl _ _ _, ⟨_, rfl⟩, e1, _, e2⟩

end Go.Proofs.YtfkcnbcifidlgaaDoor
