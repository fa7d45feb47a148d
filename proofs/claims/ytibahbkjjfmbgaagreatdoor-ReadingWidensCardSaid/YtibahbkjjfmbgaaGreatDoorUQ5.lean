/-
  What is proved here: the law's doubt: a reading of lines in which some places were made doubtful.
-/
import Derived.Test.YtibahbkjjfmbgaaGreatDoorUZln
import Derived.Test.YtibahbkjjfmbgaaGreatDoorUQ1
import Derived.Test.YtibahbkjjfmbgaaGreatDoorUQ3
import Derived.Test.YtibahbkjjfmbgaaGreatDoorURlm
import Derived.Test.YtibahbkjjfmbgaaGreatDoorUY16
namespace Go.Proofs.YtibahbkjjfmbgaaGreatDoor
open Go.RowKit
set_option linter.unusedVariables false
structure DbI (lo g0 n : Nat) (cs : List Value) (gR cR : Nat → Nat) (eR : Nat → List Value) (X : World) (L : List (List (List UInt8))) : Prop where
 len : L.length = n
 lo0 : lo ≤ g0
 r0 : RowV X g0 (((List.range n).map fun i => Value.slice (some ⟨gR i, 0, none⟩) (L.getD i []).length (cR i)) ++ cs)
 rw : ∀ i, i < n → lo ≤ gR i ∧ gR i ≠ g0 ∧ RowV X (gR i) (strV (L.getD i []) ++ eR i)
 ne : ∀ i j, i < n → j < n → i ≠ j → gR i ≠ gR j
section
variable {lo g0 n : Nat} {cs : List Value} {gR cR : Nat → Nat} {eR : Nat → List Value} {X Y : World} {L : List (List (List UInt8))}
theorem DbI.keep (h : DbI lo g0 n cs gR cR eR X L) (hk : ∀ g, lo ≤ g → g < X.heap.size → Y.heap[g]? = X.heap[g]?) : DbI lo g0 n cs gR cR eR Y L :=
 ⟨h.len, h.lo0, h.r0.same (hk g0 h.lo0 h.r0.lt), fun i hi => ⟨(h.rw i hi).1, (h.rw i hi).2.1, (h.rw i hi).2.2.same (hk _ (h.rw i hi).1 (h.rw i hi).2.2.lt)⟩, h.ne⟩
theorem DbI.on (h : DbI lo g0 n cs gR cR eR X L) (hb : Below X.heap.size X Y) : DbI lo g0 n cs gR cR eR Y L := h.keep fun g _ hg => hb.block g hg
theorem DbI.dice (h : DbI lo g0 n cs gR cR eR X L) {D : Nat} (hg : X.grownBy Y (some D)) (hD : D < lo) : DbI lo g0 n cs gR cR eR Y L := h.keep fun g h1 h2 => hg.block g h2 (by intro e; injection e with e; omega)
theorem DbI.cell1 (h : DbI lo g0 n cs gR cR eR X L) {i k : Nat} (hi : i < n) (hk : k < (L.getD i []).length) : X.cell? ⟨gR i, k, none⟩ = some (.string (S ((L.getD i []).getD k []))) := by
 rw [(h.rw i hi).2.2.cell, List.getElem?_append_left (by rw [strV_len]; exact hk)]
 generalize L.getD i [] = r at hk
 simp [strV, List.getD, hk]
theorem DbI.rdg (h : DbI lo g0 n cs gR cR eR X L) : Rdg X (some ⟨g0, 0, none⟩) L := by
 refine ⟨(List.range n).map fun i => Value.slice (some ⟨gR i, 0, none⟩) (L.getD i []).length (cR i), h.r0.sees, by simp [h.len], fun i r hr => ?_⟩
 have hi : i < n := by rw [← h.len]; exact (List.getElem?_eq_some_iff.1 hr).1
 have e : L.getD i [] = r := by simp [List.getD, hr]
 refine ⟨some ⟨gR i, 0, none⟩, cR i, by rw [List.getElem?_map, List.getElem?_range hi, ← e]; rfl, ?_⟩
 have := (h.rw i hi).2.2
 rw [e] at this
 exact this.sees
theorem strV_set (ls : List (List UInt8)) (k : Nat) (x : List UInt8) : (strV ls).set k (.string (S x)) = strV (ls.set k x) := by simp [strV, List.map_set]
theorem DbI.put (h : DbI lo g0 n cs gR cR eR X L) {i k : Nat} {s : List UInt8} (hi : i < n) (hk : k < (L.getD i []).length) (hw : Wr X Y (gR i)) (hr : RowV Y (gR i) ((strV (L.getD i []) ++ eR i).set k (.string (S s)))) : DbI lo g0 n cs gR cR eR Y (putL L i k s) := by
 have hil : i < L.length := by rw [h.len]; exact hi
 have hll : ∀ j, ((putL L i k s).getD j []).length = (L.getD j []).length := fun j => by
  rw [putL_row L k s hil]
  split
  · rename_i e; subst e; simp
  · rfl
 refine ⟨by rw [putL_len]; exact h.len, h.lo0, ?_, fun j hj => ⟨(h.rw j hj).1, (h.rw j hj).2.1, ?_⟩, h.ne⟩
 · have : (fun j => Value.slice (some ⟨gR j, 0, none⟩) ((putL L i k s).getD j []).length (cR j)) = fun j => Value.slice (some ⟨gR j, 0, none⟩) (L.getD j []).length (cR j) := by funext j; rw [hll]
   rw [this]
   exact h.r0.wr hw (fun e => (h.rw i hi).2.1 e.symm)
 · rw [putL_row L k s hil]
   split
   · rename_i e; subst e
     rw [List.set_append_left _ _ (by rw [strV_len]; exact hk), strV_set] at hr
     exact hr
   · rename_i e
     exact (h.rw j hj).2.2.wr hw (h.ne j i hj hi e)
end
structure DbtOk (ls : List (List UInt8)) (L : List (List (List UInt8))) (q : Nat) (b : Bool) : Prop where
 lens : L.map List.length = ls.map List.length
 cm : cmplL L = true
 sz : sizeS L ≤ 4 ^ q
 st : ∀ i k, ((L.getD i []).getD k []).length ≤ 1 + 3 * q
 mem : b = true → ∀ i, i < L.length → ∀ k, k < (L.getD i []).length → (ls.getD i []).getD k 0 ∈ (L.getD i []).getD k []
theorem DbtOk.put {ls : List (List UInt8)} {L : List (List (List UInt8))} {q : Nat} {b b' : Bool} (h : DbtOk ls L q b) {i k : Nat} {s : List UInt8} (hi : i < L.length) (hk : k < (L.getD i []).length) (h0 : s ≠ []) (hl : s.length ≤ 3 + ((L.getD i []).getD k []).length)
 (hb : b' = true → b = true ∧ ∀ c, c ∈ (L.getD i []).getD k [] → c ∈ s) : DbtOk ls (putL L i k s) (q + 1) b' := by
 have hold : 1 ≤ ((L.getD i []).getD k []).length := by
  rcases Nat.eq_zero_or_pos ((L.getD i []).getD k []).length with e | e
  · exact absurd (List.eq_nil_of_length_eq_zero e) (comp_ne h.cm hi hk)
  · exact e
 refine ⟨by rw [putL_lens L k s hi]; exact h.lens, cmpl_put h.cm k hi hk h0, ?_, fun j m => ?_, fun e j hj m hm => ?_⟩
 · have h1 := size_put L i k s 4 (by decide) (by omega)
   rw [Nat.pow_succ]
   have := h.sz
   omega
 · rw [putL_place L s hi hk]
   split
   · have := h.st i k; omega
   · have := h.st j m; omega
 · obtain ⟨h1, h2⟩ := hb e
   rw [putL_len] at hj
   rw [putL_place L s hi hk]
   have hm2 : m < (L.getD j []).length := by
    rw [putL_row L k s hi] at hm
    split at hm
    · rename_i e; subst e; simpa using hm
    · exact hm
   split
   · rename_i e
     obtain ⟨rfl, rfl⟩ := e
     exact h2 _ (h.mem h1 j hj m hm2)
   · exact h.mem h1 j hj m hm2
theorem DbtOk.up {ls : List (List UInt8)} {L : List (List (List UInt8))} {q q' : Nat} {b : Bool} (h : DbtOk ls L q b) (hq : q ≤ q') : DbtOk ls L q' b :=
 ⟨h.lens, h.cm, Nat.le_trans h.sz (Nat.pow_le_pow_right (by decide) hq), fun i k => Nat.le_trans (h.st i k) (by omega), h.mem⟩
theorem DbtOk.fits {ls : List (List UInt8)} {L : List (List (List UInt8))} {q : Nat} {b : Bool} (h : DbtOk ls L q b) (hq : q ≤ 100) : Fits3 L := by
 refine ⟨by have := comp_len h.cm; omega, fun r hr => ?_, fun r hr s hs => ?_⟩
 · obtain ⟨i, hi, rfl⟩ := List.getElem_of_mem hr
   have := (comp_row h.cm hi).1
   rw [List.getD_eq_getElem?_getD, List.getElem?_eq_getElem hi, Option.getD_some] at this
   omega
 · obtain ⟨i, hi, rfl⟩ := List.getElem_of_mem hr
   obtain ⟨k, hk, rfl⟩ := List.getElem_of_mem hs
   have := h.st i k
   rw [List.getD_eq_getElem?_getD (l := L), List.getElem?_eq_getElem hi, Option.getD_some, List.getD_eq_getElem?_getD, List.getElem?_eq_getElem hk, Option.getD_some] at this
   omega
theorem DbtOk.cnt {ls : List (List UInt8)} {L : List (List (List UInt8))} {q : Nat} {b : Bool} (h : DbtOk ls L q b) (hq : q ≤ 6) : cntE L = 0 :=
 cnt_ok h.cm (Nat.le_trans h.sz (Nat.le_trans (Nat.pow_le_pow_right (by decide) hq) (by decide)))
end Go.Proofs.YtibahbkjjfmbgaaGreatDoor
