/-
  What is proved here: the law's doubt: a reading of lines in which some places were made doubtful.
-/
import Derived.Test.YtibahbkjjfmbgaaGreatDoorPZln
import Derived.Test.YtibahbkjjfmbgaaGreatDoorPQ1
import Derived.Test.YtibahbkjjfmbgaaGreatDoorPQ3
import Derived.Test.YtibahbkjjfmbgaaGreatDoorPRlm
import Derived.Test.YtibahbkjjfmbgaaGreatDoorPY16
namespace Go.Proofs.YtibahbkjjfmbgaaGreatDoor
open Go.RowKit
set_option linter.unusedVariables false
structure DbI (lo g0 n : Nat) (cs : List Value) (gR cR : Nat → Nat) (eR : Nat → List Value) (X : World) (L : List (List (List UInt8))) : Prop where
 len : L.length = n
 lo0 : lo ≤ g0
 r0 : RowV X g0 (((List.range n).map fun i => Value.slice (some ⟨gR i, 0, none⟩) (L.getD i []).length (cR i)) ++ cs)
 rw : ∀ i, i < n → lo ≤ gR i ∧ gR i ≠ g0 ∧ RowV X (gR i) (strV (L.getD i []) ++ eR i)
 ne : ∀ i j, i < n → j < n → i ≠ j → gR i ≠ gR j
section
variable {lo g0 n : Nat} {cs : List Value} {gR cR : Nat → Nat} {eR : Nat → List Value} {X Y : World} {L : List (List (List UInt8))}
theorem DbI.keep (h : DbI lo g0 n cs gR cR eR X L) (hk : ∀ g, lo ≤ g → g < X.heap.size → Y.heap[g]? = X.heap[g]?) : DbI lo g0 n cs gR cR eR Y L :=
 ⟨h.len, h.lo0, h.r0.same (hk g0 h.lo0 h.r0.lt), fun i hi => ⟨(h.rw i hi).1, (h.rw i hi).2.1, (h.rw i hi).2.2.same (hk _ (h.rw i hi).1 (h.rw i hi).2.2.lt)⟩, h.ne⟩
theorem DbI.on (h : DbI lo g0 n cs gR cR eR X L) (hb : Below X.heap.size X Y) : DbI lo g0 n cs gR cR eR Y L := h.keep fun g _ hg => hb.block g hg
theorem DbI.dice (h : DbI lo g0 n cs gR cR eR X L) {D : Nat} (hg : X.grownBy Y (some D)) (hD : D < lo) : DbI lo g0 n cs gR cR eR Y L := h.keep fun g h1 h2 => hg.block g h2 (by intro e; injection e with e; omega)
theorem DbI.cell0 (h : DbI lo g0 n cs gR cR eR X L) {i : Nat} (hi : i < n) : X.cell? ⟨g0, i, none⟩ = some (.slice (some ⟨gR i, 0, none⟩) (L.getD i []).length (cR i)) := by
 rw [h.r0.cell, List.getElem?_append_left (by simpa using hi), List.getElem?_map, List.getElem?_range hi]; rfl
theorem DbI.cell1 (h : DbI lo g0 n cs gR cR eR X L) {i k : Nat} (hi : i < n) (hk : k < (L.getD i []).length) : X.cell? ⟨gR i, k, none⟩ = some (.string (S ((L.getD i []).getD k []))) := by
 rw [(h.rw i hi).2.2.cell, List.getElem?_append_left (by rw [strV_len]; exact hk)]
 generalize L.getD i [] = r at hk
 simp [strV, List.getD, hk]
theorem DbI.rdg (h : DbI lo g0 n cs gR cR eR X L) : Rdg X (some ⟨g0, 0, none⟩) L := by
 refine ⟨(List.range n).map fun i => Value.slice (some ⟨gR i, 0, none⟩) (L.getD i []).length (cR i), h.r0.sees, by simp [h.len], fun i r hr => ?_⟩
 have hi : i < n := by rw [← h.len]; exact (List.getElem?_eq_some_iff.1 hr).1
 have e : L.getD i [] = r := by simp [List.getD, hr]
 refine ⟨some ⟨gR i, 0, none⟩, cR i, by rw [List.getElem?_map, List.getElem?_range hi, ← e]; rfl, ?_⟩
 have := (h.rw i hi).2.2
 rw [e] at this
 exact this.sees
theorem strV_set (ls : List (List UInt8)) (k : Nat) (x : List UInt8) : (strV ls).set k (.string (S x)) = strV (ls.set k x) := by simp [strV, List.map_set]
theorem DbI.put (h : DbI lo g0 n cs gR cR eR X L) {i k : Nat} {s : List UInt8} (hi : i < n) (hk : k < (L.getD i []).length) (hw : Wr X Y (gR i)) (hr : RowV Y (gR i) ((strV (L.getD i []) ++ eR i).set k (.string (S s)))) : DbI lo g0 n cs gR cR eR Y (putL L i k s) := by
 have hil : i < L.length := by rw [h.len]; exact hi
 have hll : ∀ j, ((putL L i k s).getD j []).length = (L.getD j []).length := fun j => by
  rw [putL_row L k s hil]
  split
  · rename_i e; subst e; simp
  · rfl
 refine ⟨by rw [putL_len]; exact h.len, h.lo0, ?_, fun j hj => ⟨(h.rw j hj).1, (h.rw j hj).2.1, ?_⟩, h.ne⟩
 · have : (fun j => Value.slice (some ⟨gR j, 0, none⟩) ((putL L i k s).getD j []).length (cR j)) = fun j => Value.slice (some ⟨gR j, 0, none⟩) (L.getD j []).length (cR j) := by funext j; rw [hll]
   rw [this]
   exact h.r0.wr hw (fun e => (h.rw i hi).2.1 e.symm)
 · rw [putL_row L k s hil]
   split
   · rename_i e; subst e
     rw [List.set_append_left _ _ (by rw [strV_len]; exact hk), strV_set] at hr
     exact hr
   · rename_i e
     exact (h.rw j hj).2.2.wr hw (h.ne j i hj hi e)
end
theorem dbI_of {w : World} {lo n c : Nat} {A : Option Addr} {vs : List Value} {L : List (List (List UInt8))} (h : w.ownsRow lo 25 1 (.slice A n c) n vs) (hi : InnR w lo vs L) (hn : L.length = n) (h0 : 0 < n) (hr : ∀ i, i < n → 0 < (L.getD i []).length) :
 ∃ (g0 : Nat) (cs : List Value) (gR cR : Nat → Nat) (eR : Nat → List Value), A = some ⟨g0, 0, none⟩ ∧ DbI lo g0 n cs gR cR eR w L := by
 obtain ⟨g0, cs, rfl, hb0, hr0⟩ := own_row h h0
 have hx : ∀ i, i < n → ∃ t : Nat × Nat × List Value, vs[i]? = some (.slice (some ⟨t.1, 0, none⟩) (L.getD i []).length t.2.1) ∧ lo ≤ t.1 ∧ t.1 ≠ g0 ∧ RowV w t.1 (strV (L.getD i []) ++ t.2.2) := fun i hi2 => by
  obtain ⟨A0, c0, e0, o0⟩ := hi.2.1 i (L.getD i []) (by simp [List.getD, show i < L.length by omega])
  obtain ⟨ga, ca, rfl, hba, hra⟩ := own_row o0 (hr i hi2)
  refine ⟨(ga, c0, ca), e0, hba, ?_, hra⟩
  rcases ownR_apart h o0 (by decide) with e | e
  · cases e
  · exact fun x => e (congrArg some (show ga = g0 from x).symm)
 obtain ⟨T, hT1, hT2⟩ := list_of ((0, 0, []) : Nat × Nat × List Value) n _ hx
 refine ⟨g0, cs, fun i => (T.getD i (0, 0, [])).1, fun i => (T.getD i (0, 0, [])).2.1, fun i => (T.getD i (0, 0, [])).2.2, rfl, hn, hb0, ?_, fun i hi2 => (hT2 i hi2).2, fun i j hi2 hj hne => ?_⟩
 · have : vs = (List.range n).map fun i => Value.slice (some ⟨(T.getD i (0, 0, [])).1, 0, none⟩) (L.getD i []).length (T.getD i (0, 0, [])).2.1 := by
    apply List.ext_getElem?
    intro i
    by_cases hi2 : i < n
    · rw [(hT2 i hi2).1, List.getElem?_map, List.getElem?_range hi2]; rfl
    · rw [List.getElem?_eq_none (by rw [hi.1, hn]; omega), List.getElem?_eq_none (by simpa using hi2)]
   rw [← this]
   exact hr0
 · rcases hi.2.2 i j _ _ (hT2 i hi2).1 (hT2 j hj).1 hne with e | e
   · cases e
   · exact fun x => e (by simp only [Value.ownBlock]; rw [x])
structure DbtOk (ls : List (List UInt8)) (L : List (List (List UInt8))) (q : Nat) (b : Bool) : Prop where
 lens : L.map List.length = ls.map List.length
 cm : cmplL L = true
 sz : sizeS L ≤ 4 ^ q
 st : ∀ i k, ((L.getD i []).getD k []).length ≤ 1 + 3 * q
 mem : b = true → ∀ i, i < L.length → ∀ k, k < (L.getD i []).length → (ls.getD i []).getD k 0 ∈ (L.getD i []).getD k []
theorem sizeL_one : ∀ l : List UInt8, sizeL (l.map fun b => [b]) = 1
 | [] => rfl
 | a :: l => by show 1 * sizeL (l.map fun b => [b]) = 1; rw [sizeL_one l]
theorem sizeS_one2 : ∀ ls : List (List UInt8), sizeS (shL ls) = 1
 | [] => rfl
 | l :: ls => by show sizeL (l.map fun b => [b]) * sizeS (shL ls) = 1; rw [sizeL_one, sizeS_one2 ls]
theorem shL_lens (ls : List (List UInt8)) : (shL ls).map List.length = ls.map List.length := by simp [shL]
theorem shL_place (ls : List (List UInt8)) {i k : Nat} (hi : i < ls.length) (hk : k < (ls.getD i []).length) : ((shL ls).getD i []).getD k [] = [(ls.getD i []).getD k 0] := by
 rw [shL_get ls hi]
 generalize ls.getD i [] = l at hk
 simp [List.getD, hk]
theorem shL_row_len (ls : List (List UInt8)) (i : Nat) : ((shL ls).getD i []).length = (ls.getD i []).length := by
 by_cases hi : i < ls.length
 · rw [shL_get ls hi]; simp
 · simp [List.getD, shL, show ls.length ≤ i by omega]
theorem dbt_start {ls : List (List UInt8)} (h : shapeL ls ≠ 0) (q : Nat) : DbtOk ls (shL ls) q true := by
 have hpl : ∀ i, i < (shL ls).length → ∀ k, k < ((shL ls).getD i []).length → ((shL ls).getD i []).getD k [] = [(ls.getD i []).getD k 0] := fun i hi k hk => shL_place ls (by rwa [shL_len] at hi) (by rwa [shL_row_len] at hk)
 refine ⟨shL_lens ls, ?_, by rw [sizeS_one2]; exact Nat.one_le_pow _ _ (by decide), fun i k => ?_, fun _ i hi k hk => by rw [hpl i hi k hk]; exact List.mem_singleton.2 rfl⟩
 · rw [cmpl_iff]
   refine ⟨?_, fun i hi k hk => by rw [hpl i hi k hk]; simp⟩
   have e1 := (shape_lens ls).1 h
   refine (shape_lens (xL (shL ls))).2 ?_
   rw [xL_lens, shL_lens]
   exact e1
 · by_cases hi : i < (shL ls).length
   · by_cases hk : k < ((shL ls).getD i []).length
     · rw [hpl i hi k hk]; simp
     · rw [List.getD_eq_getElem?_getD (l := (shL ls).getD i []), List.getElem?_eq_none (by omega)]; simp
   · rw [List.getD_eq_getElem?_getD (l := shL ls), List.getElem?_eq_none (by omega)]; simp
theorem DbtOk.put {ls : List (List UInt8)} {L : List (List (List UInt8))} {q : Nat} {b b' : Bool} (h : DbtOk ls L q b) {i k : Nat} {s : List UInt8} (hi : i < L.length) (hk : k < (L.getD i []).length) (h0 : s ≠ []) (hl : s.length ≤ 3 + ((L.getD i []).getD k []).length)
 (hb : b' = true → b = true ∧ ∀ c, c ∈ (L.getD i []).getD k [] → c ∈ s) : DbtOk ls (putL L i k s) (q + 1) b' := by
 have hold : 1 ≤ ((L.getD i []).getD k []).length := by
  rcases Nat.eq_zero_or_pos ((L.getD i []).getD k []).length with e | e
  · exact absurd (List.eq_nil_of_length_eq_zero e) (comp_ne h.cm hi hk)
  · exact e
 refine ⟨by rw [putL_lens L k s hi]; exact h.lens, cmpl_put h.cm k hi hk h0, ?_, fun j m => ?_, fun e j hj m hm => ?_⟩
 · have h1 := size_put L i k s 4 (by decide) (by omega)
   rw [Nat.pow_succ]
   have := h.sz
   omega
 · rw [putL_place L s hi hk]
   split
   · have := h.st i k; omega
   · have := h.st j m; omega
 · obtain ⟨h1, h2⟩ := hb e
   rw [putL_len] at hj
   rw [putL_place L s hi hk]
   have hm2 : m < (L.getD j []).length := by
    rw [putL_row L k s hi] at hm
    split at hm
    · rename_i e; subst e; simpa using hm
    · exact hm
   split
   · rename_i e
     obtain ⟨rfl, rfl⟩ := e
     exact h2 _ (h.mem h1 j hj m hm2)
   · exact h.mem h1 j hj m hm2
theorem DbtOk.up {ls : List (List UInt8)} {L : List (List (List UInt8))} {q q' : Nat} {b : Bool} (h : DbtOk ls L q b) (hq : q ≤ q') : DbtOk ls L q' b :=
 ⟨h.lens, h.cm, Nat.le_trans h.sz (Nat.pow_le_pow_right (by decide) hq), fun i k => Nat.le_trans (h.st i k) (by omega), h.mem⟩
theorem DbtOk.fits {ls : List (List UInt8)} {L : List (List (List UInt8))} {q : Nat} {b : Bool} (h : DbtOk ls L q b) (hq : q ≤ 100) : Fits3 L := by
 refine ⟨by have := comp_len h.cm; omega, fun r hr => ?_, fun r hr s hs => ?_⟩
 · obtain ⟨i, hi, rfl⟩ := List.getElem_of_mem hr
   have := (comp_row h.cm hi).1
   rw [List.getD_eq_getElem?_getD, List.getElem?_eq_getElem hi, Option.getD_some] at this
   omega
 · obtain ⟨i, hi, rfl⟩ := List.getElem_of_mem hr
   obtain ⟨k, hk, rfl⟩ := List.getElem_of_mem hs
   have := h.st i k
   rw [List.getD_eq_getElem?_getD (l := L), List.getElem?_eq_getElem hi, Option.getD_some, List.getD_eq_getElem?_getD, List.getElem?_eq_getElem hk, Option.getD_some] at this
   omega
theorem DbtOk.cnt {ls : List (List UInt8)} {L : List (List (List UInt8))} {q : Nat} {b : Bool} (h : DbtOk ls L q b) (hq : q ≤ 6) : cntE L = 0 :=
 cnt_ok h.cm (Nat.le_trans h.sz (Nat.le_trans (Nat.pow_le_pow_right (by decide) hq) (by decide)))
def chL : List UInt8 := [60, 48, 49, 50, 51, 52, 53, 54, 55, 56, 57, 65, 66, 68, 71, 73, 76, 79, 81, 83, 90]
theorem chL_small {r : Nat} (h : r < 21) : (chL.getD r 0).toNat < 128 := by
 have : ∀ r : _root_.Fin 21, (chL.getD r.val 0).toNat < 128 := by decide
 exact this ⟨r, h⟩
theorem ix_ch {r : Nat} (h : r < 21) (w : World) : (Instr.index 9 (.string ⟨#[60, 48, 49, 50, 51, 52, 53, 54, 55, 56, 57, 65, 66, 68, 71, 73, 76, 79, 81, 83, 90]⟩) (.int .i64 (r : Int))).run Tryz.prog w = .ok (.int .u8 ((chL.getD r 0).toNat : Int)) w := str_byte chL r h w
def DbP (ls : List (List UInt8)) (n q D : Nat) (w : World) (e : Ending) (w' : World) : Prop :=
 ∃ (g0 c0 : Nat) (cs : List Value) (gR cR : Nat → Nat) (eR : Nat → List Value) (L : List (List (List UInt8))) (b : Bool), e = .returned (.tuple #[.slice (some ⟨g0, 0, none⟩) n c0, .bool b]) ∧ DbI w.heap.size g0 n cs gR cR eR w' L ∧ DbtOk ls L q b ∧ w.grownBy w' (some D) ∧ DiceOk w' D
theorem add_1k (k : Nat) (h2 : k ≤ 1000000) (x y : Operand) (w : World) : (do eqGuard .add 3 x y (.int .i64 1) (.int .i64 (k : Int)); binOp .add 3 (.int .i64 1) (.int .i64 (k : Int))).run Tryz.prog w = .ok (.int .i64 ((k + 1 : Nat) : Int)) w := by
 have h3 : IntKind.i64.wrap (1 + (k : Int)) = ((k + 1 : Nat) : Int) := by rw [show (1 + (k : Int)) = ((k + 1 : Nat) : Int) by omega]; exact wrap_small _ (by omega) (by omega)
 simp [eqGuard, binOp, go_sem, h3]
set_option maxHeartbeats 6400000 in
set_option maxRecDepth 40000 in
theorem p_doubt (ls : List (List UInt8)) (hsh : shapeL ls ≠ 0) (D n c q : Nat) (m0 : Int) (hm0 : (q : Int) = m0) (hn : ls.length = n) (hq : q ≤ 4) (A : Option Addr) (w : World) (hd : DiceOk w D) (hs : Strs w A ls) :
 Calls Tryz.prog 19 #[.pointer (some ⟨D, 0, none⟩), .slice A n c, .int .i64 m0] w (DbP ls n q D w) := by
 subst hm0
 have hsl := (shape_lens ls).1 hsh
 have hn3 : n = 2 ∨ n = 3 := by
  rw [← hn, show ls.length = (ls.map List.length).length by simp]
  rcases hsl with e | e | e <;> rw [e] <;> simp
 have hlen : ∀ i, i < n → 30 ≤ (ls.getD i []).length ∧ (ls.getD i []).length ≤ 44 := fun i hi => by
  have h2 : (ls.map List.length).getD i 0 = (ls.getD i []).length := by simp [List.getD, show i < ls.length by omega]
  have h3 : n = (ls.map List.length).length := by simp [hn]
  rw [← h2]
  rcases hsl with e | e | e <;> rw [e] at h3 ⊢ <;> simp at h3
  · obtain rfl | rfl | rfl : i = 0 ∨ i = 1 ∨ i = 2 := by omega
    all_goals decide
  · obtain rfl | rfl : i = 0 ∨ i = 1 := by omega
    all_goals decide
  · obtain rfl | rfl : i = 0 ∨ i = 1 := by omega
    all_goals decide
 have hst := fun q => dbt_start hsh q
 have HSH := Lib.hid (r_sharp ls A n c hn (by omega) (fun i hi => by have := (hlen i hi).2; omega) w hs)
 have HD := Lib.hid hd
 have hDl := hd.lt
 have HST := Lib.hid hst
 have HLN := Lib.hid (show _ ∧ _ from ⟨hn, fun i hi => (hlen i hi).1⟩)
 have hn2 : 2 ≤ n := by omega
 have hn4 : n ≤ 3 := by omega
 obtain ⟨lo, hlo⟩ : ∃ lo, w.heap.size = lo := ⟨_, rfl⟩
 have HLO := Lib.hid hlo
 rw [hlo] at hDl
 clear hsl hn3 hlen hst hsh hs hd hn hlo
 go_enter Tryz.func19, Tryz.ntmps19
 go_wp2_with fail
 refine HSH.out.mono ?_
 rintro e w1 ⟨A1, c1, vs, rfl, ho, hin, hb1⟩
 obtain ⟨g0, cs, gR, cR, eR, rfl, hI⟩ := dbI_of ho hin (by rw [shL_len]; exact HLN.out.1) (by omega) (fun i hi => by rw [shL_row_len]; have := HLN.out.2 i hi; omega)
 rw [HLO.out] at hI hb1
 have HI := Lib.hid hI
 have HG := Lib.hid (show w.grownBy w1 (some D) from grown_below (by rw [HLO.out]; exact hb1))
 replace HD := Lib.hid (HD.out.below (by rw [HLO.out]; exact hb1))
 clear HSH ho hin hb1 hI
 go_wp2_with (first
  | ((with_reducible refine at_any_ (d := 19) ?_); refine wpList_add1 rfl _ _ _ rfl q rfl rfl (by omega) ?_))
 refine (dice_next D (q + 1) _ (by omega) (by omega) HD.out).mono ?_
 rintro e w2 ⟨r, hr, rfl, hg2, hd2⟩
 replace HI := Lib.hid (HI.out.dice hg2 hDl)
 replace HG := Lib.hid (grown_trans HG.out hg2)
 replace HD := Lib.hid hd2
 clear hg2 hd2
 go_wp2_with fail
 go_loopw [10, 9] (fun i v wr => ∃ (m : Nat) (b : Bool), m ≤ q ∧ i = .int .i64 (m : Int) ∧ v = .bool b ∧ Hid (∃ L, DbI lo g0 n cs gR cR eR wr L ∧ DbtOk ls L (q - m) b ∧ w.grownBy wr (some D) ∧ DiceOk wr D)) (fun i _ _ => (intOf i).toNat)
 case atStart => exact ⟨r, true, by omega, rfl, rfl, Lib.hid ⟨_, HI.out, HST.out _, HG.out, HD.out⟩⟩
 case round =>
  clear HI HG HD
  obtain ⟨m, b, hm, rfl, rfl, HH⟩ := hrel
  by_cases hm1 : 0 < m
  ·
   have hm2 : (0 : Int) < (m : Int) := by omega
   obtain ⟨L, hI, hO, hg, hd⟩ := HH.out
   clear HH
   go_wp2_with fail
   refine (dice_next D n _ (by omega) (by omega) hd).mono ?_
   rintro e w3 ⟨i, hi, rfl, hg3, hd3⟩
   have hI3 := hI.dice hg3 hDl
   have hil : i < L.length := by rw [hI3.len]; exact hi
   obtain ⟨r, hr⟩ : ∃ r, L.getD i [] = r := ⟨_, rfl⟩
   obtain ⟨ln, hln⟩ : ∃ ln, r.length = ln := ⟨_, rfl⟩
   have hl44 := comp_row hO.cm hil
   have hc0 := hI3.cell0 hi
   rw [hr] at hl44 hc0
   rw [hln] at hl44 hc0
   have hi0 : (i : Int) < (n : Int) := by omega
   have HI3 := Lib.hid hI3
   have HO := Lib.hid hO
   have HG := Lib.hid (grown_trans hg hg3)
   have HR := Lib.hid (show _ ∧ _ ∧ _ from ⟨hil, hr, hln⟩)
   have hl1 := hl44.1
   have hl2 := hl44.2
   clear hI hO hg hd hg3 hI3 hil hr hln hl44
   go_wp2_with (first
    | ((with_reducible refine at_load_ (d := 33) ?_); refine wpList_load_c rfl _ _ rfl g0 i rfl _ hc0 (fun w => by kernel_rfl) ?_))
   clear hc0
   refine (dice_next D ln _ (by omega) (by omega) hd3).mono ?_
   rintro e w4 ⟨k, hk, rfl, hg4, hd4⟩
   have HI4 := Lib.hid (HI3.out.dice hg4 hDl)
   replace HG := Lib.hid (grown_trans HG.out hg4)
   clear hd3 hg4 HI3
   go_wp2_with fail
   refine (dice_next_l D 3 3 _ rfl (by decide) (by decide) hd4).mono ?_
   rintro e w5 ⟨t, ht, rfl, hg5, hd5⟩
   have HI5 := Lib.hid (HI4.out.dice hg5 hDl)
   replace HG := Lib.hid (grown_trans HG.out hg5)
   have HD5 := Lib.hid hd5
   clear hd4 hg5 HI4 hd5
   go_wp2_with (first
    | ((with_reducible refine at_any_ (d := 38) ?_); refine wpList_bin rfl _ _ _ _ _ rfl (v := .int .i64 ((t + 1 : Nat) : Int)) rfl rfl (add_1k t (by omega) _ _ _) ?_))
   go_loopw [14, 13] (fun i v wq => ∃ (c2 : Nat) (s : List UInt8) (ss : ByteArray), s.length + c2 = t + 1 ∧ i = .int .i64 (c2 : Int) ∧ v = .string ss ∧ ss.size ≤ 3 ∧ Hid (ss = S s ∧ DbI lo g0 n cs gR cR eR wq L ∧ w.grownBy wq (some D) ∧ DiceOk wq D)) (fun i _ _ => (intOf i).toNat)
   case atStart => exact ⟨t + 1, [], ⟨#[]⟩, by simp, rfl, rfl, by decide, Lib.hid ⟨rfl, HI5.out, HG.out, HD5.out⟩⟩
   case round =>
    clear HI5 HG HD5
    obtain ⟨c2, s, ss, hs, rfl, rfl, hz, HK⟩ := hrel
    by_cases hc1 : 0 < c2
    ·
     have hc20 : (0 : Int) < (c2 : Int) := by omega
     obtain ⟨e1, hI, hg, hd⟩ := HK.out
     clear HK
     go_wp2_with fail
     refine (dice_next_l D 21 21 _ rfl (by decide) (by decide) hd).mono ?_
     rintro e w6 ⟨x, hx, rfl, hg6, hd6⟩
     have hix := ix_ch hx
     have hsm := chL_small hx
     obtain ⟨ch, hch⟩ : ∃ ch, chL.getD x 0 = ch := ⟨_, rfl⟩
     rw [hch] at hix hsm
     have hen := enc_small hsm
     obtain ⟨b2, hb2⟩ : ∃ b2, ch.toNat = b2 := ⟨_, rfl⟩
     rw [hb2] at hix hsm hen
     obtain ⟨s1, hs1⟩ : ∃ s1, S [UInt8.ofNat b2] = s1 := ⟨_, rfl⟩
     have hs1z : s1.size = 1 := by rw [← hs1]; rfl
     rw [hs1] at hen
     have hc2 : IntKind.i32.wrap (b2 : Int) = (b2 : Int) := by rw [IntKind.wrap_i32]; omega
     have HE := Lib.hid (show _ ∧ _ ∧ _ ∧ _ ∧ _ ∧ _ from ⟨e1, hI.dice hg6 hDl, grown_trans hg hg6, hd6, hs1, hb2⟩)
     clear e1 hI hg hd hg6 hd6 hs1 hch hb2
     go_wp2_with (first
      | ((with_reducible refine at_any_ (d := 46) ?_); refine wpList_ix rfl _ _ _ rfl (v := .int .u8 (b2 : Int)) rfl rfl (hix _) ?_)
      | ((with_reducible refine at_any_ (d := 42) ?_); refine wpList_bin rfl _ _ _ _ _ rfl (v := .int .i64 ((c2 : Int) - 1)) rfl rfl (sub_n1 c2 (by omega) _ _ _) ?_))
     go_roundw
     case rel =>
      obtain ⟨e1, hI, hg, hd, hs1, hb2⟩ := HE.out
      refine ⟨c2 - 1, s ++ [ch], _, by simp; omega, congrArg (Value.int .i64) (by omega), rfl, ?_, Lib.hid ⟨?_, hI, hg, hd⟩⟩
      · rw [ByteArray.size_append, e1, S_size]; omega
      · rw [e1, ← hs1, ← hb2, UInt8.ofNat_toNat, S_append]
     case measure => simp [intOf]; omega
    ·
     obtain rfl : c2 = 0 := by omega
     obtain ⟨e1, hI, hg, hd⟩ := HK.out
     clear HK
     have HS0 := Lib.hid (show s ≠ [] ∧ s.length ≤ 3 from ⟨fun h => by rw [h] at hs; simp at hs, by omega⟩)
     have hkl : k < (L.getD i []).length := by rw [HR.out.2.1, HR.out.2.2]; exact hk
     go_wp2_with fail
     refine (dice_one_l D 5 5 _ rfl (by decide) (by decide) hd).mono ?_
     rintro e w7 ⟨bq, rfl, hg7, hd7⟩
     have hI7 := hI.dice hg7 hDl
     have hc0 := hI7.cell0 hi
     have hc1 := hI7.cell1 hi hkl
     rw [HR.out.2.1, HR.out.2.2] at hc0
     obtain ⟨old, hold⟩ : ∃ old, (L.getD i []).getD k [] = old := ⟨_, rfl⟩
     rw [hold] at hc1
     have holz := HO.out.st i k
     rw [hold] at holz
     obtain ⟨so, hso⟩ : ∃ so, S old = so := ⟨_, rfl⟩
     have hsoz : so.size ≤ 100 := by rw [← hso, S_size]; omega
     rw [hso] at hc1
     have hki : (k : Int) < (ln : Int) := by omega
     have HE := Lib.hid (show _ ∧ _ ∧ _ ∧ _ ∧ _ ∧ _ from ⟨e1, hI7, grown_trans hg hg7, hd7, hold, hso⟩)
     have HKL := Lib.hid hkl
     have HC0 := Lib.hid hc0
     have HC1 := Lib.hid hc1
     have HLEN : Hid (k < (strV (L.getD i []) ++ eR i).length) := Lib.hid (by rw [List.length_append, strV_len]; omega)
     clear e1 hI hg hd hg7 hd7 hI7 hc0 hc1 hold hso hkl holz
     rcases bq with _ | _
     ·
      go_wp2_with (first
       | ((with_reducible refine at_load_ (d := 55) ?_); refine wpList_load_c rfl _ _ rfl g0 i rfl _ HC0.out (fun w => by kernel_rfl) ?_)
       | ((with_reducible refine at_load_ (d := 58) ?_); refine wpList_load_c rfl _ _ rfl (gR i) k rfl _ HC1.out (fun w => by kernel_rfl) ?_)
       | ((with_reducible refine at_load_ (d := 63) ?_); refine wpList_load_c rfl _ _ rfl g0 i rfl _ HC0.out (fun w => by kernel_rfl) ?_)
       | ((with_reducible refine at_store_ (i := 66) ?_); refine wpList_store_at rfl _ (.tmp 66) _ rfl (gR i) k _ (.string (ss ++ so)) rfl rfl (HE.out.2.1.rw i hi).2.2 HLEN.out rfl rfl size_st ?_; intro w8 hw hr; have HW := Lib.hid (show _ ∧ _ from ⟨hw, hr⟩); clear hw hr)
       | ((with_reducible refine at_any_ (d := 24) ?_); refine wpList_bin rfl _ _ _ _ _ rfl (v := .int .i64 ((m : Int) - 1)) rfl rfl (sub_n1 m (by omega) _ _ _) ?_))
      go_roundw
      case rel =>
       obtain ⟨e1, hI, hg, hd, hold, hso⟩ := HE.out
       obtain ⟨hw, hr⟩ := HW.out
       have hsum : ss ++ so = S (s ++ old) := by rw [e1, ← hso, S_append]
       rw [hsum] at hr
       refine ⟨m - 1, b, by omega, congrArg (Value.int .i64) (by omega), rfl, Lib.hid ⟨putL L i k (s ++ old), hI.put hi HKL.out hw hr, ?_, ?_, ?_⟩⟩
       · have := HO.out.put (b' := b) HR.out.1 HKL.out (s := s ++ old) (by intro h; exact HS0.out.1 (List.append_eq_nil_iff.1 h).1) (by rw [hold, List.length_append]; have := HS0.out.2; omega) (fun h => ⟨h, fun c hc => List.mem_append_right _ (by rwa [hold] at hc)⟩)
         rwa [show q - m + 1 = q - (m - 1) by omega] at this
       · exact grown_row hg (grown_wr hw) (fun g e => by injection e with e; have := (hI.rw i hi).1; rw [HLO.out]; omega)
       · exact hd.grown (grown_wr hw) (fun g e => by injection e with e; have := (hI.rw i hi).1; omega)
      case measure => simp [intOf]; omega
     ·
      go_wp2_with (first
       | ((with_reducible refine at_load_ (d := 63) ?_); refine wpList_load_c rfl _ _ rfl g0 i rfl _ HC0.out (fun w => by kernel_rfl) ?_)
       | ((with_reducible refine at_store_ (i := 66) ?_); refine wpList_store_at rfl _ (.tmp 66) _ rfl (gR i) k _ (.string ss) rfl rfl (HE.out.2.1.rw i hi).2.2 HLEN.out rfl rfl size_st ?_; intro w8 hw hr; have HW := Lib.hid (show _ ∧ _ from ⟨hw, hr⟩); clear hw hr)
       | ((with_reducible refine at_any_ (d := 24) ?_); refine wpList_bin rfl _ _ _ _ _ rfl (v := .int .i64 ((m : Int) - 1)) rfl rfl (sub_n1 m (by omega) _ _ _) ?_))
      go_roundw
      case rel =>
       obtain ⟨e1, hI, hg, hd, hold, hso⟩ := HE.out
       obtain ⟨hw, hr⟩ := HW.out
       rw [e1] at hr
       refine ⟨m - 1, false, by omega, congrArg (Value.int .i64) (by omega), rfl, Lib.hid ⟨putL L i k s, hI.put hi HKL.out hw hr, ?_, ?_, ?_⟩⟩
       · have := HO.out.put (b' := false) HR.out.1 HKL.out (s := s) HS0.out.1 (by have := HS0.out.2; omega) (fun h => by cases h)
         rwa [show q - m + 1 = q - (m - 1) by omega] at this
       · exact grown_row hg (grown_wr hw) (fun g e => by injection e with e; have := (hI.rw i hi).1; rw [HLO.out]; omega)
       · exact hd.grown (grown_wr hw) (fun g e => by injection e with e; have := (hI.rw i hi).1; omega)
      case measure => simp [intOf]; omega
  · obtain rfl : m = 0 := by omega
    obtain ⟨L, hI, hO, hg, hd⟩ := HH.out
    have HF := Lib.hid (show _ ∧ _ ∧ _ ∧ _ from ⟨hI, hO, hg, hd⟩)
    clear HH hI hO hg hd
    go_wp2
    go_ret2
    exact ⟨g0, c1, cs, gR, cR, eR, L, b, rfl, by rw [HLO.out]; exact HF.out.1, HF.out.2.1, HF.out.2.2.1, HF.out.2.2.2⟩
end Go.Proofs.YtibahbkjjfmbgaaGreatDoor
