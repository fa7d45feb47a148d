/-
  What is proved here: what the program's open and Open answer, for bytes that lie in memory.
-/
import Derived.Test.YtipkaeeimohmpaaMs
namespace Go.Proofs.Ytipkaeeimohmpaa
open Go.RowKit Go.Shelf
set_option linter.unusedVariables false
attribute [local go_sem] Oper.semAt_some

/-- the block before, and the bytes behind the blocks pre -/
def opS (key p : List UInt8) {m : Nat} (s : List UInt8 × List UInt8) (x : _root_.Fin m) : List UInt8 × List UInt8 := (blk16 p x.val, s.2 ++ xor16 (decL key (blk16 p x.val)) s.1)
def opP (key iv p : List UInt8) {m : Nat} (pre : List (_root_.Fin m)) : List UInt8 × List UInt8 := pre.foldl (opS key p) (iv, [])
theorem opP_snoc (key iv p : List UInt8) {m : Nat} (pre : List (_root_.Fin m)) (x : _root_.Fin m) : opP key iv p (pre ++ [x]) = (blk16 p x.val, (opP key iv p pre).2 ++ xor16 (decL key (blk16 p x.val)) (opP key iv p pre).1) := by
  simp [opP, opS]
def pvN (iv p : List UInt8) : Nat → List UInt8
  | 0 => iv
  | k + 1 => blk16 p k
def openN (key iv p : List UInt8) : Nat → List UInt8
  | 0 => []
  | k + 1 => openN key iv p k ++ xor16 (decL key (blk16 p k)) (pvN iv p k)
theorem opP_up (key iv p : List UInt8) : ∀ k m (h : k ≤ m), opP key iv p (upF m k) = (pvN iv p k, openN key iv p k)
  | 0, m, _ => by simp [upF, pvN, openN, opP]
  | k + 1, m, h => by rw [upF_succ (show k < m by omega), opP_snoc, opP_up key iv p k m (by omega)]; rfl
theorem opP_all (key iv p : List UInt8) (m : Nat) : opP key iv p (List.finRange m) = (pvN iv p m, openN key iv p m) := by rw [← upF_all]; exact opP_up key iv p m m (Nat.le_refl _)
theorem openN_length (key iv p : List UInt8) : ∀ k, (openN key iv p k).length = 16 * k
  | 0 => rfl
  | k + 1 => by rw [openN, List.length_append, openN_length key iv p k, xor16_length]; omega
theorem opP_length {key iv p : List UInt8} {m : Nat} (hiv : iv.length = 16) (hp : p.length = 16 * m) (pre : List (_root_.Fin m)) : (opP key iv p pre).1.length = 16 := by
  rcases List.eq_nil_or_concat pre with rfl | ⟨r, x, rfl⟩
  · exact hiv
  · rw [List.concat_eq_append, opP_snoc]
    exact blk16_length hp x.isLt

/-- what open's loop keeps -/
structure OpI (key iv p : List UInt8) (m Bo Bk g : Nat) (A1 : Option Addr) (c1 : Nat) (w : World) (pre : List (_root_.Fin m)) (X : World) : Prop where
  ck : X.cell? ⟨Bk, 0, none⟩ = some (.slice A1 16 c1)
  out : X.cell? ⟨Bo, 0, none⟩ = some (.slice (some ⟨g, 0, none⟩) (16 * pre.length) (16 * m))
  fr : X.frozen? ⟨Bo, 0, none⟩ = false
  bef : ∃ A c, X.cell? ⟨Bo + 1, 0, none⟩ = some (.slice A 16 c) ∧ SeesP w (· < w.heap.size) A (Us (opP key iv p pre).1)
  fb : X.frozen? ⟨Bo + 1, 0, none⟩ = false
  own : X.ownsRow w.heap.size 5 1 (.slice (some ⟨g, 0, none⟩) (16 * pre.length) (16 * m)) (16 * pre.length) (Us (opP key iv p pre).2)
  bl : Below w.heap.size w X
section
variable {key iv p : List UInt8} {m Bo Bk g b : Nat} {A1 : Option Addr} {c1 : Nat} {w X Y : World} {pre : List (_root_.Fin m)}
theorem own_cells {X : World} {base : Nat} {e : TypeId} {g n c : Nat} {xs : List Value} (h : X.ownsRow base e 1 (.slice (some ⟨g, 0, none⟩) n c) n xs) : ∃ cur, X.heap[g]? = some (.cells cur e (0, 0)) := by
  rcases h.2 with ⟨h1, _⟩ | ⟨g2, cap, cur, h1, h2, h3, h4⟩
  · cases h1
  · injection h1 with e1 _ e2
    injection e1 with e1
    injection e1 with e1
    subst e1
    exact ⟨cur, h3⟩
theorem opI_own (hw : w.heap.size ≤ b) : OwnFrom b (OpI key iv p m Bo Bk g A1 c1 w) := by
  intro pre X Y row h hg hr
  have hr2 : ∀ r, row = some r → ∃ o : Obj, X.heap[r]? = some o ∧ o.isCells = false := fun r e => (hr r e).2
  obtain ⟨A, c, h1, h2⟩ := h.bef
  obtain ⟨cur, hc⟩ := own_cells h.own
  exact ⟨cell_kept h.ck hg hr2, cell_kept h.out hg hr2, (frozen_kept h.out hg hr2).trans h.fr, ⟨A, c, cell_kept h1 hg hr2, h2⟩, (frozen_kept h1 hg hr2).trans h.fb,
    own_same h.own (hg.block g (Array.getElem?_eq_some_iff.1 hc).1 (fun e => by obtain ⟨o, h3, h4⟩ := hr2 g e.symm; rw [hc] at h3; cases h3; cases h4)),
    h.bl.grown hg h.bl.size (fun k e => Nat.le_trans hw (hr k e).1)⟩
theorem OpI.next {x : _root_.Fin m} {X2 X6 : World} {A2 : Option Addr} {c2 : Nat} {v : Value} (h : OpI key iv p m Bo Bk g A1 c1 w pre X) (hg : g < Bo) (hgw : w.heap.size ≤ g) (hk : Bk < g) (hX : Bo + 4 ≤ X.heap.size) (hb2 : Below X.heap.size X X2)
    (ho : X6.ownsRow w.heap.size 5 1 (.slice (some ⟨g, 0, none⟩) (16 * pre.length + 16) (16 * m)) (16 * pre.length + 16) (Us (opP key iv p (pre ++ [x])).2)) (hgr : X2.grownBy X6 (some g)) (hv : v = .slice (some ⟨g, 0, none⟩) (16 * pre.length + 16) (16 * m))
    (hA : SeesP w (· < w.heap.size) A2 (Us (blk16 p x.val))) :
    KeepsFrom (Bo + 4) X ((X6.setCell ⟨Bo, 0, none⟩ v).setCell ⟨Bo + 1, 0, none⟩ (.slice A2 16 c2)) ∧ KpC (Bo + 1 + 1) (Bo + 1 + 1 + 1) X ((X6.setCell ⟨Bo, 0, none⟩ v).setCell ⟨Bo + 1, 0, none⟩ (.slice A2 16 c2)) ∧ OpI key iv p m Bo Bk g A1 c1 w (pre ++ [x]) ((X6.setCell ⟨Bo, 0, none⟩ v).setCell ⟨Bo + 1, 0, none⟩ (.slice A2 16 c2)) := by
  subst hv
  obtain ⟨A, c, h1, h2⟩ := h.bef
  have s : ∀ q, q ≠ g → q ≠ Bo → q ≠ Bo + 1 → q < X.heap.size → ((X6.setCell ⟨Bo, 0, none⟩ (.slice (some ⟨g, 0, none⟩) (16 * pre.length + 16) (16 * m))).setCell ⟨Bo + 1, 0, none⟩ (.slice A2 16 c2)).heap[q]? = X.heap[q]? := fun q n1 n2 n3 n4 => by
    rw [heap_setCell_other _ _ _ _ (by show q ≠ Bo + 1; exact n3), heap_setCell_other _ _ _ _ (by show q ≠ Bo; exact n2), hgr.block q (Nat.lt_of_lt_of_le n4 hb2.size) (fun e => n1 (Option.some.inj e)), hb2.block q n4]
  have hsz : ((X6.setCell ⟨Bo, 0, none⟩ (.slice (some ⟨g, 0, none⟩) (16 * pre.length + 16) (16 * m))).setCell ⟨Bo + 1, 0, none⟩ (.slice A2 16 c2)).heap.size = X6.heap.size := by simp [World.setCell]
  have hs6 := Nat.le_trans hb2.size hgr.size
  have hl : 16 * (pre ++ [x]).length = 16 * pre.length + 16 := by rw [List.length_append]; simp; omega
  have s6 : ∀ q, q ≠ g → q < X.heap.size → X6.heap[q]? = X.heap[q]? := fun q n1 n4 => by
    rw [hgr.block q (Nat.lt_of_lt_of_le n4 hb2.size) (fun e => n1 (Option.some.inj e)), hb2.block q n4]
  have hbw : Below w.heap.size w X6 := (h.bl.trans (hb2.mono h.bl.size)).grown hgr (Nat.le_trans h.bl.size hb2.size) (fun k e => by cases e; exact hgw)
  refine ⟨⟨by omega, fun k o n1 n2 _ => (s k (by omega) (by omega) (by omega) (Array.getElem?_eq_some_iff.1 n2).1).trans n2⟩, ⟨s _ (by omega) (by omega) (by omega) (by omega), s _ (by omega) (by omega) (by omega) (by omega)⟩, ?_, ?_, ?_, ⟨A2, c2, ?_, ?_⟩, ?_, ?_, ?_⟩
  · exact (World.cell?_of_block (s Bk (by omega) (by omega) (by omega) (by omega))).trans h.ck
  · rw [hl, World.cell?_of_block (w := X6.setCell ⟨Bo, 0, none⟩ (.slice (some ⟨g, 0, none⟩) (16 * pre.length + 16) (16 * m))) (heap_setCell_other _ _ _ _ (by show Bo ≠ Bo + 1; omega))]
    exact World.cell?_setCell_same' _ _ _ (by rw [World.cell?_of_block (w := X) (s6 Bo (by omega) (by omega)), h.out]; rfl)
  · rw [World.frozen?_setCell, World.frozen?_setCell, World.frozen?_of_block (w := X) (s6 Bo (by omega) (by omega))]
    exact h.fr
  · refine World.cell?_setCell_same' _ _ _ ?_
    rw [World.cell?_of_block (w := X6) (heap_setCell_other _ _ _ _ (by show Bo + 1 ≠ Bo; omega)), World.cell?_of_block (w := X) (s6 (Bo + 1) (by omega) (by omega)), h1]
    rfl
  · rw [opP_snoc]
    exact hA
  · rw [World.frozen?_setCell, World.frozen?_setCell, World.frozen?_of_block (w := X) (s6 (Bo + 1) (by omega) (by omega))]
    exact h.fb
  · rw [hl]
    refine own_same (own_same ho (heap_setCell_other _ _ _ _ (by show g ≠ Bo; omega))) (heap_setCell_other _ _ _ _ (by show g ≠ Bo + 1; omega))
  · exact (hbw.setCell (p := ⟨Bo, 0, none⟩) (by show w.heap.size ≤ Bo; omega) _).setCell (p := ⟨Bo + 1, 0, none⟩) (by show w.heap.size ≤ Bo + 1; omega) _
end

set_option maxRecDepth 100000 in
set_option maxHeartbeats 1000000 in
theorem prog_open (key iv p : List UInt8) (m : Nat) (A1 A2 A3 : Option Addr) (c1 c2 c3 : Nat) (w : World) (hk : key.length = 16) (hiv : iv.length = 16) (hp : p.length = 16 * m) (hc3 : 16 * m ≤ c3) (hreach : 16 * m ≤ 140737488351300)
    (h1 : SeesP w (· < w.heap.size) A1 (Us key)) (h2 : SeesP w (· < w.heap.size) A2 (Us iv)) (h3 : SeesP w (· < w.heap.size) A3 (Us p)) :
    Calls Try.prog 32 #[.slice A1 16 c1, .slice A2 16 c2, .slice A3 (16 * m) c3] w (Mk w (openN key iv p m)) := by
  have HL := Lib.hid (show key.length = 16 ∧ iv.length = 16 ∧ p.length = 16 * m from ⟨hk, hiv, hp⟩)
  have HS := Lib.hid (show SeesP w (· < w.heap.size) A1 (Us key) ∧ SeesP w (· < w.heap.size) A2 (Us iv) ∧ SeesP w (· < w.heap.size) A3 (Us p) from ⟨h1, h2, h3⟩)
  clear hk hiv hp h1 h2 h3
  obtain ⟨i0, hi, hz0, hz1, hz2⟩ := info_parts info_u8p
  refine (callsIn_wide (n := 9)).1 ?_
  refine callsIn_of_wp_marks Try.func32 rfl trivial ?_ rfl
  simp only [Try.ntmps32, List.size_toArray, List.length_cons, List.length_nil, Nat.reduceAdd, Nat.reduceSub, Array.replicate_succ, Array.replicate_zero, List.push_toArray, List.append_toArray, List.nil_append, List.cons_append]
  refine wpIn_wide.2 ?_
  go_wp2_with (first
    | (at_make; refine wpList_make_own _ rfl _ _ 22 rfl w.heap.size 5 i0 (.int .u8 0) 1 Try.underlying22 hi hz0 hz1 _ _ _ (16 * m) rfl rfl (by omega) (by rw [hz2]; omega) (by unfold maxLen; omega) (by simp) ?_; intro w5 hown hgrow; have HO := Lib.hid (show w5.ownsRow w.heap.size 5 1 (.slice (some ⟨w.heap.size + 1, 0, none⟩) 0 (16 * m)) 0 [] ∧ Below w.heap.size w w5 ∧ w5.cell? ⟨w.heap.size, 0, none⟩ = some (.slice A1 16 c1) from ⟨by simpa using hown, ((Below.refl w.heap.size w).alloc (Nat.le_refl _) _).grown hgrow (by simp) (fun k e => by cases e), by
        rw [World.cell?_of_block (hgrow.block w.heap.size (by simp) (fun e => by cases e)), cell_of_row _ _ 0 _ _ _ (heap_alloc_new w _)]; rfl⟩); clear hown hgrow)
    | (go_at_call 42; (with_reducible refine (chunk_any _ _ _ _).mono ?_); rintro e w' ⟨rfl, rfl⟩))
  have hF := four_facts w5 (.slice (some ⟨w.heap.size + 1, 0, none⟩) 0 (16 * m)) (.slice A2 16 c2) (.slice A3 (16 * m) c3) (.int .i64 16) 22 22 22 3
  have hF0 := four_frozen w5 (.slice (some ⟨w.heap.size + 1, 0, none⟩) 0 (16 * m)) (.slice A2 16 c2) (.slice A3 (16 * m) c3) (.int .i64 16) 22 22 22 3
  generalize hW4 : four w5 (.slice (some ⟨w.heap.size + 1, 0, none⟩) 0 (16 * m)) (.slice A2 16 c2) (.slice A3 (16 * m) c3) (.int .i64 16) 22 22 22 3 = W4 at hF hF0
  have HW : ((((w5.alloc (.cells #[.slice (some ⟨w.heap.size + 1, 0, none⟩) 0 (16 * m)] 22)).alloc (.cells #[.slice A2 16 c2] 22)).alloc (.cells #[.slice A3 (16 * m) c3] 22)).alloc (.cells #[.int .i64 16] 3)) = W4 := hW4
  rw [HW]
  clear HW hW4
  obtain ⟨hF1, hF2, hF3, hF4, hF5, hF6, hF7⟩ := hF
  have hgl := own_lt HO.out.1
  have hsz := HO.out.2.1.size
  obtain ⟨b, off, hA⟩ : ∃ b off, 0 < m → A3 = some ⟨b, off, none⟩ := by
    rcases HS.out.2.2 with h | ⟨b, off, e, _⟩
    · have e0 : p.length = 0 := by simpa [Us] using congrArg List.length h
      exact ⟨0, 0, fun hm => by have := HL.out.2.2; omega⟩
    · exact ⟨b, off, fun _ => e⟩
  have HI0 := Lib.hid (show OpI key iv p m w5.heap.size w.heap.size (w.heap.size + 1) A1 c1 w [] W4 from
    ⟨(hF1.cell (p := ⟨w.heap.size, 0, none⟩) (by show w.heap.size < _; omega)).trans HO.out.2.2, hF3, hF0, ⟨A2, c2, hF4, HS.out.2.1⟩, hF5, own_same HO.out.1 (hF1.block _ hgl), HO.out.2.1.trans (hF1.mono hsz)⟩)
  clear hF0 hF1 hF3 hF4 hF5 HO
  refine wpIn_wide.1 (?_ : Code.wpIn Fence.wide 9 _ _ _ _ _)
  refine wpIn_rangeFunc_ownG (w0 := W4) rfl (by decide) (gf := 50) (lb := #[.pointer (some ⟨w5.heap.size + 1 + 1, 0, none⟩), .pointer (some ⟨w5.heap.size + 1 + 1 + 1, 0, none⟩)]) rfl trivial (enters_of Try.func50 (by kernel_rfl) rfl)
    (chunk_stops 8 (w5.heap.size + 1 + 1) (w5.heap.size + 1 + 1 + 1) b off m c3 A3 hA (by decide) hc3 (by omega) W4 (by omega) (by omega) hF6 hF7)
    KpC.trans (fun X q o o' hq _ _ _ => ⟨World.putObj_heap_other (by omega), World.putObj_heap_other (by omega)⟩) (Below.refl _ _) (fun _ => rfl)
    (fun pre X => OpI key iv p m w5.heap.size w.heap.size (w.heap.size + 1) A1 c1 w pre X ∧ w5.heap.size + 4 ≤ X.heap.size) (fun _ _ _ => False)
    (fun pre X Y row h hg hr => ⟨opI_own (by rw [hF2]; omega) pre X Y row h.1 hg hr, Nat.le_trans h.2 hg.size⟩) (fun _ _ _ _ _ hs _ _ => hs) ⟨HI0.out, by omega⟩
    (fun x => { tmps := #[.slice A1 16 c1, .slice A2 16 c2, .slice A3 (16 * m) c3, .pointer (some ⟨w.heap.size, 0, none⟩), undef, undef, .slice none 0 0, .pointer (some ⟨w5.heap.size, 0, none⟩), .pointer (some ⟨w5.heap.size + 1, 0, none⟩), .slice (some ⟨b, off + 16 * x.val, none⟩) 16 16, undef, undef, .slice A3 (16 * m) c3, .int .i64 (16 * (m : Int)), .slice (some ⟨w.heap.size + 1, 0, none⟩) 0 (16 * m), .slice A2 16 c2, .slice A3 (16 * m) c3, .func (.func 50) #[] #[.pointer (some ⟨w5.heap.size + 1 + 1, 0, none⟩), .pointer (some ⟨w5.heap.size + 1 + 1 + 1, 0, none⟩)], .slice (some ⟨b, off + 16 * x.val, none⟩) 16 16, undef, undef, undef, undef, undef, undef, undef, undef, undef, undef, undef, undef, undef], defers := [] }) ?assign ?body ?done ?stop
  case assign =>
    intro l2 x X K hK
    gi_wp2
    exact hK
  case body =>
    rintro l2 pre x X ⟨hI, hX⟩ hlen
    have HI := Lib.hid hI
    have hm : 0 < m := by omega
    have y1 := hI.ck
    obtain ⟨A, c, y2, hs2⟩ := hI.bef
    have hx0 := blk_sees16 HS.out.2.2 HL.out.2.2 x.isLt (hA hm)
    have HX0 := Lib.hid hx0
    have hwX := hI.bl.size
    have HSB := Lib.hid (show Sees X X.heap.size (some ⟨b, off + 16 * x.val, none⟩) (Us (blk16 p x.val)) from SeesP.iff_sees.1 ((hx0.keep fun q hq => hI.bl.cell hq).imp (p' := (· < X.heap.size)) fun q hq => Nat.lt_of_lt_of_le hq hwX))
    have HSP := Lib.hid (show SeesP w (· < w.heap.size) A (Us (opP key iv p pre).1) from hs2)
    have HSK := Lib.hid (show Sees X X.heap.size A1 (Us key) from SeesP.iff_sees.1 ((HS.out.1.keep fun q hq => hI.bl.cell hq).imp (p' := (· < X.heap.size)) fun q hq => Nat.lt_of_lt_of_le hq hwX))
    have HLB := Lib.hid (blk16_length HL.out.2.2 x.isLt)
    have HLS := Lib.hid (opP_length (key := key) HL.out.2.1 HL.out.2.2 pre)
    rw [hF2]
    have hlt : 16 * pre.length + 16 ≤ 16 * m := by omega
    clear hI hs2 hx0 HI0 hF6 hF7
    gi_wp2_with (refine ⟨trivial, ?_⟩; gi_at_call 43; refine (calls_round _ (aes_dec_row key (blk16 p x.val) _ _ _ _ _ HL.out.1 HLB.out HSK.out HSB.out)).mono ?_; rintro e X1 ⟨g1, rfl, hg1, hr1, hb1⟩; have HB1 := Lib.hid hb1; have HR1 := Lib.hid hr1; clear hg1 hr1 hb1)
    have hBX := HB1.out.size
    have y3 := (HB1.out.cell (p := ⟨w5.heap.size + 1, 0, none⟩) (by show w5.heap.size + 1 < X.heap.size; omega)).trans y2
    have y4 := (HB1.out.cell (p := ⟨w5.heap.size, 0, none⟩) (by show w5.heap.size < X.heap.size; omega)).trans HI.out.out
    have y5 : X1.frozen? ⟨w5.heap.size, 0, none⟩ = false := (World.frozen?_of_block (HB1.out.block w5.heap.size (by omega))).trans HI.out.fr
    have y6 : X1.frozen? ⟨w5.heap.size + 1, 0, none⟩ = false := (World.frozen?_of_block (HB1.out.block (w5.heap.size + 1) (by omega))).trans HI.out.fb
    have hD : X1.drew.cell? ⟨w5.heap.size + 1, 0, none⟩ = some (.slice A 16 c) := y3
    have HC1 := Lib.hid (show SeesP X1.drew (· < X1.drew.heap.size) (some ⟨g1, 0, none⟩) (Us (decL key (blk16 p x.val))) from HR1.out.sees (· < X1.heap.size) HR1.out.lt)
    have hc2 : SeesP X1 (· < X1.heap.size) A (Us (opP key iv p pre).1) := (HSP.out.keep fun q hq => (HI.out.bl.trans (HB1.out.mono hwX)).cell hq).imp (p' := (· < X1.heap.size)) fun q hq => Nat.lt_of_lt_of_le hq (by omega)
    have HC2 := Lib.hid (show SeesP X1.drew (· < X1.drew.heap.size) A (Us (opP key iv p pre).1) from hc2)
    clear hc2
    refine region_round (S := fun X' => X'.cell? ⟨w5.heap.size + 1, 0, none⟩ = some (.slice A 16 c)) (by kernel_rfl) (by kernel_rfl) (fun ⟨_, _, h⟩ => h) hD (fun hHeld => ?_)
    refine wpAnyH_take (i := 1) (v := _) rfl (by kernel_rfl) (by kernel_rfl) (by kernel_rfl) (fun _ _ _ h => h) (Or.inl ⟨by rfl, (by intro w hSw; go_simp; first | done | with_reducible rfl)⟩) hHeld ?_
    simp only [Act.put]
    refine wpAnyH_take (i := 2) (v := _) rfl (by kernel_rfl) (by kernel_rfl) (by kernel_rfl) (fun _ _ _ h => h) (Or.inl ⟨by rfl, (by intro w hSw; go_simp; first | done | with_reducible rfl)⟩) hHeld ?_
    simp only [Act.put]
    refine wpAnyH_ready (rs := [0, 3]) (by kernel_rfl) (by simp) ?_
    refine AllReadyH.cons rfl (fun K hK => ?_) (AllReadyH.cons rfl (fun K hK => ?_) AllReadyH.nil)
    · go_simp
      refine hK.out _ _ hD (fun hHeld => ?_)
      clear hK K
      refine wpAnyH_ready (rs := [3]) (by kernel_rfl) (by simp) ?_
      refine AllReadyH.cons rfl (fun K hK => ?_) AllReadyH.nil
      go_simp
      go_wp2_with (go_at_call 44; ((with_reducible refine (prog_combine (decL key (blk16 p x.val)) (opP key iv p pre).1 _ _ _ _ _ _ _ (decL_length _ _) HLS.out (Nat.le_refl _) (Nat.le_refl _) HC1.out HC2.out).mono ?_); rintro e X2 ⟨g2, rfl, hg2, hr2, hb2⟩); have HB2 := Lib.hid (show Below X.heap.size X X2 from HB1.out.drew.trans (hb2.mono hBX)); have HR2 := Lib.hid hr2; clear hg2 hr2 hb2)
      have hS2 : X2.cell? ⟨w5.heap.size + 1, 0, none⟩ = some (.slice A 16 c) := (HB2.out.cell (p := ⟨w5.heap.size + 1, 0, none⟩) (by show w5.heap.size + 1 < X.heap.size; omega)).trans y2
      have y7 := (HB2.out.cell (p := ⟨w5.heap.size, 0, none⟩) (by show w5.heap.size < X.heap.size; omega)).trans HI.out.out
      refine hK.out _ _ hS2 (fun hHeld => ?_)
      clear hK K
      refine wpAnyH_ready (rs := [4]) (by kernel_rfl) (by simp) ?_
      refine AllReadyH.cons rfl (fun K hK => ?_) AllReadyH.nil
      have HOwn := Lib.hid (own_same HI.out.own (HB2.out.block (w.heap.size + 1) (by omega)))
      refine step_fits rfl (.tmp 25) (.tmp 28) 22 rfl w.heap.size 5 i0 1 Try.underlying22 hi hz1 (w.heap.size + 1) (16 * pre.length) (16 * m) _ rfl HOwn.out ⟨g2, 0, none⟩ 16 16 (Us (xor16 (decL key (blk16 p x.val)) (opP key iv p pre).1)) rfl (by rw [Us_length, xor16_length]) (news16 HR2.out) (Us_one _) hlt ?_
      intro X6 hown6 hgr6
      have eO : (opP key iv p pre).2 ++ xor16 (decL key (blk16 p x.val)) (opP key iv p pre).1 = (opP key iv p (pre ++ [x])).2 := by rw [opP_snoc]
      rw [← Us_append, eO] at hown6
      have HN := Lib.hid (OpI.next (A2 := some ⟨b, off + 16 * x.val, none⟩) (c2 := 16) HI.out hgl (by omega) (by omega) hX HB2.out hown6 hgr6 rfl HX0.out)
      have hsX := HB2.out.size
      have hS6 : X6.cell? ⟨w5.heap.size + 1, 0, none⟩ = some (.slice A 16 c) := (World.cell?_of_block (hgr6.block (w5.heap.size + 1) (by omega) (fun e => by injection e; omega))).trans hS2
      have y8 : X6.cell? ⟨w5.heap.size, 0, none⟩ = _ := (World.cell?_of_block (hgr6.block w5.heap.size (by omega) (fun e => by injection e; omega))).trans y7
      have y9 : X6.frozen? ⟨w5.heap.size, 0, none⟩ = false := (World.frozen?_of_block (hgr6.block w5.heap.size (by omega) (fun e => by injection e; omega))).trans ((World.frozen?_of_block (HB2.out.block w5.heap.size (by omega))).trans HI.out.fr)
      have y10 : X6.frozen? ⟨w5.heap.size + 1, 0, none⟩ = false := (World.frozen?_of_block (hgr6.block (w5.heap.size + 1) (by omega) (fun e => by injection e; omega))).trans ((World.frozen?_of_block (HB2.out.block (w5.heap.size + 1) (by omega))).trans HI.out.fb)
      refine hK.out _ _ hS6 (fun hHeld => ?_)
      clear hK K hown6 hgr6 HOwn
      refine wpAnyH_ready (rs := [5]) (by kernel_rfl) (by simp) ?_
      refine AllReadyH.cons rfl (fun K hK => ?_) AllReadyH.nil
      go_simp
      have hS7 : (X6.setCell ⟨w5.heap.size, 0, none⟩ (.slice (some ⟨w.heap.size + 1, 0, none⟩) (16 * pre.length + 16) (16 * m))).cell? ⟨w5.heap.size + 1, 0, none⟩ = some (.slice A 16 c) := (World.cell?_of_block (heap_setCell_other _ _ _ _ (by show w5.heap.size + 1 ≠ w5.heap.size; omega))).trans hS6
      have y11 : (X6.setCell ⟨w5.heap.size, 0, none⟩ (.slice (some ⟨w.heap.size + 1, 0, none⟩) (16 * pre.length + 16) (16 * m))).frozen? ⟨w5.heap.size + 1, 0, none⟩ = false := by rw [World.frozen?_setCell]; exact y10
      refine hK.out _ _ hS7 (fun hHeld => ?_)
      clear hK K
      refine wpAnyH_done (by kernel_rfl) ?_ _
      clear hHeld hS6 hS2 y1 y2 y3 y4 y5 y6 y7 y8 y9 y10 hD HI HB1 HB2 HR1 HR2 HC1 HC2 HSB HSP HSK HX0
      gi_wp2
      exact ⟨HN.out.1, HN.out.2.1, HN.out.2.2, Nat.le_trans hX HN.out.1.size⟩
    · go_simp
      go_wp2_with (go_at_call 44; ((with_reducible refine (prog_combine (decL key (blk16 p x.val)) (opP key iv p pre).1 _ _ _ _ _ _ _ (decL_length _ _) HLS.out (Nat.le_refl _) (Nat.le_refl _) HC1.out HC2.out).mono ?_); rintro e X2 ⟨g2, rfl, hg2, hr2, hb2⟩); have HB2 := Lib.hid (show Below X.heap.size X X2 from HB1.out.drew.trans (hb2.mono hBX)); have HR2 := Lib.hid hr2; clear hg2 hr2 hb2)
      have hS2 : X2.cell? ⟨w5.heap.size + 1, 0, none⟩ = some (.slice A 16 c) := (HB2.out.cell (p := ⟨w5.heap.size + 1, 0, none⟩) (by show w5.heap.size + 1 < X.heap.size; omega)).trans y2
      have y7 := (HB2.out.cell (p := ⟨w5.heap.size, 0, none⟩) (by show w5.heap.size < X.heap.size; omega)).trans HI.out.out
      refine hK.out _ _ hS2 (fun hHeld => ?_)
      clear hK K
      refine wpAnyH_ready (rs := [0]) (by kernel_rfl) (by simp) ?_
      refine AllReadyH.cons rfl (fun K hK => ?_) AllReadyH.nil
      go_simp
      refine hK.out _ _ hS2 (fun hHeld => ?_)
      clear hK K
      refine wpAnyH_ready (rs := [4]) (by kernel_rfl) (by simp) ?_
      refine AllReadyH.cons rfl (fun K hK => ?_) AllReadyH.nil
      have HOwn := Lib.hid (own_same HI.out.own (HB2.out.block (w.heap.size + 1) (by omega)))
      refine step_fits rfl (.tmp 25) (.tmp 28) 22 rfl w.heap.size 5 i0 1 Try.underlying22 hi hz1 (w.heap.size + 1) (16 * pre.length) (16 * m) _ rfl HOwn.out ⟨g2, 0, none⟩ 16 16 (Us (xor16 (decL key (blk16 p x.val)) (opP key iv p pre).1)) rfl (by rw [Us_length, xor16_length]) (news16 HR2.out) (Us_one _) hlt ?_
      intro X6 hown6 hgr6
      have eO : (opP key iv p pre).2 ++ xor16 (decL key (blk16 p x.val)) (opP key iv p pre).1 = (opP key iv p (pre ++ [x])).2 := by rw [opP_snoc]
      rw [← Us_append, eO] at hown6
      have HN := Lib.hid (OpI.next (A2 := some ⟨b, off + 16 * x.val, none⟩) (c2 := 16) HI.out hgl (by omega) (by omega) hX HB2.out hown6 hgr6 rfl HX0.out)
      have hsX := HB2.out.size
      have hS6 : X6.cell? ⟨w5.heap.size + 1, 0, none⟩ = some (.slice A 16 c) := (World.cell?_of_block (hgr6.block (w5.heap.size + 1) (by omega) (fun e => by injection e; omega))).trans hS2
      have y8 : X6.cell? ⟨w5.heap.size, 0, none⟩ = _ := (World.cell?_of_block (hgr6.block w5.heap.size (by omega) (fun e => by injection e; omega))).trans y7
      have y9 : X6.frozen? ⟨w5.heap.size, 0, none⟩ = false := (World.frozen?_of_block (hgr6.block w5.heap.size (by omega) (fun e => by injection e; omega))).trans ((World.frozen?_of_block (HB2.out.block w5.heap.size (by omega))).trans HI.out.fr)
      have y10 : X6.frozen? ⟨w5.heap.size + 1, 0, none⟩ = false := (World.frozen?_of_block (hgr6.block (w5.heap.size + 1) (by omega) (fun e => by injection e; omega))).trans ((World.frozen?_of_block (HB2.out.block (w5.heap.size + 1) (by omega))).trans HI.out.fb)
      refine hK.out _ _ hS6 (fun hHeld => ?_)
      clear hK K hown6 hgr6 HOwn
      refine wpAnyH_ready (rs := [5]) (by kernel_rfl) (by simp) ?_
      refine AllReadyH.cons rfl (fun K hK => ?_) AllReadyH.nil
      go_simp
      have hS7 : (X6.setCell ⟨w5.heap.size, 0, none⟩ (.slice (some ⟨w.heap.size + 1, 0, none⟩) (16 * pre.length + 16) (16 * m))).cell? ⟨w5.heap.size + 1, 0, none⟩ = some (.slice A 16 c) := (World.cell?_of_block (heap_setCell_other _ _ _ _ (by show w5.heap.size + 1 ≠ w5.heap.size; omega))).trans hS6
      have y11 : (X6.setCell ⟨w5.heap.size, 0, none⟩ (.slice (some ⟨w.heap.size + 1, 0, none⟩) (16 * pre.length + 16) (16 * m))).frozen? ⟨w5.heap.size + 1, 0, none⟩ = false := by rw [World.frozen?_setCell]; exact y10
      refine hK.out _ _ hS7 (fun hHeld => ?_)
      clear hK K
      refine wpAnyH_done (by kernel_rfl) ?_ _
      clear hHeld hS6 hS2 y1 y2 y3 y4 y5 y6 y7 y8 y9 y10 hD HI HB1 HB2 HR1 HR2 HC1 HC2 HSB HSP HSK HX0
      gi_wp2
      exact ⟨HN.out.1, HN.out.2.1, HN.out.2.2, Nat.le_trans hX HN.out.1.size⟩
  case done =>
    rintro D ys X hD rfl ⟨hI, hX⟩ hK
    have y1 := hI.out
    have HI := Lib.hid hI
    clear hI HI0
    have HF := Lib.hid (show Mk w (openN key iv p m) (.returned (.slice (some ⟨w.heap.size + 1, 0, none⟩) (16 * m) (16 * m))) (X.putObj D (.deferred none)) from by
      have h := HI.out.own
      rw [opP_all, List.length_finRange] at h
      exact mk_own (ownsRow_putObj h (.deferred none) hK rfl) (HI.out.bl.trans (belowK_b (w := w) (Nat.le_refl _) X D _ _ (by omega) hK rfl rfl)) (openN_length key iv p m).symm)
    go_wp2
    refine ⟨by simp, .inl ⟨_, _, rfl, run_takeDeferred hK, ?_⟩⟩
    refine ⟨_, results_tmp rfl _ _ _, ?_⟩
    exact HF.out
  case stop =>
    rintro D c pre X _ _ h _
    exact h.elim

/-- what Open answers -/
def openB (key iv p : List UInt8) : List UInt8 := if vE key.length iv.length p.length = 0 then openN key iv p (p.length / 16) else []
set_option maxHeartbeats 1000000 in
theorem modes_open (key iv p : List UInt8) (A1 A2 A3 : Option Addr) (c1 c2 c3 : Nat) (w : World) (m1 : key.length ≤ 140737488351300) (m2 : iv.length ≤ 140737488351300) (m3 : p.length ≤ 140737488351300) (hc3 : p.length ≤ c3)
    (h1 : SeesP w (· < w.heap.size) A1 (Us key)) (h2 : SeesP w (· < w.heap.size) A2 (Us iv)) (h3 : SeesP w (· < w.heap.size) A3 (Us p)) :
    Calls Try.prog 17 #[.slice A1 key.length c1, .slice A2 iv.length c2, .slice A3 p.length c3] w (GivesY w (openB key iv p) (vE key.length iv.length p.length)) := by
  obtain ⟨v, hv⟩ : ∃ v, v = vE key.length iv.length p.length := ⟨_, rfl⟩
  have hval := prog_valid A1 A2 A3 key.length iv.length p.length c1 c2 c3 w (by omega) (by omega)
  rw [← hv] at hval ⊢
  by_cases h0 : v = 0
  · obtain ⟨e1, e2, e3⟩ := vE_zero (hv.symm.trans h0)
    have eB : openB key iv p = openN key iv p (p.length / 16) := if_pos (hv.symm.trans h0)
    have hs := prog_open key iv p (p.length / 16) A1 A2 A3 c1 c2 c3 w e1 e2 (by omega) (by omega) (by omega) h1 h2 h3
    rw [show 16 * (p.length / 16) = p.length by omega] at hs
    rw [eB, e1, e2]
    rw [e1, e2] at hval
    subst h0
    have HV := Lib.hid hval
    have HS := Lib.hid hs
    clear hval hs eB hv e1 e2 e3 h1 h2 h3
    go_enter Try.func17, Try.ntmps17
    go_wp2_with (first
      | (go_at_call 28; (with_reducible refine HV.out.mono ?_); rintro e w1 ⟨rfl, rfl⟩)
      | (go_at_call 32; (with_reducible refine HS.out.mono ?_); rintro e w2 ⟨A, c, rfl, hr⟩; have HR := Lib.hid hr; clear hr))
    go_ret2
    exact ⟨A, c, rfl, HR.out⟩
  · have eB : openB key iv p = [] := if_neg (fun e => h0 (hv.trans e))
    have d0 : (v != 0) = true := by simpa using h0
    have d1 : (v == 0) = false := by simpa using h0
    rw [eB]
    have HV := Lib.hid hval
    clear hval eB hv h1 h2 h3
    go_enter Try.func17, Try.ntmps17
    go_wp2_with (go_at_call 28; (with_reducible refine HV.out.mono ?_); rintro e w1 ⟨rfl, rfl⟩)
    go_ret2
    exact givesY_none (Below.refl _ _)

end Go.Proofs.Ytipkaeeimohmpaa
