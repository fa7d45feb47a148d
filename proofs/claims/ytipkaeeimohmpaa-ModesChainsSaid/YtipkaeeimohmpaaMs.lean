/-
  What is proved here: what the program's seal and Seal answer, for bytes that lie in memory.
-/
import Derived.Test.YtipkaeeimohmpaaMe
import Derived.Test.YtipkaeeimohmpaaMp
import Derived.Test.YtipkaeeimohmpaaAp
namespace Go.Proofs.Ytipkaeeimohmpaa
open Go.RowKit Go.Shelf
set_option linter.unusedVariables false
attribute [local go_sem] Oper.semAt_some

/-- the encrypted blocks behind the blocks pre -/
def outF (key iv p : List UInt8) {m : Nat} (pre : List (_root_.Fin m)) : List UInt8 := (pre.foldl (fun s x => (encL key (xor16 (blk16 p x.val) s.1), s.2 ++ encL key (xor16 (blk16 p x.val) s.1))) (iv, ([] : List UInt8))).2
theorem outF_fst (key p : List UInt8) {m : Nat} (pre : List (_root_.Fin m)) : ∀ (st o : List UInt8), (pre.foldl (fun s x => (encL key (xor16 (blk16 p x.val) s.1), s.2 ++ encL key (xor16 (blk16 p x.val) s.1))) (st, o)).1 = stF key st p pre := by
  induction pre with
  | nil => exact fun st o => rfl
  | cons x r ih => exact fun st o => by rw [List.foldl_cons, stF_cons]; exact ih _ _
theorem outF_snoc (key iv p : List UInt8) {m : Nat} (pre : List (_root_.Fin m)) (x : _root_.Fin m) : outF key iv p (pre ++ [x]) = outF key iv p pre ++ stF key iv p (pre ++ [x]) := by
  unfold outF
  rw [List.foldl_append, List.foldl_cons, List.foldl_nil, stF_snoc]
  show _ ++ encL key (xor16 (blk16 p x.val) _) = _
  rw [outF_fst]
/-- the state before block k, and the first k encrypted blocks -/
def stN (key iv p : List UInt8) : Nat → List UInt8
  | 0 => iv
  | k + 1 => encL key (xor16 (blk16 p k) (stN key iv p k))
def sealN (key iv p : List UInt8) : Nat → List UInt8
  | 0 => []
  | k + 1 => sealN key iv p k ++ stN key iv p (k + 1)
theorem stF_up (key iv p : List UInt8) : ∀ k m (h : k ≤ m), stF key iv p (upF m k) = stN key iv p k
  | 0, m, _ => by simp [upF, stN, stF]
  | k + 1, m, h => by rw [upF_succ (show k < m by omega), stF_snoc, stF_up key iv p k m (by omega)]; rfl
theorem outF_up (key iv p : List UInt8) : ∀ k m (h : k ≤ m), outF key iv p (upF m k) = sealN key iv p k
  | 0, m, _ => by simp [upF, sealN, outF]
  | k + 1, m, h => by rw [upF_succ (show k < m by omega), outF_snoc, outF_up key iv p k m (by omega), ← upF_succ (show k < m by omega), stF_up key iv p (k + 1) m h]; rfl
theorem upF_all (m : Nat) : upF m m = List.finRange m := by unfold upF; exact List.take_of_length_le (by simp)
theorem outF_all (key iv p : List UInt8) (m : Nat) : outF key iv p (List.finRange m) = sealN key iv p m := by rw [← upF_all]; exact outF_up key iv p m m (Nat.le_refl _)
theorem stF_all (key iv p : List UInt8) (m : Nat) : stF key iv p (List.finRange m) = stN key iv p m := by rw [← upF_all]; exact stF_up key iv p m m (Nat.le_refl _)
theorem stN_length {key iv p : List UInt8} (h : iv.length = 16) : ∀ k, (stN key iv p k).length = 16
  | 0 => h
  | k + 1 => encL_length _ _
theorem sealN_length {key iv p : List UInt8} (h : iv.length = 16) : ∀ k, (sealN key iv p k).length = 16 * k
  | 0 => rfl
  | k + 1 => by rw [sealN, List.length_append, sealN_length h k, stN_length h]; omega

/-- what seal's loop keeps: the result's slice in its cell and its row, what was there, the iterator's closure cells -/
structure SlI (key iv p : List UInt8) (m Bo Bk g : Nat) (A1 A2 A3 : Option Addr) (c1 c2 c3 : Nat) (w : World) (pre : List (_root_.Fin m)) (X : World) : Prop where
  out : X.cell? ⟨Bo, 0, none⟩ = some (.slice (some ⟨g, 0, none⟩) (16 * pre.length) (16 * m))
  fr : X.frozen? ⟨Bo, 0, none⟩ = false
  own : X.ownsRow w.heap.size 5 1 (.slice (some ⟨g, 0, none⟩) (16 * pre.length) (16 * m)) (16 * pre.length) (Us (outF key iv p pre))
  bl : Below w.heap.size w X
  ck : X.cell? ⟨Bk, 0, none⟩ = some (.slice A1 16 c1)
  ci : X.cell? ⟨Bk + 1, 0, none⟩ = some (.slice A2 16 c2)
  cb : X.cell? ⟨Bk + 2, 0, none⟩ = some (.slice A3 (16 * m) c3)
theorem own_same {X Y : World} {base : Nat} {e : TypeId} {g n c : Nat} {xs : List Value} (h : X.ownsRow base e 1 (.slice (some ⟨g, 0, none⟩) n c) n xs) (hs : Y.heap[g]? = X.heap[g]?) : Y.ownsRow base e 1 (.slice (some ⟨g, 0, none⟩) n c) n xs := by
  obtain ⟨hl, h⟩ := h
  refine ⟨hl, ?_⟩
  rcases h with ⟨h1, _⟩ | ⟨g2, cap, cur, h1, h2, h3, h4⟩
  · cases h1
  · injection h1 with e1 _ e2
    injection e1 with e1
    injection e1 with e1
    subst e1
    exact .inr ⟨g, cap, cur, by rw [e2], h2, hs.trans h3, h4⟩
theorem own_lt {X : World} {base : Nat} {e : TypeId} {g n c : Nat} {xs : List Value} (h : X.ownsRow base e 1 (.slice (some ⟨g, 0, none⟩) n c) n xs) : g < X.heap.size := by
  rcases h.2 with ⟨h1, _⟩ | ⟨g2, cap, cur, h1, h2, h3, h4⟩
  · cases h1
  · injection h1 with e1 _ e2
    injection e1 with e1
    injection e1 with e1
    subst e1
    exact (Array.getElem?_eq_some_iff.1 h3).1
section
variable {key iv p : List UInt8} {m Bo Bk g b : Nat} {A1 A2 A3 : Option Addr} {c1 c2 c3 : Nat} {w X Y : World} {pre : List (_root_.Fin m)}
theorem SlI.steps (h : SlI key iv p m Bo Bk g A1 A2 A3 c1 c2 c3 w pre X) (hg : g < Bo) (hb : Bo < b) (hk : Bk + 3 ≤ b) (hw : w.heap.size ≤ b) (hs : StepsU b X Y) : SlI key iv p m Bo Bk g A1 A2 A3 c1 c2 c3 w pre Y := by
  have s : ∀ q, q < b → q < X.heap.size → Y.heap[q]? = X.heap[q]? := fun q h1 h2 => hs.2.2.2.2 q h2 (.inl h1)
  have l1 := cell_size h.out
  have l2 := cell_size h.ck
  have l3 := cell_size h.ci
  have l4 := cell_size h.cb
  exact ⟨(World.cell?_of_block (s _ hb l1)).trans h.out, (World.frozen?_of_block (s _ hb l1)).trans h.fr, own_same h.own (s _ (by omega) (own_lt h.own)),
    ⟨hs.1.trans h.bl.os, hs.2.1.trans h.bl.tape, hs.2.2.1.trans h.bl.output, Nat.le_trans h.bl.size hs.2.2.2.1, fun q hq => (s q (by omega) (Nat.lt_of_lt_of_le hq h.bl.size)).trans (h.bl.block q hq)⟩,
    (World.cell?_of_block (s _ (by show Bk < b; omega) l2)).trans h.ck, (World.cell?_of_block (s _ (by show Bk + 1 < b; omega) l3)).trans h.ci, (World.cell?_of_block (s _ (by show Bk + 2 < b; omega) l4)).trans h.cb⟩
theorem SlI.rd (h : SlI key iv p m Bo Bk g A1 A2 A3 c1 c2 c3 w pre X) (hk : Bk + 3 ≤ b) (hw : w.heap.size ≤ b) (h1 : SeesP w (· < w.heap.size) A1 (Us key)) (h2 : SeesP w (· < w.heap.size) A2 (Us iv)) (h3 : SeesP w (· < w.heap.size) A3 (Us p)) : RdE key iv p m Bk A1 A2 A3 c1 c2 c3 b X :=
  ⟨hk, h.ck, h.ci, h.cb, (h1.keep fun q hq => h.bl.cell hq).imp fun q hq => Nat.lt_of_lt_of_le hq hw, (h2.keep fun q hq => h.bl.cell hq).imp fun q hq => Nat.lt_of_lt_of_le hq hw, (h3.keep fun q hq => h.bl.cell hq).imp fun q hq => Nat.lt_of_lt_of_le hq hw⟩
/-- behind an append of the next block -/
theorem SlI.next {x : _root_.Fin m} {X6 : World} {v : Value} (h : SlI key iv p m Bo Bk g A1 A2 A3 c1 c2 c3 w pre X) (hg : g < Bo) (hgw : w.heap.size ≤ g) (hk1 : Bo < Bk) (hb : Bk + 3 ≤ b)
    (ho : X6.ownsRow w.heap.size 5 1 (.slice (some ⟨g, 0, none⟩) (16 * pre.length + 16) (16 * m)) (16 * pre.length + 16) (Us (outF key iv p (pre ++ [x])))) (hgr : X.grownBy X6 (some g)) (hv : v = .slice (some ⟨g, 0, none⟩) (16 * pre.length + 16) (16 * m)) :
    KeepsUp b X (X6.setCell ⟨Bo, 0, none⟩ v) ∧ SlI key iv p m Bo Bk g A1 A2 A3 c1 c2 c3 w (pre ++ [x]) (X6.setCell ⟨Bo, 0, none⟩ v) := by
  subst hv
  have s : ∀ q, q ≠ g → q ≠ Bo → q < X.heap.size → (X6.setCell ⟨Bo, 0, none⟩ (.slice (some ⟨g, 0, none⟩) (16 * pre.length + 16) (16 * m))).heap[q]? = X.heap[q]? := fun q h1 h2 h3 => by
    rw [heap_setCell_other _ _ _ _ (by show q ≠ Bo; exact h2)]
    exact hgr.block q h3 (fun e => h1 (Option.some.inj e))
  have hsz : (X6.setCell ⟨Bo, 0, none⟩ (.slice (some ⟨g, 0, none⟩) (16 * pre.length + 16) (16 * m))).heap.size = X6.heap.size := by simp [World.setCell]
  have hl : 16 * (pre ++ [x]).length = 16 * pre.length + 16 := by rw [List.length_append]; simp; omega
  have l1 := cell_size h.out
  have l2 := cell_size h.ck
  have l3 := cell_size h.ci
  have l4 := cell_size h.cb
  have cO : X6.cell? ⟨Bo, 0, none⟩ = X.cell? ⟨Bo, 0, none⟩ := World.cell?_of_block (hgr.block Bo l1 (fun e => by injection e; omega))
  have fO : X6.frozen? ⟨Bo, 0, none⟩ = X.frozen? ⟨Bo, 0, none⟩ := World.frozen?_of_block (hgr.block Bo l1 (fun e => by injection e; omega))
  refine ⟨⟨by rw [hsz]; exact hgr.size, fun q h1 h2 => s q (by omega) (by omega) h2⟩, ?_, ?_, ?_, ?_, ?_, ?_, ?_⟩
  · rw [hl]
    exact World.cell?_setCell_same' _ _ _ (by rw [cO, h.out]; rfl)
  · rw [World.frozen?_setCell, fO]
    exact h.fr
  · rw [hl]
    exact own_same ho (heap_setCell_other _ _ _ _ (by show g ≠ Bo; omega))
  · exact (h.bl.grown hgr h.bl.size (fun k e => by cases e; exact hgw)).setCell (p := ⟨Bo, 0, none⟩) (by show w.heap.size ≤ Bo; omega) _
  · exact (World.cell?_of_block (s Bk (by omega) (by omega) l2)).trans h.ck
  · exact (World.cell?_of_block (s (Bk + 1) (by omega) (by omega) l3)).trans h.ci
  · exact (World.cell?_of_block (s (Bk + 2) (by omega) (by omega) l4)).trans h.cb
end
theorem four_frozen (W : World) (u1 u2 u3 u4 : Value) (t1 t2 t3 t4 : TypeId) : (four W u1 u2 u3 u4 t1 t2 t3 t4).frozen? ⟨W.heap.size, 0, none⟩ = false := by
  refine frozen_of_row _ _ 0 #[u1] t1 ?_
  unfold four
  rw [Below.heap_alloc _ _ _ (by simp; omega), Below.heap_alloc _ _ _ (by simp; omega), Below.heap_alloc _ _ _ (by simp), heap_alloc_new]
theorem news16 {X : World} {g : Nat} {l : List UInt8} (h : RowB X g l) : ∀ j u, (Us l)[j]? = some u → X.cell? ((⟨g, 0, none⟩ : Addr).add j) = some u := fun j u hu => by
  have hj := (List.getElem?_eq_some_iff.1 hu).1
  rw [Us_length] at hj
  have hadd : (⟨g, 0, none⟩ : Addr).add j = ⟨g, j, none⟩ := by unfold Addr.add; split <;> simp_all
  rw [hadd, h.cell hj, ← hu, Us_get hj, getD_b hj]

set_option maxRecDepth 100000 in
set_option maxHeartbeats 1000000 in
theorem prog_seal (key iv p : List UInt8) (m : Nat) (A1 A2 A3 : Option Addr) (c1 c2 c3 : Nat) (w : World) (hk : key.length = 16) (hiv : iv.length = 16) (hp : p.length = 16 * m) (hc3 : 16 * m ≤ c3) (hreach : 16 * m ≤ 140737488351300)
    (h1 : SeesP w (· < w.heap.size) A1 (Us key)) (h2 : SeesP w (· < w.heap.size) A2 (Us iv)) (h3 : SeesP w (· < w.heap.size) A3 (Us p)) :
    Calls Try.prog 29 #[.slice A1 16 c1, .slice A2 16 c2, .slice A3 (16 * m) c3] w (Mk w (sealN key iv p m)) := by
  have HL := Lib.hid (show key.length = 16 ∧ iv.length = 16 ∧ p.length = 16 * m from ⟨hk, hiv, hp⟩)
  have HS := Lib.hid (show SeesP w (· < w.heap.size) A1 (Us key) ∧ SeesP w (· < w.heap.size) A2 (Us iv) ∧ SeesP w (· < w.heap.size) A3 (Us p) from ⟨h1, h2, h3⟩)
  clear hk hiv hp h1 h2 h3
  obtain ⟨i0, hi, hz0, hz1, hz2⟩ := info_parts info_u8p
  refine (callsIn_wide (n := 9)).1 ?_
  refine callsIn_of_wp_marks Try.func29 rfl trivial ?_ rfl
  simp only [Try.ntmps29, List.size_toArray, List.length_cons, List.length_nil, Nat.reduceAdd, Nat.reduceSub, Array.replicate_succ, Array.replicate_zero, List.push_toArray, List.append_toArray, List.nil_append, List.cons_append]
  refine wpIn_wide.2 ?_
  go_wp2_with (first
    | (at_make; refine wpList_make_own _ rfl _ _ 22 rfl w.heap.size 5 i0 (.int .u8 0) 1 Try.underlying22 hi hz0 hz1 _ _ _ (16 * m) rfl rfl (by omega) (by rw [hz2]; omega) (by unfold maxLen; omega) (Nat.le_refl _) ?_; intro w5 hown hgrow; have HO := Lib.hid (show w5.ownsRow w.heap.size 5 1 (.slice (some ⟨w.heap.size, 0, none⟩) 0 (16 * m)) 0 [] ∧ Below w.heap.size w w5 from ⟨hown, (Below.refl _ _).grown hgrow (Nat.le_refl _) (fun k e => by cases e)⟩); clear hown hgrow)
    | (go_at_call 37; (with_reducible refine (prog_encrypted _ _ _ _ _ _ _ _ _ _).mono ?_); rintro e w' ⟨rfl, rfl⟩))
  have hF := four_facts w5 (.slice (some ⟨w.heap.size, 0, none⟩) 0 (16 * m)) (.slice A1 16 c1) (.slice A2 16 c2) (.slice A3 (16 * m) c3) 22 22 22 22
  have hF0 := four_frozen w5 (.slice (some ⟨w.heap.size, 0, none⟩) 0 (16 * m)) (.slice A1 16 c1) (.slice A2 16 c2) (.slice A3 (16 * m) c3) 22 22 22 22
  generalize hW4 : four w5 (.slice (some ⟨w.heap.size, 0, none⟩) 0 (16 * m)) (.slice A1 16 c1) (.slice A2 16 c2) (.slice A3 (16 * m) c3) 22 22 22 22 = W4 at hF hF0
  have HW : ((((w5.alloc (.cells #[.slice (some ⟨w.heap.size, 0, none⟩) 0 (16 * m)] 22)).alloc (.cells #[.slice A1 16 c1] 22)).alloc (.cells #[.slice A2 16 c2] 22)).alloc (.cells #[.slice A3 (16 * m) c3] 22)) = W4 := hW4
  rw [HW]
  clear HW hW4
  obtain ⟨hF1, hF2, hF3, hF4, hF5, hF6, hF7⟩ := hF
  have hgl := own_lt HO.out.1
  have hsz := HO.out.2.size
  have HI0 := Lib.hid (show SlI key iv p m w5.heap.size (w5.heap.size + 1) w.heap.size A1 A2 A3 c1 c2 c3 w [] W4 from
    ⟨hF3, hF0, own_same HO.out.1 (hF1.block _ hgl), HO.out.2.trans (hF1.mono hsz), hF4, hF6, hF7⟩)
  clear hF0 hF1 hF3 hF4 hF5 hF6 hF7 HO
  refine wpIn_wide.1 (?_ : Code.wpIn Fence.wide 9 _ _ _ _ _)
  refine range_e (enc1 key iv p m (w5.heap.size + 1) A1 A2 A3 c1 c2 c3 HL.out.1 HL.out.2.1 HL.out.2.2 hc3 (by omega)) rfl (enters_of Try.func48 (by kernel_rfl) rfl) rfl
    (SlI key iv p m w5.heap.size (w5.heap.size + 1) w.heap.size A1 A2 A3 c1 c2 c3 w) (fun s X Y h hst => h.steps hgl (by rw [hF2]; omega) (by rw [hF2]; omega) (by rw [hF2]; omega) hst)
    (fun s X h => h.rd (by rw [hF2]; omega) (by rw [hF2]; omega) HS.out.1 HS.out.2.1 HS.out.2.2) HI0.out
    (fun gg => { tmps := #[.slice A1 16 c1, .slice A2 16 c2, .slice A3 (16 * m) c3, undef, undef, undef, .slice none 0 0, .pointer (some ⟨w5.heap.size, 0, none⟩), .slice (some ⟨gg, 0, none⟩) 16 16, .slice A3 (16 * m) c3, .int .i64 (16 * (m : Int)), .slice (some ⟨w.heap.size, 0, none⟩) 0 (16 * m), .slice A1 16 c1, .slice A2 16 c2, .slice A3 (16 * m) c3, .func (.func 48) #[] #[.pointer (some ⟨w5.heap.size + 1 + 1, 0, none⟩), .pointer (some ⟨w5.heap.size + 1 + 2, 0, none⟩), .pointer (some ⟨w5.heap.size + 1, 0, none⟩)], .slice (some ⟨gg, 0, none⟩) 16 16, undef, undef, undef, undef], defers := [] }) ?assign ?body ?done
  case assign =>
    intro l gg X K hK
    gi_wp2
    exact hK
  case body =>
    intro l pre x gg X hI hlen hgg hrow
    have HI := Lib.hid hI
    have HR := Lib.hid (show RowB X gg (stF key iv p (pre ++ [x])) from hrow)
    have HGG := Lib.hid hgg
    have y1 := hI.out
    have y2 := hI.fr
    rw [hF2]
    clear hI hrow hgg HI0
    have hlt : 16 * pre.length + 16 ≤ 16 * m := by omega
    gi_wp2_with (gi_at_builtin; refine wpListIn_append_fits _ rfl (.tmp 17) (.tmp 18) 22 rfl w.heap.size 5 i0 1 Try.underlying22 hi hz1 w.heap.size (16 * pre.length) (16 * m) _ rfl HI.out.own ⟨gg, 0, none⟩ 16 16 (Us (stF key iv p (pre ++ [x]))) rfl (by rw [Us_length, stF_length key p _ iv HL.out.2.1]) (news16 HR.out) (Us_one _) hlt ?_; intro X6 hown6 hgr6; rw [← Us_append, ← outF_snoc] at hown6; have HN := Lib.hid (HI.out.next (b := w5.heap.size + 4) hgl (Nat.le_refl _) (by omega) (by omega) hown6 hgr6 rfl); have y3 : ∃ v, X6.cell? ⟨w5.heap.size, 0, none⟩ = some v := ⟨_, (World.cell?_of_block (hgr6.block w5.heap.size (cell_size y1) (fun e => by injection e; omega))).trans y1⟩; obtain ⟨v3, y3⟩ := y3; have y4 : X6.frozen? ⟨w5.heap.size, 0, none⟩ = false := (World.frozen?_of_block (hgr6.block w5.heap.size (cell_size y1) (fun e => by injection e; omega))).trans y2; clear hown6 hgr6 y1 y2)
    exact HN.out
  case done =>
    intro D X hD hI hK
    have y1 := hI.out
    have HI := Lib.hid hI
    clear hI HI0
    have HF := Lib.hid (show Mk w (sealN key iv p m) (.returned (.slice (some ⟨w.heap.size, 0, none⟩) (16 * m) (16 * m))) (X.putObj D (.deferred none)) from by
      have h := HI.out.own
      rw [outF_all, List.length_finRange] at h
      exact mk_own (ownsRow_putObj h (.deferred none) hK rfl) (HI.out.bl.trans (belowK_b (w := w) (Nat.le_refl _) X D _ _ (by omega) hK rfl rfl)) (sealN_length HL.out.2.1 m).symm)
    go_wp2
    refine ⟨by simp, .inl ⟨_, _, rfl, run_takeDeferred hK, ?_⟩⟩
    refine ⟨_, results_tmp rfl _ _ _, ?_⟩
    exact HF.out

/-- bytes of the call's own and a code: what a call answers -/
def GivesY (w : World) (bs : List UInt8) (er : Int) (e : Ending) (w' : World) : Prop :=
  ∃ A c, e = .returned (.tuple #[.slice A bs.length c, .int .i64 er]) ∧ bs.length ≤ c ∧ (A = none → c = 0) ∧ SeesP w' (fun b => w.heap.size ≤ b ∧ b < w'.heap.size) A (Us bs) ∧ Below w.heap.size w w'
theorem givesY_none {w w' : World} {er : Int} (h : Below w.heap.size w w') : GivesY w [] er (.returned (.tuple #[.slice none 0 0, .int .i64 er])) w' := ⟨none, 0, rfl, Nat.le_refl _, fun _ => rfl, .inl rfl, h⟩
/-- what Seal answers -/
def sealB (key iv p : List UInt8) : List UInt8 := if vE key.length iv.length p.length = 0 then sealN key iv p (p.length / 16) else []
theorem vE_zero {k v b : Nat} (h : vE k v b = 0) : k = 16 ∧ v = 16 ∧ b % 16 = 0 := by
  unfold vE at h
  split at h
  · cases h
  · split at h
    · cases h
    · rename_i h1 h2
      omega
set_option maxHeartbeats 1000000 in
theorem modes_seal (key iv p : List UInt8) (A1 A2 A3 : Option Addr) (c1 c2 c3 : Nat) (w : World) (m1 : key.length ≤ 140737488351300) (m2 : iv.length ≤ 140737488351300) (m3 : p.length ≤ 140737488351300) (hc3 : p.length ≤ c3)
    (h1 : SeesP w (· < w.heap.size) A1 (Us key)) (h2 : SeesP w (· < w.heap.size) A2 (Us iv)) (h3 : SeesP w (· < w.heap.size) A3 (Us p)) :
    Calls Try.prog 15 #[.slice A1 key.length c1, .slice A2 iv.length c2, .slice A3 p.length c3] w (GivesY w (sealB key iv p) (vE key.length iv.length p.length)) := by
  obtain ⟨v, hv⟩ : ∃ v, v = vE key.length iv.length p.length := ⟨_, rfl⟩
  have hval := prog_valid A1 A2 A3 key.length iv.length p.length c1 c2 c3 w (by omega) (by omega)
  rw [← hv] at hval ⊢
  by_cases h0 : v = 0
  · obtain ⟨e1, e2, e3⟩ := vE_zero (hv.symm.trans h0)
    have eB : sealB key iv p = sealN key iv p (p.length / 16) := if_pos (hv.symm.trans h0)
    have hs := prog_seal key iv p (p.length / 16) A1 A2 A3 c1 c2 c3 w e1 e2 (by omega) (by omega) (by omega) h1 h2 h3
    rw [show 16 * (p.length / 16) = p.length by omega] at hs
    rw [eB, e1, e2]
    rw [e1, e2] at hval
    subst h0
    have HV := Lib.hid hval
    have HS := Lib.hid hs
    clear hval hs eB hv e1 e2 e3 h1 h2 h3
    go_enter Try.func15, Try.ntmps15
    go_wp2_with (first
      | (go_at_call 28; (with_reducible refine HV.out.mono ?_); rintro e w1 ⟨rfl, rfl⟩)
      | (go_at_call 29; (with_reducible refine HS.out.mono ?_); rintro e w2 ⟨A, c, rfl, hr⟩; have HR := Lib.hid hr; clear hr))
    go_ret2
    exact ⟨A, c, rfl, HR.out⟩
  · have eB : sealB key iv p = [] := if_neg (fun e => h0 (hv.trans e))
    have d0 : (v != 0) = true := by simpa using h0
    have d1 : (v == 0) = false := by simpa using h0
    rw [eB]
    have HV := Lib.hid hval
    clear hval eB hv h1 h2 h3
    go_enter Try.func15, Try.ntmps15
    go_wp2_with (go_at_call 28; (with_reducible refine HV.out.mono ?_); rintro e w1 ⟨rfl, rfl⟩)
    go_ret2
    exact givesY_none (Below.refl _ _)

end Go.Proofs.Ytipkaeeimohmpaa
