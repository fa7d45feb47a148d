/-
  What is proved here: the program's iterator over encrypted blocks: what it hands over, round by round, for bytes that lie in memory.
-/
import Derived.Test.YtipkaeeimohmpaaCh16
import Derived.Test.YtipkaeeimohmpaaRg
import Derived.Test.YtipkaeeimohmpaaMb
namespace Go.Proofs.Ytipkaeeimohmpaa
open Go.RowKit Go.Shelf
set_option linter.unusedVariables false
attribute [local go_sem] Oper.semAt_some

def blk16 (p : List UInt8) (k : Nat) : List UInt8 := (p.drop (16 * k)).take 16
theorem blk16_length {p : List UInt8} {m k : Nat} (hp : p.length = 16 * m) (hk : k < m) : (blk16 p k).length = 16 := by simp [blk16]; omega
/-- the encrypted block behind the blocks pre -/
def stF (key iv p : List UInt8) {m : Nat} (pre : List (_root_.Fin m)) : List UInt8 := pre.foldl (fun st x => encL key (xor16 (blk16 p x.val) st)) iv
theorem stF_snoc (key iv p : List UInt8) {m : Nat} (pre : List (_root_.Fin m)) (x : _root_.Fin m) : stF key iv p (pre ++ [x]) = encL key (xor16 (blk16 p x.val) (stF key iv p pre)) := by simp [stF]
theorem stF_cons (key iv p : List UInt8) {m : Nat} (x : _root_.Fin m) (r : List (_root_.Fin m)) : stF key iv p (x :: r) = stF key (encL key (xor16 (blk16 p x.val) iv)) p r := by simp only [stF, List.foldl_cons]
theorem stF_length (key p : List UInt8) {m : Nat} (pre : List (_root_.Fin m)) : ∀ (iv : List UInt8), iv.length = 16 → (stF key iv p pre).length = 16 := by
  induction pre with
  | nil => exact fun iv h => h
  | cons x r ih => exact fun iv h => by rw [stF_cons]; exact ih _ (encL_length _ _)

/-- what the iterator reads: its three closure cells, and the bytes behind them -/
structure RdE (key iv p : List UInt8) (m Bk : Nat) (A1 A2 A3 : Option Addr) (c1 c2 c3 : Nat) (B : Nat) (X : World) : Prop where
  lt : Bk + 3 ≤ B
  ck : X.cell? ⟨Bk, 0, none⟩ = some (.slice A1 16 c1)
  ci : X.cell? ⟨Bk + 1, 0, none⟩ = some (.slice A2 16 c2)
  cb : X.cell? ⟨Bk + 2, 0, none⟩ = some (.slice A3 (16 * m) c3)
  sk : SeesP X (· < B) A1 (Us key)
  si : SeesP X (· < B) A2 (Us iv)
  sb : SeesP X (· < B) A3 (Us p)

/-- between two rounds of the iterator's own loop -/
def EnI (key iv p : List UInt8) (m l B : Nat) (J : List (_root_.Fin m) → World → Prop) (pre : List (_root_.Fin m)) (X : World) : Prop :=
  J pre X ∧ X.cell? ⟨B, 0, none⟩ = some (.func (.yield l) #[] #[]) ∧ (∃ A c, X.cell? ⟨B + 1, 0, none⟩ = some (.slice A 16 c) ∧ SeesP X (· < X.heap.size) A (Us (stF key iv p pre))) ∧ X.frozen? ⟨B + 1, 0, none⟩ = false ∧ B + 4 ≤ X.heap.size

theorem cell_size {X : World} {a : Addr} {v : Value} (h : X.cell? a = some v) : a.block < X.heap.size := World.block_lt_of_cell? X a h
theorem sees_grown {X Y : World} {row : Option Nat} {A : Option Addr} {bs : List UInt8} (h : SeesP X (· < X.heap.size) A (Us bs)) (hg : X.grownBy Y row) (hr : ∀ r, row = some r → ∃ o : Obj, X.heap[r]? = some o ∧ o.isCells = false) : SeesP Y (· < Y.heap.size) A (Us bs) := by
  rcases h with h | ⟨b, off, e, hb, hc⟩
  · exact .inl h
  · refine .inr ⟨b, off, e, Nat.lt_of_lt_of_le hb hg.size, fun j hj => ?_⟩
    have h1 := hc j hj
    rw [Us_length] at hj
    rw [Us_get hj] at h1 ⊢
    exact cell_kept h1 hg hr
theorem enI_own {key iv p : List UInt8} {m l B : Nat} {J : List (_root_.Fin m) → World → Prop} (hJ : ∀ s X Y, J s X → StepsI B X Y → J s Y) : OwnFrom (B + 4) (EnI key iv p m l B J) := by
  rintro pre X Y row ⟨h1, h2, ⟨A, c, h3, h4⟩, h5, h6⟩ hg hr
  have hr2 : ∀ r, row = some r → ∃ o : Obj, X.heap[r]? = some o ∧ o.isCells = false := fun r e => (hr r e).2
  exact ⟨hJ _ _ _ h1 (StepsI.grown hg (fun r e => ⟨by have := (hr r e).1; omega, .inr (hr r e).2⟩)), cell_kept h2 hg hr2, ⟨A, c, cell_kept h3 hg hr2, sees_grown h4 hg hr2⟩, (frozen_kept h3 hg hr2).trans h5, Nat.le_trans h6 hg.size⟩

theorem prog_encrypted (A1 A2 A3 : Option Addr) (n1 n2 n3 c1 c2 c3 : Nat) (w : World) :
    Calls Try.prog 37 #[.slice A1 n1 c1, .slice A2 n2 c2, .slice A3 n3 c3] w fun e w' => e = .returned (.func (.func 48) #[] #[.pointer (some ⟨w.heap.size + 1, 0, none⟩), .pointer (some ⟨w.heap.size + 2, 0, none⟩), .pointer (some ⟨w.heap.size, 0, none⟩)]) ∧
      w' = (((w.alloc (.cells #[.slice A1 n1 c1] 22)).alloc (.cells #[.slice A2 n2 c2] 22)).alloc (.cells #[.slice A3 n3 c3] 22)) := by
  go_enter Try.func37, Try.ntmps37
  go_wp2
  go_ret
  exact ⟨rfl, rfl⟩

theorem StepsI.below {B : Nat} {X Y : World} (h : Below X.heap.size X Y) : StepsI B X Y := ⟨h.os, h.tape, h.output, h.size, fun q hq _ => h.block q hq⟩
theorem StepsI.setCell (B : Nat) (X : World) (v : Value) : StepsI B X (X.setCell ⟨B + 1, 0, none⟩ v) :=
  ⟨rfl, rfl, rfl, by simp [World.setCell], fun q hq hc => heap_setCell_other X ⟨B + 1, 0, none⟩ q v (by show q ≠ B + 1; rcases hc with h | h <;> omega)⟩
theorem blk_sees16 {X : World} {pr : Nat → Prop} {A : Option Addr} {p : List UInt8} {m k b off : Nat} (h : SeesP X pr A (Us p)) (hp : p.length = 16 * m) (hk : k < m) (hA : A = some ⟨b, off, none⟩) : SeesP X pr (some ⟨b, off + 16 * k, none⟩) (Us (blk16 p k)) := by
  subst hA
  rcases h with h | ⟨b2, off2, e, hb, hc⟩
  · have e0 : p.length = 0 := by simpa [Us] using congrArg List.length h
    omega
  · injection e with e
    injection e with e1 e2
    subst e1 e2
    refine .inr ⟨b, off + 16 * k, rfl, hb, fun j hj => ?_⟩
    rw [Us_length, blk16_length hp hk] at hj
    rw [Nat.add_assoc, hc _ (by rw [Us_length]; omega), blk16, Us_take, Us_drop, List.getElem?_take, if_pos hj, List.getElem?_drop]
theorem EnI.cells {key iv p : List UInt8} {m l B : Nat} {J : List (_root_.Fin m) → World → Prop} {pre : List (_root_.Fin m)} {X X3 X4 : World} (h : EnI key iv p m l B J pre X) (hb : Below X.heap.size X X3) (hk : KeepsUp B X3 X4) :
    (∃ v, X4.cell? ⟨B + 1, 0, none⟩ = some v) ∧ X4.frozen? ⟨B + 1, 0, none⟩ = false := by
  obtain ⟨h1, h2, ⟨A, c, h3, h4⟩, h5, h6⟩ := h
  have s3 := hb.size
  refine ⟨⟨.slice A 16 c, ?_⟩, ?_⟩
  · rw [World.cell?_of_block (w := X3) (hk.2 (B + 1) (by omega) (by omega)), hb.cell (p := ⟨B + 1, 0, none⟩) (by show B + 1 < _; omega)]
    exact h3
  · rw [World.frozen?_of_block (w := X) ((hk.2 (B + 1) (by omega) (by omega)).trans (hb.block _ (by omega)))]
    exact h5
theorem EnI.next {key iv p : List UInt8} {m l B g : Nat} {J : List (_root_.Fin m) → World → Prop} {pre : List (_root_.Fin m)} {x : _root_.Fin m} {X X3 X4 : World} (hJ : ∀ s X Y, J s X → StepsI B X Y → J s Y) (h : EnI key iv p m l B J pre X) (hb : Below X.heap.size X X3)
    (hrow : RowB X3 g (stF key iv p (pre ++ [x]))) (hg : X.heap.size ≤ g) (hJ4 : J (pre ++ [x]) X4) (hk : KeepsUp B X3 X4) :
    KeepsFrom (B + 4) X (X4.setCell ⟨B + 1, 0, none⟩ (.slice (some ⟨g, 0, none⟩) 16 16)) ∧ KpC (B + 1 + 1) (B + 1 + 1 + 1) X (X4.setCell ⟨B + 1, 0, none⟩ (.slice (some ⟨g, 0, none⟩) 16 16)) ∧ EnI key iv p m l B J (pre ++ [x]) (X4.setCell ⟨B + 1, 0, none⟩ (.slice (some ⟨g, 0, none⟩) 16 16)) := by
  obtain ⟨h1, h2, ⟨A, c, h3, h4⟩, h5, h6⟩ := h
  have hsz : (X4.setCell ⟨B + 1, 0, none⟩ (.slice (some ⟨g, 0, none⟩) 16 16)).heap.size = X4.heap.size := by simp [World.setCell]
  have s3 := hb.size
  have s4 := hk.1
  have same : ∀ q, B ≤ q → q < X.heap.size → q ≠ B + 1 → (X4.setCell ⟨B + 1, 0, none⟩ (.slice (some ⟨g, 0, none⟩) 16 16)).heap[q]? = X.heap[q]? := fun q hq1 hq2 hq3 => by
    rw [heap_setCell_other _ _ _ _ (by show q ≠ B + 1; exact hq3), hk.2 q hq1 (by omega), hb.block q hq2]
  have c3 : X4.cell? ⟨B + 1, 0, none⟩ = some (.slice A 16 c) := by
    rw [World.cell?_of_block (w := X3) (hk.2 (B + 1) (by omega) (by omega)), hb.cell (p := ⟨B + 1, 0, none⟩) (by show B + 1 < _; omega)]
    exact h3
  have f3 : X4.frozen? ⟨B + 1, 0, none⟩ = false := by
    rw [World.frozen?_of_block (w := X) ((hk.2 (B + 1) (by omega) (by omega)).trans (hb.block _ (by omega)))]
    exact h5
  refine ⟨⟨by omega, fun k o hk1 hk2 _ => (same k (by omega) (Array.getElem?_eq_some_iff.1 hk2).1 (by omega)).trans hk2⟩, ⟨same _ (by omega) (by omega) (by omega), same _ (by omega) (by omega) (by omega)⟩, hJ _ _ _ hJ4 (StepsI.setCell B X4 _), ?_, ⟨_, _, World.cell?_setCell_same' _ _ _ (by rw [c3]; rfl), ?_⟩, ?_, by omega⟩
  · rw [World.cell?_of_block (w := X) (same B (Nat.le_refl _) (by omega) (by omega))]
    exact h2
  · have hgl := hrow.lt
    have r5 : RowB (X4.setCell ⟨B + 1, 0, none⟩ (.slice (some ⟨g, 0, none⟩) 16 16)) g (stF key iv p (pre ++ [x])) := (hrow.same (hk.2 g (by omega) hgl)).same (heap_setCell_other _ _ _ _ (by show g ≠ B + 1; omega))
    exact r5.sees _ r5.lt
  · rw [World.frozen?_setCell]
    exact f3

/-- four blocks of one cell each -/
def four (W : World) (u1 u2 u3 u4 : Value) (t1 t2 t3 t4 : TypeId) : World := (((W.alloc (.cells #[u1] t1)).alloc (.cells #[u2] t2)).alloc (.cells #[u3] t3)).alloc (.cells #[u4] t4)
theorem four_facts (W : World) (u1 u2 u3 u4 : Value) (t1 t2 t3 t4 : TypeId) : Below W.heap.size W (four W u1 u2 u3 u4 t1 t2 t3 t4) ∧ (four W u1 u2 u3 u4 t1 t2 t3 t4).heap.size = W.heap.size + 4 ∧
    (four W u1 u2 u3 u4 t1 t2 t3 t4).cell? ⟨W.heap.size, 0, none⟩ = some u1 ∧ (four W u1 u2 u3 u4 t1 t2 t3 t4).cell? ⟨W.heap.size + 1, 0, none⟩ = some u2 ∧ (four W u1 u2 u3 u4 t1 t2 t3 t4).frozen? ⟨W.heap.size + 1, 0, none⟩ = false ∧
    (four W u1 u2 u3 u4 t1 t2 t3 t4).cell? ⟨W.heap.size + 1 + 1, 0, none⟩ = some u3 ∧ (four W u1 u2 u3 u4 t1 t2 t3 t4).cell? ⟨W.heap.size + 1 + 1 + 1, 0, none⟩ = some u4 := by
  have e1 : (four W u1 u2 u3 u4 t1 t2 t3 t4).heap[W.heap.size]? = some (.cells #[u1] t1 (0, 0)) := by
    unfold four
    rw [Below.heap_alloc _ _ _ (by simp; omega), Below.heap_alloc _ _ _ (by simp; omega), Below.heap_alloc _ _ _ (by simp), heap_alloc_new]
  have e2 : (four W u1 u2 u3 u4 t1 t2 t3 t4).heap[W.heap.size + 1]? = some (.cells #[u2] t2 (0, 0)) := by
    have h := heap_alloc_new (W.alloc (.cells #[u1] t1)) (.cells #[u2] t2)
    rw [World.size_alloc] at h
    unfold four
    rw [Below.heap_alloc _ _ _ (by simp), Below.heap_alloc _ _ _ (by simp), h]
  have e3 : (four W u1 u2 u3 u4 t1 t2 t3 t4).heap[W.heap.size + 1 + 1]? = some (.cells #[u3] t3 (0, 0)) := by
    have h := heap_alloc_new ((W.alloc (.cells #[u1] t1)).alloc (.cells #[u2] t2)) (.cells #[u3] t3)
    rw [World.size_alloc, World.size_alloc] at h
    unfold four
    rw [Below.heap_alloc _ _ _ (by simp), h]
  have e4 : (four W u1 u2 u3 u4 t1 t2 t3 t4).heap[W.heap.size + 1 + 1 + 1]? = some (.cells #[u4] t4 (0, 0)) := by
    have h := heap_alloc_new (((W.alloc (.cells #[u1] t1)).alloc (.cells #[u2] t2)).alloc (.cells #[u3] t3)) (.cells #[u4] t4)
    rw [World.size_alloc, World.size_alloc, World.size_alloc] at h
    exact h
  refine ⟨?_, by simp [four], ?_, ?_, ?_, ?_, ?_⟩
  · unfold four
    exact ((((Below.refl _ W).alloc (Nat.le_refl _) _).alloc (by simp) _).alloc (by simp; omega) _).alloc (by simp; omega) _
  · rw [cell_of_row _ _ 0 _ _ _ e1]; rfl
  · rw [cell_of_row _ _ 0 _ _ _ e2]; rfl
  · exact frozen_of_row _ _ 0 _ _ e2
  · rw [cell_of_row _ _ 0 _ _ _ e3]; rfl
  · rw [cell_of_row _ _ 0 _ _ _ e4]; rfl

set_option maxRecDepth 100000 in
set_option maxHeartbeats 1000000 in
theorem enc1 (key iv p : List UInt8) (m Bk : Nat) (A1 A2 A3 : Option Addr) (c1 c2 c3 : Nat) (hk : key.length = 16) (hiv : iv.length = 16) (hp : p.length = 16 * m) (hc3 : 16 * m ≤ c3) (hreach : 16 * m ≤ 281474976710656) :
    SeqE Try.prog 48 #[.pointer (some ⟨Bk + 1, 0, none⟩), .pointer (some ⟨Bk + 2, 0, none⟩), .pointer (some ⟨Bk, 0, none⟩)] (fun pre x => stF key iv p (pre ++ [x])) (RdE key iv p m Bk A1 A2 A3 c1 c2 c3) m (List.finRange m) := by
  intro l J W hJ hR hY h0
  obtain ⟨B, hB⟩ : ∃ B, B = W.heap.size := ⟨_, rfl⟩
  rw [← hB] at hJ hR hY
  have HL := Lib.hid (show key.length = 16 ∧ iv.length = 16 ∧ p.length = 16 * m from ⟨hk, hiv, hp⟩)
  have hR0 := hR _ _ h0
  have HR := Lib.hid hR
  have HY := Lib.hid hY
  have HJ := Lib.hid hJ
  have H0 := Lib.hid h0
  clear hk hiv hp hR hY hJ h0
  have y1 := hR0.ci
  have y2 := hR0.cb
  have hlt := hR0.lt
  clear hR0
  have i1 : Bk + 1 < W.heap.size := by omega
  have i2 : Bk + 2 < W.heap.size := by omega
  refine callsIn_of_wp_marks Try.func48 rfl trivial ?_ rfl
  simp only [Try.ntmps48, List.size_toArray, List.length_cons, List.length_nil, Nat.reduceAdd, Nat.reduceSub, Array.replicate_succ, Array.replicate_zero, List.push_toArray, List.append_toArray, List.nil_append, List.cons_append]
  refine wpIn_wide.2 ?_
  go_wp2_with (go_at_call 42; (with_reducible refine (chunk_any _ _ _ _).mono ?_); rintro e w' ⟨rfl, rfl⟩)
  subst hB
  have hF := four_facts W (.func (.yield l) #[] #[]) (.slice A2 16 c2) (.slice A3 (16 * m) c3) (.int .i64 16) 29 22 22 3
  generalize hW4 : four W (.func (.yield l) #[] #[]) (.slice A2 16 c2) (.slice A3 (16 * m) c3) (.int .i64 16) 29 22 22 3 = W4 at hF
  have HW : ((((W.alloc (.cells #[.func (.yield l) #[] #[]] 29)).alloc (.cells #[.slice A2 16 c2] 22)).alloc (.cells #[.slice A3 (16 * m) c3] 22)).alloc (.cells #[.int .i64 16] 3)) = W4 := hW4
  rw [HW]
  clear HW hW4 y1 y2 i1 i2
  obtain ⟨hF1, hF2, hF3, hF4, hF5, hF6, hF7⟩ := hF
  obtain ⟨b, off, hA⟩ : ∃ b off, 0 < m → A3 = some ⟨b, off, none⟩ := by
    rcases (HR.out _ _ H0.out).sb with h | ⟨b, off, e, _⟩
    · have e0 : p.length = 0 := by simpa [Us] using congrArg List.length h
      exact ⟨0, 0, fun hm => by have := HL.out.2.2; omega⟩
    · exact ⟨b, off, fun _ => e⟩
  have hI0 : EnI key iv p m l W.heap.size J [] W4 := ⟨HJ.out _ _ _ H0.out (StepsI.below hF1), hF3, ⟨A2, c2, hF4, ((HR.out _ _ H0.out).si.keep fun q hq => hF1.cell hq).imp fun q hq => Nat.lt_of_lt_of_le hq hF1.size⟩, hF5, by omega⟩
  have HI0 := Lib.hid hI0
  clear hI0 hF1 hF3 hF4 hF5 H0
  refine wpIn_wide.1 (?_ : Code.wpIn Fence.wide 9 _ _ _ _ _)
  refine wpIn_rangeFunc_ownG (w0 := W4) rfl (by decide) (gf := 50) (lb := #[.pointer (some ⟨W.heap.size + 1 + 1, 0, none⟩), .pointer (some ⟨W.heap.size + 1 + 1 + 1, 0, none⟩)]) rfl trivial (enters_of Try.func50 (by kernel_rfl) rfl)
    (chunk_stops 8 (W.heap.size + 1 + 1) (W.heap.size + 1 + 1 + 1) b off m c3 A3 hA (by decide) hc3 hreach W4 (by omega) (by omega) hF6 hF7)
    KpC.trans (fun X q o o' hq _ _ _ => ⟨World.putObj_heap_other (by omega), World.putObj_heap_other (by omega)⟩) (Below.refl _ _) (fun _ => rfl)
    (EnI key iv p m l W.heap.size J) (fun _ _ _ => False) (by rw [hF2]; exact enI_own HJ.out) (fun _ _ _ _ _ hs _ _ => hs) HI0.out
    (fun x => { tmps := #[.func (.yield l) #[] #[], .pointer (some ⟨Bk + 1, 0, none⟩), .pointer (some ⟨Bk + 2, 0, none⟩), .pointer (some ⟨Bk, 0, none⟩), .pointer (some ⟨W.heap.size, 0, none⟩), .pointer (some ⟨W.heap.size + 1, 0, none⟩), .slice (some ⟨b, off + 16 * x.val, none⟩) 16 16, undef, undef, .slice A2 16 c2, .slice A3 (16 * m) c3, .func (.func 50) #[] #[.pointer (some ⟨W.heap.size + 1 + 1, 0, none⟩), .pointer (some ⟨W.heap.size + 1 + 1 + 1, 0, none⟩)], .slice (some ⟨b, off + 16 * x.val, none⟩) 16 16, undef, undef, undef, undef, undef, undef, undef, undef, undef, undef, undef, undef, undef], defers := [] }) ?assign ?body ?done ?stop
  case assign =>
    intro l2 x X K hK
    gi_wp2
    exact hK
  case body =>
    intro l2 pre x X hI hlen
    have HI := Lib.hid hI
    have HD := Lib.hid (show Below X.heap.size X X.drew from (Below.refl _ _).drew)
    have hm : 0 < m := by omega
    have hRd := HR.out _ _ hI.1
    have y1 := hRd.ck
    have hBk := hRd.lt
    obtain ⟨A, c, y2, hs2⟩ := hI.2.2.1
    have hx1 : SeesP X (· < X.heap.size) (some ⟨b, off + 16 * x.val, none⟩) (Us (blk16 p x.val)) := (blk_sees16 hRd.sb HL.out.2.2 x.isLt (hA hm)).imp fun q hq => Nat.lt_of_lt_of_le hq (by have := hI.2.2.2.2; omega)
    have HS1 := Lib.hid (show SeesP X.drew (· < X.drew.heap.size) (some ⟨b, off + 16 * x.val, none⟩) (Us (blk16 p x.val)) from hx1)
    have HS2 := Lib.hid (show SeesP X.drew (· < X.drew.heap.size) A (Us (stF key iv p pre)) from hs2)
    have HSK := Lib.hid (show SeesP X (· < X.heap.size) A1 (Us key) from hRd.sk.imp fun q hq => Nat.lt_of_lt_of_le hq (by have := hI.2.2.2.2; omega))
    have hXs := hI.2.2.2.2
    have HLB := Lib.hid (blk16_length HL.out.2.2 x.isLt)
    have HLS := Lib.hid (stF_length key p pre iv HL.out.2.1)
    rw [hF2]
    clear hI hRd hs2 hx1 HI0 hF6 hF7
    gi_wp2_with fail
    refine region_round (S := Below X.heap.size X) (by kernel_rfl) (by kernel_rfl) (fun ⟨_, _, h⟩ => h) HD.out (fun hHeld => ?_)
    refine wpAnyH_take (i := 0) (v := _) rfl (by kernel_rfl) (by kernel_rfl) (by kernel_rfl) (fun _ _ _ h => h) (Or.inl ⟨by rfl, (by intro w hSw; have h1 := (hSw.cell (p := ⟨Bk, 0, none⟩) (by show Bk < X.heap.size; omega)).trans y1; go_simp; first | done | with_reducible rfl)⟩) hHeld ?_
    simp only [Act.put]
    refine wpAnyH_take (i := 1) (v := _) rfl (by kernel_rfl) (by kernel_rfl) (by kernel_rfl) (fun _ _ _ h => h) (Or.inl ⟨by rfl, (by intro w hSw; go_simp; first | done | with_reducible rfl)⟩) hHeld ?_
    simp only [Act.put]
    refine wpAnyH_take (i := 2) (v := _) rfl (by kernel_rfl) (by kernel_rfl) (by kernel_rfl) (fun _ _ _ h => h) (Or.inl ⟨by rfl, (by intro w hSw; have h1 := (hSw.cell (p := ⟨W.heap.size + 1, 0, none⟩) (by show W.heap.size + 1 < X.heap.size; omega)).trans y2; go_simp; first | done | with_reducible rfl)⟩) hHeld ?_
    simp only [Act.put]
    refine wpAnyH_ready (rs := [3]) (by kernel_rfl) (by simp) ?_
    refine AllReadyH.cons rfl (fun K hK => ?_) AllReadyH.nil
    go_simp
    go_wp2_with (go_at_call 44; ((with_reducible refine (prog_combine (blk16 p x.val) (stF key iv p pre) _ _ _ _ _ _ _ HLB.out HLS.out (Nat.le_refl _) (Nat.le_refl _) HS1.out HS2.out).mono ?_); rintro e X1 ⟨g1, rfl, hg1, hr1, hb1⟩); have HB1 := Lib.hid (show Below X.heap.size X X1 from HD.out.trans hb1); have HR1 := Lib.hid (SeesP.iff_sees.1 (hr1.sees (· < X1.heap.size) hr1.lt)); clear hg1 hr1 hb1)
    refine hK.out _ _ HB1.out (fun hHeld => ?_)
    clear hK K
    refine wpAnyH_ready (rs := [4]) (by kernel_rfl) (by simp) ?_
    refine AllReadyH.cons rfl (fun K hK => ?_) AllReadyH.nil
    go_simp
    have HSK1 := Lib.hid (SeesP.iff_sees.1 ((HSK.out.keep fun q hq => HB1.out.cell hq).imp (p' := (· < X1.heap.size)) fun q hq => Nat.lt_of_lt_of_le hq HB1.out.size))
    go_wp2_with (go_at_call 45; ((with_reducible refine (aes_enc_row key (xor16 (blk16 p x.val) (stF key iv p pre)) _ _ _ _ _ HL.out.1 (xor16_length _ _) HSK1.out HR1.out).mono ?_); rintro e X2 ⟨g, rfl, hg, hr, hb⟩); have HB2 := Lib.hid (show Below X.heap.size X X2 from HB1.out.trans (hb.mono HB1.out.size)); have HG := Lib.hid (show X.heap.size ≤ g from Nat.le_trans HB1.out.size hg); rw [← stF_snoc] at hr; have HR2 := Lib.hid hr; clear hg hr hb)
    refine hK.out _ _ HB2.out (fun hHeld => ?_)
    clear hK K HR1 HSK1 HS1 HS2
    refine wpAnyH_take (i := 5) (v := _) rfl (by kernel_rfl) (by kernel_rfl) (by kernel_rfl) (fun _ _ _ h => h) (Or.inl ⟨by rfl, (by intro w hSw; go_simp; first | done | with_reducible rfl)⟩) hHeld ?_
    simp only [Act.put]
    refine wpAnyH_take (i := 6) (v := _) rfl (by kernel_rfl) (by kernel_rfl) (by kernel_rfl) (fun _ _ _ h => h) (Or.inl ⟨by rfl, (by intro w hSw; go_simp; first | done | with_reducible rfl)⟩) hHeld ?_
    simp only [Act.put]
    refine wpAnyH_take (i := 7) (v := _) rfl (by kernel_rfl) (by kernel_rfl) (by kernel_rfl) (fun _ _ _ h => h) (Or.inl ⟨by rfl, (by intro w hSw; go_simp; first | done | with_reducible rfl)⟩) hHeld ?_
    simp only [Act.put]
    refine wpAnyH_take (i := 8) (v := _) rfl (by kernel_rfl) (by kernel_rfl) (by kernel_rfl) (fun _ _ _ h => h) (Or.inl ⟨by rfl, (by intro w hSw; go_simp; first | done | with_reducible rfl)⟩) hHeld ?_
    simp only [Act.put]
    refine wpAnyH_take (i := 9) (v := _) rfl (by kernel_rfl) (by kernel_rfl) (by kernel_rfl) (fun _ _ _ h => h) (Or.inl ⟨by rfl, (by intro w hSw; go_simp; first | done | with_reducible rfl)⟩) hHeld ?_
    simp only [Act.put]
    refine wpAnyH_done (by kernel_rfl) ?_ _
    have hJ2 := HJ.out _ _ _ HI.out.1 (StepsI.below HB2.out)
    obtain ⟨fn, tmps, assign, body, hy, hRn⟩ := HY.out pre x g X2 hJ2 hlen (Nat.le_trans (by omega) HG.out) HR2.out
    have y3 := (HB2.out.cell (p := ⟨W.heap.size, 0, none⟩) (by show W.heap.size < X.heap.size; omega)).trans HI.out.2.1
    clear y1 y2 hHeld hJ2
    gi_wp2
    refine (round_any _ hRn).mono ?_
    rintro e X4 ⟨rfl, hJ4, hk4⟩
    have HN := Lib.hid (EnI.next HJ.out HI.out HB2.out HR2.out HG.out hJ4 hk4)
    obtain ⟨⟨v5, y5⟩, y6⟩ := EnI.cells HI.out HB2.out hk4
    clear hy hRn hJ4 hk4 HSK HLB HLS HJ HR HY HI hHeld y3
    gi_wp2
    exact HN.out
  case done =>
    rintro D ys X hD rfl hI hK
    have HF := Lib.hid (HJ.out _ _ _ hI.1 (StepsI.grown (grownBy_putObj' X D (.deferred none)) (fun r e => by cases e; exact ⟨by omega, .inr ⟨_, hK, rfl⟩⟩)))
    clear hI
    go_wp2
    refine ⟨by simp, .inl ⟨_, _, rfl, run_takeDeferred hK, ?_⟩⟩
    exact ⟨_, results_none rfl _ _ _, ⟨_, rfl⟩, HF.out⟩
  case stop =>
    rintro D c pre X _ _ h _
    exact h.elim

end Go.Proofs.Ytipkaeeimohmpaa
