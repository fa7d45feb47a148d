/-
  What is proved here: what the program's Sum answers, for bytes that lie in memory, where its tables lie there too.
-/
import Derived.Test.YtaikoeoabgkglaaDoorChu
import Derived.Test.YtaikoeoabgkglaaDoorCow
import Derived.Test.YtaikoeoabgkglaaDoorPadP
import Derived.Deep.MidRow
namespace Go.Proofs.YtaikoeoabgkglaaDoor
open Go.RowKit Go.Shelf
set_option linter.unusedVariables false
attribute [local go_sem] Oper.semAt_some

def blkL (p : List UInt8) (k : Nat) : List UInt8 := (p.drop (64 * k)).take 64
/-- the state behind the first k blocks -/
def stW (p : List UInt8) : Nat → List UInt32
  | 0 => firstW
  | k + 1 => comp (stW p k) (blkL p k)
theorem stW_length (p : List UInt8) : ∀ k, (stW p k).length = 8
  | 0 => rfl
  | k + 1 => comp_length _ _
def word4 (x : UInt32) : List UInt8 := [(x >>> 24).toUInt8, (x >>> 16).toUInt8, (x >>> 8).toUInt8, x.toUInt8]
def outB (st : List UInt32) : List UInt8 := st.flatMap word4
theorem outB_length (st : List UInt32) : (outB st).length = 4 * st.length := by
  induction st with
  | nil => rfl
  | cons x l ih => simp [outB, word4] at ih ⊢; omega
theorem outB_snoc (st : List UInt32) (x : UInt32) : outB (st ++ [x]) = outB st ++ word4 x := by simp [outB]
def sumL (l : List UInt8) : List UInt8 := outB (stW (padL l) ((padL l).length / 64))
theorem padL_size (l : List UInt8) : ∃ m, (padL l).length = 64 * m ∧ 1 ≤ m := ⟨(l.length + 8) / 64 + 1, by rw [padL_length, ← size_val]; omega, by omega⟩
theorem fold_stW (p : List UInt8) : ∀ k m (h : k ≤ m), (upF m k).foldl (fun st x => comp st (blkL p x.val)) firstW = stW p k
  | 0, m, _ => by simp [upF, stW]
  | k + 1, m, h => by rw [upF_succ (show k < m by omega), List.foldl_append, fold_stW p k m (by omega)]; rfl
theorem fold_all (p : List UInt8) (m : Nat) : (List.finRange m).foldl (fun st x => comp st (blkL p x.val)) firstW = stW p m := by
  have h := fold_stW p m m (Nat.le_refl _)
  rwa [upF, List.take_of_length_le (by simp)] at h
/-- the program's first state lies in memory -/
def TabF (w : World) : Prop := w.rangeAt 0 0 (Ws firstW)

theorem wpListIn_store_row {F : Fence} {n : Nat} {P : Program} {ops : Array Oper} {rest : List Oper} {op : Oper} {a : Act} {w : World} {Q : Exit → Act → World → Prop} (hgd : op.guard = none) (ty : TypeId) (x y : Operand) (ho : op.op = .store ty x y)
    (g : Nat) (l l2 : List UInt32) (hx : a.eval x = .pointer (some ⟨g, 0, none⟩)) (hy : a.eval y = .agg (Ws l2).toArray) (h : RowW w g l) (hl : l.length = l2.length)
    (hi : (P.info? ty).map (·.size) = some l2.length)
    (hK : wpListIn F n P ops Q rest (a.put op.dst undef) (w.setRow g (Ws l2).toArray)) : wpListIn F n P ops Q (op :: rest) a w := by
  obtain ⟨t, h⟩ := h
  refine wpListIn_plain hgd fun K hK2 => ?_
  unfold Oper.wpIn
  refine ⟨?_, ?_⟩
  · simp [Oper.about, ho]
  · rw [Oper.semAt_plain F _ _ (by rw [ho]; intro c hc'; cases hc')]
    unfold execOp
    simp only [ho, hx, hy, Instr.storeAt, Instr.sureAddr, Sem.run_bind, Sem.run_pure, Result.andThen_ok, run_storeVar_row w g t ty (Ws l).toArray (Ws l2).toArray h (by rw [Ws_size]; exact hi) (by rw [Ws_size, Ws_size, hl]) (Ws_all l2)]
    exact hK2 _ _ hK
theorem wpListIn_load_words {F : Fence} {n : Nat} {P : Program} {ops : Array Oper} {rest : List Oper} {op : Oper} {a : Act} {w : World} {Q : Exit → Act → World → Prop} (hgd : op.guard = none) (ty : TypeId) (x : Operand) (ho : op.op = .load ty x)
    (g : Nat) (l : List UInt32) (k : Nat) (e : TypeId) (hx : a.eval x = .pointer (some ⟨g, 0, none⟩)) (h : RowW w g l) (hu : P.underlying ty = some (.array k e)) (hi : (P.info? ty).map (·.size) = some l.length)
    (hK : wpListIn F n P ops Q rest (a.put op.dst (.agg (Ws l).toArray)) w) : wpListIn F n P ops Q (op :: rest) a w := by
  obtain ⟨t, h⟩ := h
  refine wpListIn_plain hgd fun K hK2 => ?_
  unfold Oper.wpIn
  refine ⟨?_, ?_⟩
  · simp [Oper.about, ho]
  · rw [Oper.semAt_plain F _ _ (by rw [ho]; intro c hc'; cases hc')]
    unfold execOp
    simp only [ho, hx, Instr.loadAt, Instr.sureAddr, Sem.run_bind, Sem.run_pure, Result.andThen_ok, run_loadVar_row w g t ty (Ws l).toArray (0, 0) (.array k e) h hu rfl (by rw [Ws_size]; exact hi)]
    exact hK2 _ _ hK

theorem chunk_stops (n Bs Bn b off m cap : Nat) (hn : 1 ≤ n) (hcap : 64 * m ≤ cap) (hreach : 64 * m ≤ 281474976710656) (w : World) (h1 : Bs < w.heap.size) (h2 : Bn < w.heap.size)
    (hBs : w.cell? ⟨Bs, 0, none⟩ = some (.slice (some ⟨b, off, none⟩) (64 * m) cap)) (hBn : w.cell? ⟨Bn, 0, none⟩ = some (.int .i64 64)) :
    SeqStopsK Fence.wide n Tryd.prog 57 #[.pointer (some ⟨Bs, 0, none⟩), .pointer (some ⟨Bn, 0, none⟩)] (fun x : _root_.Fin m => #[Value.slice (some ⟨b, off + 64 * x.val, none⟩) 64 64]) (KpC Bs Bn) (fun ys => ys = List.finRange m) (fun _ => True) m w := fun l J Jx W hW hJ hJx hY h0 => by
  refine (chunk1_in Fence.wide n trivial rfl hn l Bs Bn b off m cap hcap hreach J Jx (fun pre X h => hJ pre X _ none h ⟨rfl, rfl, rfl, Nat.le_refl _, fun _ _ _ => rfl⟩ (fun r e => by cases e)) hY W ((hW.cell (p := ⟨Bs, 0, none⟩) h1).trans hBs) ((hW.cell (p := ⟨Bn, 0, none⟩) h2).trans hBn) h0).mono ?_
  rintro e W' ⟨he, h⟩
  exact ⟨he, h⟩
/-- what Sum's loop keeps: the state, what was there, the padded bytes, the iterator's cells -/
def SmI (w : World) (p : List UInt8) (pb off m Bs : Nat) (pre : List (_root_.Fin m)) (W : World) : Prop :=
  RowW W w.heap.size (pre.foldl (fun st x => comp st (blkL p x.val)) firstW) ∧ Below w.heap.size w W ∧ (∀ j, j < p.length → W.cell? ⟨pb, off + j, none⟩ = (Us p)[j]?) ∧ Bs + 2 ≤ W.heap.size
theorem smI_own {w : World} {p : List UInt8} {pb off m Bs B : Nat} (hB : w.heap.size ≤ B) : OwnFrom B (SmI w p pb off m Bs) := by
  intro pre X Y row hs hg hr
  have hne : ∀ (g : Nat) (c : Array Value) (t : TypeId) (fr : Nat × Nat), X.heap[g]? = some (.cells c t fr) → row ≠ some g := by
    intro g c t fr hx e
    obtain ⟨_, o, ho, hc⟩ := hr g e
    rw [hx] at ho
    cases ho
    cases hc
  have hsame : ∀ (g : Nat) (c : Array Value) (t : TypeId) (fr : Nat × Nat), X.heap[g]? = some (.cells c t fr) → Y.heap[g]? = X.heap[g]? := fun g c t fr hx => hg.block g (Array.getElem?_eq_some_iff.1 hx).1 (hne g c t fr hx).symm
  obtain ⟨h1, h2, h3, h4⟩ := hs
  refine ⟨?_, h2.grown hg h2.size (fun k e => Nat.le_trans hB (hr k e).1), fun j hj => ?_, Nat.le_trans h4 hg.size⟩
  · obtain ⟨t, hx⟩ := h1
    exact ⟨t, (hsame _ _ _ _ hx).trans hx⟩
  · rw [← h3 j hj]
    have hx := h3 j hj
    rw [Us_get hj] at hx
    exact (cell_kept hx hg (fun r e => (hr r e).2)).trans hx.symm
theorem setRow_grown (w : World) (g : Nat) (cs : Array Value) : w.grownBy (w.setRow g cs) (some g) := ⟨rfl, rfl, rfl, by simp, fun k _ hk => setRow_other w g k cs (fun e => hk (by rw [e]))⟩
theorem keeps_below {W W' : World} (h : Below W.heap.size W W') : KeepsOthers W W' := ⟨h.size, fun k o hk _ => (h.block k (Array.getElem?_eq_some_iff.1 hk).1).trans hk⟩
theorem keeps_row {W : World} {g : Nat} {l : List UInt32} (h : RowW W g l) (cs : Array Value) : KeepsOthers W (W.setRow g cs) := by
  obtain ⟨t, h⟩ := h
  refine KeepsOthers.of_grownBy (setRow_grown W g cs) (fun j o e ho => ?_)
  cases e
  rw [h] at ho
  cases ho
  rfl
theorem blkL_length {p : List UInt8} {m k : Nat} (hp : p.length = 64 * m) (hk : k < m) : (blkL p k).length = 64 := by simp [blkL]; omega
theorem blk_sees {W : World} {p : List UInt8} {pb off m k : Nat} (hp : p.length = 64 * m) (hk : k < m) (hpb : pb < W.heap.size) (h : ∀ j, j < p.length → W.cell? ⟨pb, off + j, none⟩ = (Us p)[j]?) : SeesP W (· < W.heap.size) (some ⟨pb, off + 64 * k, none⟩) (Us (blkL p k)) := by
  refine .inr ⟨pb, off + 64 * k, rfl, hpb, fun j hj => ?_⟩
  rw [Us_length, blkL_length hp hk] at hj
  rw [Nat.add_assoc, h _ (by omega), blkL, Us_take, Us_drop, List.getElem?_take, if_pos hj, List.getElem?_drop]
theorem SmI.next {w W W1 : World} {p : List UInt8} {pb off m Bs : Nat} {pre : List (_root_.Fin m)} {x : _root_.Fin m} (h : SmI w p pb off m Bs pre W) (hb : Below W.heap.size W W1) (h1 : w.heap.size < Bs) (h2 : pb ≠ w.heap.size) (h3 : pb < Bs) (cs : Array Value)
    (hcs : cs = (Ws (comp (pre.foldl (fun st x => comp st (blkL p x.val)) firstW) (blkL p x.val))).toArray) :
    KeepsOthers W (W1.setRow w.heap.size cs) ∧ KpC Bs (Bs + 1) W (W1.setRow w.heap.size cs) ∧ SmI w p pb off m Bs (pre ++ [x]) (W1.setRow w.heap.size cs) := by
  obtain ⟨k1, k2, k3, k4⟩ := h
  have k5 := k1.below hb k1.lt
  subst hcs
  refine ⟨(keeps_below hb).trans (keeps_row k5 _), ⟨?_, ?_⟩, ?_, below_setRow (k2.trans (hb.mono k2.size)) (Nat.le_refl _) _, fun j hj => ?_, ?_⟩
  · rw [setRow_other _ _ _ _ (by omega)]; exact hb.block _ (by omega)
  · rw [setRow_other _ _ _ _ (by omega)]; exact hb.block _ (by omega)
  · rw [List.foldl_append]; exact k5.row _
  · rw [cell_setRow_other _ _ _ _ h2, ← k3 j hj]; exact hb.cell (p := ⟨pb, off + j, none⟩) (by show pb < W.heap.size; omega)
  · rw [setRow_size]; exact Nat.le_trans k4 hb.size
theorem fold_length {m : Nat} (p : List UInt8) : ∀ (pre : List (_root_.Fin m)) (st : List UInt32), st.length = 8 → (pre.foldl (fun st (x : _root_.Fin m) => comp st (blkL p x.val)) st).length = 8
  | [], st, h => h
  | x :: r, st, h => fold_length p r _ (comp_length _ _)
theorem chunk_cells (w : World) (u v : Value) (t t2 : TypeId) : ((w.alloc (.cells #[u] t)).alloc (.cells #[v] t2)).cell? ⟨w.heap.size, 0, none⟩ = some u ∧ ((w.alloc (.cells #[u] t)).alloc (.cells #[v] t2)).cell? ⟨w.heap.size + 1, 0, none⟩ = some v := by
  have h1 := cell_of_row (w.alloc (.cells #[u] t)) w.heap.size 0 _ t (0, 0) (heap_alloc_new w _)
  have h2 := cell_of_row ((w.alloc (.cells #[u] t)).alloc (.cells #[v] t2)) _ 0 _ t2 (0, 0) (heap_alloc_new (w.alloc (.cells #[u] t)) _)
  rw [World.size_alloc] at h2
  exact ⟨(((Below.refl _ (w.alloc (.cells #[u] t))).alloc (Nat.le_refl _) (.cells #[v] t2)).cell (p := ⟨w.heap.size, 0, none⟩) (by simp)).trans h1, h2⟩
theorem mk_block {w w' : World} {p : List UInt8} {m : Nat} {e : Ending} (hm : p.length = 64 * m ∧ 1 ≤ m) (h : Mk w p e w') :
    ∃ pb off c, e = .returned (.slice (some ⟨pb, off, none⟩) (64 * m) c) ∧ 64 * m ≤ c ∧ (w.heap.size ≤ pb ∧ pb < w'.heap.size ∧ (∀ j (h : j < p.length), w'.cell? ⟨pb, off + j, none⟩ = (Us p)[j]?) ∧ Below w.heap.size w w') := by
  obtain ⟨A, c, rfl, hc, hn, hs, hb⟩ := h
  rcases hs with h0 | ⟨pb, off, rfl, hp, hcell⟩
  · have := congrArg List.length h0; rw [Us_length] at this; have e0 : ([] : List Value).length = 0 := rfl; omega
  · exact ⟨pb, off, c, by rw [hm.1], by omega, hp.1, hp.2, fun j hj => hcell j (by rw [Us_length]; exact hj), hb⟩

/-- what the last loop keeps -/
def SmO (w : World) (D : Nat) (l8 : List UInt32) (j : Nat) (v : Value) (wr : World) : Prop :=
  wr.ownsRow w.heap.size 5 1 v (4 * j) (Us (outB (l8.take j))) ∧ Below w.heap.size w wr ∧ wr.heap[D]? = some (.deferred (some [])) ∧ w.heap.size < D
theorem deferred_kept {W W' : World} {D : Nat} {v : Value} {base n : Nat} {t : TypeId} {xs : List Value} (hK : W.heap[D]? = some (.deferred (some []))) (ho : W.ownsRow base t 1 v n xs) (hg : W.grownBy W' v.ownBlock) : W'.heap[D]? = some (.deferred (some [])) := by
  refine (hg.block D (Array.getElem?_eq_some_iff.1 hK).1 (fun e => ?_)).trans hK
  rcases ho.2 with ⟨rfl, _⟩ | ⟨g, cap, cur, rfl, _, hh, _⟩
  · cases e
  · cases e
    rw [hK] at hh
    cases hh
theorem SmO.start {w W w5 : World} {D : Nat} {l8 : List UInt32} {s : List UInt8} {v : Value} (h : RowW W w.heap.size l8 ∧ l8.length = 8 ∧ Below w.heap.size w W ∧ s = outB l8 ∧ W.heap[D]? = some (.deferred (some [])) ∧ w.heap.size < D)
    (ho : w5.ownsRow w.heap.size 5 1 v 0 []) (hg : W.grownBy w5 none) : SmO w D l8 0 v w5 ∧ RowW w5 w.heap.size l8 := by
  obtain ⟨h1, h2, h3, h4, h5, h6⟩ := h
  refine ⟨⟨by simpa [outB, Us] using ho, h3.grown hg h3.size (fun k e => by cases e), ?_, h6⟩, h1.same (hg.block _ h1.lt (fun e => by cases e))⟩
  exact (hg.block D (Array.getElem?_eq_some_iff.1 h5).1 (fun e => by cases e)).trans h5
/-- a word's bytes, as the walk has them -/
def bytesV (x : UInt32) : List Value := [.int .u8 ((x.toNat : Int) / 16777216 % 256), .int .u8 ((x.toNat : Int) / 65536 % 256), .int .u8 ((x.toNat : Int) / 256 % 256), .int .u8 ((x.toNat : Int) % 256)]
theorem bytesV_us (x : UInt32) : bytesV x = Us (word4 x) := by
  have h : ∀ k : Nat, k < 32 → Value.int .u8 ((x.toNat : Int) / 2 ^ k % 256) = U (x >>> UInt32.ofNat k).toUInt8 := by
    intro k hk
    rw [w_shr x k hk]
    unfold U
    rw [UInt32.toNat_toUInt8]
    congr 1
  have h24 := h 24 (by decide)
  have h16 := h 16 (by decide)
  have h8 := h 8 (by decide)
  have h0 : Value.int .u8 ((x.toNat : Int) % 256) = U x.toUInt8 := by
    unfold U
    rw [UInt32.toNat_toUInt8]
    congr 1
  unfold bytesV word4 Us
  simp only [List.map_cons, List.map_nil]
  rw [show (16777216 : Int) = 2 ^ 24 from rfl, show (65536 : Int) = 2 ^ 16 from rfl, h24, h16, h0]
  rw [show Value.int .u8 ((x.toNat : Int) / 256 % 256) = Value.int .u8 ((x.toNat : Int) / 2 ^ 8 % 256) from rfl, h8]
  rfl
theorem bytesV_one (x : UInt32) : ∀ u ∈ bytesV x, u.oneCell' = true := by rw [bytesV_us]; exact Us_one _
theorem outB_take (l : List UInt32) (j : Nat) (h : j < l.length) : outB (l.take (j + 1)) = outB (l.take j) ++ word4 (l[j]?.getD 0) := by
  rw [List.take_succ_eq_append_getElem h, outB_snoc, List.getElem?_eq_getElem h]
  rfl
theorem SmO.step {w wr w6 : World} {D : Nat} {l8 : List UInt32} {j : Nat} {v v' : Value} {o : Obj} (h : SmO w D l8 j v wr) (hj : j < l8.length) (ho : w6.ownsRow w.heap.size 5 1 v' (4 * j + 4) (Us (outB (l8.take j)) ++ bytesV (l8[j]?.getD 0))) (hg : (wr.alloc o).grownBy w6 v.ownBlock) : SmO w D l8 (j + 1) v' w6 := by
  rw [bytesV_us, ← Us_append, ← outB_take l8 j hj] at ho
  refine ⟨ho, below_own_alloc h.2.1 h.1 hg, ?_, h.2.2.2⟩
  exact deferred_kept ((Below.heap_alloc _ _ _ (Array.getElem?_eq_some_iff.1 h.2.2.1).1).trans h.2.2.1) (h.1.alloc o) hg
theorem ws_index (l : List UInt32) (h8 : l.length = 8) (j : Nat) (h : j < 8) : ∀ w, (Instr.index 62 (.agg (Ws l).toArray) (.int .i64 (j : Int))).run Tryd.prog w = .ok (.int .u32 ((l.getD j 0).toNat : Int)) w := by
  match l, h8 with
  | [a0, a1, a2, a3, a4, a5, a6, a7], _ => exact agg_index ⟨a0, a1, a2, a3, a4, a5, a6, a7⟩ j h
set_option maxRecDepth 100000 in
set_option maxHeartbeats 2000000 in
theorem digest_sum (l : List UInt8) (A : Option Addr) (c : Nat) (w : World) (hl : l.length ≤ 140737488351500) (hs : SeesP w (· < w.heap.size) A (Us l)) (ht : TabP w) (hf : TabF w) :
    Calls Tryd.prog 40 #[.slice A l.length c] w (Mk w (sumL l)) := by
  have H := Lib.hid (show _ ∧ _ ∧ _ from ⟨hs, ht, hf⟩)
  clear hs ht hf
  obtain ⟨m, hm, hm1⟩ := padL_size l
  have hm2 : 64 * m ≤ 140737488355000 := by have := padL_length l; have := padZ_lt l.length; omega
  have HM := Lib.hid (And.intro hm hm1)
  clear hm hm1
  refine (callsIn_wide (n := 9)).1 ?_
  refine callsIn_of_wp_marks Tryd.func40 rfl trivial ?_ rfl
  simp only [Tryd.ntmps40, List.size_toArray, List.length_cons, List.length_nil, Nat.reduceAdd, Nat.reduceSub, Array.replicate_succ, Array.replicate_zero, List.push_toArray, List.append_toArray, List.nil_append, List.cons_append]
  refine wpIn_wide.2 ?_
  go_wp2_with (first
    | (refine wpList_load_mid rfl 62 (.global 0) rfl 0 0 rfl (Ws firstW) (.array 8 59) H.out.2.2 Tryd.underlying62 rfl info_8 ?_)
    | (refine wpList_store_row rfl 62 (.tmp 3) (.tmp 8) rfl w.heap.size (List.replicate 8 0) firstW rfl rfl (RowW.new rfl) rfl info_8 ?_; generalize hW : (World.setRow (World.alloc w _) w.heap.size (Ws firstW).toArray) = w2; have HS : Hid (Below w.heap.size w w2 ∧ RowW w2 w.heap.size firstW ∧ w2.heap.size = w.heap.size + 1) := (by subst hW; exact Lib.hid ⟨below_setRow ((Below.refl _ _).alloc (Nat.le_refl _) _) (Nat.le_refl _) _, (RowW.new (l := List.replicate 8 0) rfl).row _, by simp⟩); clear hW)
    | (go_at_call 51; (with_reducible refine (digest_pad l A c _ hl ?_).mono ?_); exact (H.out.1.keep fun q hq => HS.out.1.cell hq).imp (fun q hq => Nat.lt_of_lt_of_le hq HS.out.1.size); intro e w3 hm3; obtain ⟨pb, off, c3, he, hcap, hP⟩ := mk_block HM.out hm3; subst he; have HP := Lib.hid hP; clear hP hm3)
    | (go_at_call 50; (with_reducible refine (chunk_any _ _ _ _).mono ?_); rintro e w' ⟨rfl, rfl⟩))
  have hsz := HP.out.2.2.2.size
  rw [HS.out.2.2] at hsz
  have hBs : w.heap.size < w3.heap.size := by omega
  have hpb : pb < w3.heap.size := HP.out.2.1
  have hpn : pb ≠ w.heap.size := by have := HP.out.1; rw [HS.out.2.2] at this; omega
  have hI0 : SmI w (padL l) pb off m w3.heap.size [] ((w3.alloc (.cells #[.slice (some ⟨pb, off, none⟩) (64 * m) c3] 22)).alloc (.cells #[.int .i64 64] 3)) :=
    ⟨((HS.out.2.1.below HP.out.2.2.2 (by rw [HS.out.2.2]; omega)).alloc _).alloc _, (((HS.out.1.trans (HP.out.2.2.2.mono HS.out.1.size)).alloc (by omega) _).alloc (by simp; omega) _), fun j hj => (((Below.refl w3.heap.size w3).alloc (Nat.le_refl _) _).alloc (by simp) _ |>.cell (p := ⟨pb, off + j, none⟩) hpb).trans (HP.out.2.2.1 j hj), by simp⟩
  have HI0 := Lib.hid hI0
  clear hI0 hsz
  have HB := Lib.hid (chunk_cells w3 (.slice (some ⟨pb, off, none⟩) (64 * m) c3) (.int .i64 64) 22 3)
  refine wpIn_wide.1 (?_ : Code.wpIn Fence.wide 9 _ _ _ _ _)
  refine wpIn_rangeFunc_ownF (w0 := (w3.alloc (.cells #[.slice (some ⟨pb, off, none⟩) (64 * m) c3] 22)).alloc (.cells #[.int .i64 64] 3)) rfl (by decide) (gf := 57) (lb := #[.pointer (some ⟨w3.heap.size, 0, none⟩), .pointer (some ⟨w3.heap.size + 1, 0, none⟩)]) rfl trivial (enters_of Tryd.func57 (by kernel_rfl) rfl)
    (chunk_stops 8 w3.heap.size (w3.heap.size + 1) pb off m c3 (by decide) hcap (by omega) _ (by simp; omega) (by simp) HB.out.1 HB.out.2)
    KpC.trans (fun W l o o' hl _ _ _ => ⟨World.putObj_heap_other (by simp at hl; omega), World.putObj_heap_other (by simp at hl; omega)⟩) (Below.refl _ _) (fun _ => rfl)
    (SmI w (padL l) pb off m w3.heap.size) (fun _ _ _ => False) (smI_own (by simp; omega)) (fun _ _ _ _ _ hs _ _ => hs) HI0.out
    (fun x => { tmps := #[.slice A l.length c, undef, .slice none 0 0, .pointer (some ⟨w.heap.size, 0, none⟩), .slice (some ⟨pb, off + 64 * x.val, none⟩) 64 64, undef, undef, undef, .agg (Ws firstW).toArray, .slice A l.length c, .slice (some ⟨pb, off, none⟩) (64 * m) c3, .func (.func 57) #[] #[.pointer (some ⟨w3.heap.size, 0, none⟩), .pointer (some ⟨w3.heap.size + 1, 0, none⟩)], .slice (some ⟨pb, off + 64 * x.val, none⟩) 64 64, undef, undef, undef, undef, undef, undef, undef, undef, undef, undef, undef, undef, undef, undef, undef, undef, undef, undef, undef, undef, undef, undef, undef, undef], defers := [] }) ?assign ?body ?done ?stop
  case assign =>
    intro l x W K hK
    gi_wp2
    exact hK
  case body =>
    intro l2 pre x W hI _
    have HI := Lib.hid hI
    clear hI HI0 HB
    obtain ⟨st, hst⟩ : ∃ st, st = pre.foldl (fun st (x : _root_.Fin m) => comp st (blkL (padL l) x.val)) firstW := ⟨_, rfl⟩
    have hst8 : st.length = 8 := by rw [hst]; exact fold_length _ _ _ rfl
    have HC := Lib.hid (compress_any st (blkL (padL l) x.val) (some ⟨pb, off + 64 * x.val, none⟩) 64 W hst8 (blkL_length HM.out.1 x.isLt) (blk_sees HM.out.1 x.isLt (by have := HI.out.2.2.2; omega) HI.out.2.2.1) (H.out.2.1.below HI.out.2.1))
    have HR := Lib.hid (show RowW W w.heap.size st ∧ st.length = 8 from ⟨by rw [hst]; exact HI.out.1, hst8⟩)
    have HT := Lib.hid hst
    clear hst hst8
    gi_wp2_with (first
      | (refine wpListIn_load_words rfl 62 (.tmp 3) rfl w.heap.size st 8 59 rfl HR.out.1 Tryd.underlying62 (by rw [HR.out.2]; exact info_8) ?_)
      | (refine ⟨trivial, ?_⟩; gi_at_call 52; refine (CallsIn.inRound l2 (callsIn_wide.2 HC.out)).mono ?_; rintro e W1 ⟨rfl, hb1⟩)
      | (refine wpListIn_store_row rfl 62 (.tmp 3) (.tmp 15) rfl w.heap.size st (comp st (blkL (padL l) x.val)) rfl rfl (HR.out.1.below hb1 HR.out.1.lt) (by rw [comp_length]; exact HR.out.2) (by rw [comp_length]; exact info_8) ?_))
    exact SmI.next HI.out hb1 hBs hpn hpb _ (by rw [HT.out])
  case done =>
    rintro D ys W hD rfl hI hK
    obtain ⟨l8, hl8⟩ : ∃ l8, l8 = stW (padL l) m := ⟨_, rfl⟩
    have HD := Lib.hid (show RowW W w.heap.size l8 ∧ l8.length = 8 ∧ Below w.heap.size w W ∧ sumL l = outB l8 ∧ W.heap[D]? = some (.deferred (some [])) ∧ w.heap.size < D from
      ⟨by have h := hI.1; rw [fold_all] at h; rw [hl8]; exact h, by rw [hl8]; exact stW_length _ _, hI.2.1, by rw [hl8, sumL, HM.out.1, Nat.mul_div_cancel_left _ (by decide)], hK, by simp at hD; omega⟩)
    clear hI hK hl8 HI0 HB hD HP HS hBs hpb hpn
    obtain ⟨i0, hi, hz0, hz1, hz2⟩ := info_parts info_u8p
    go_wp2_with (first
      | (at_make; refine wpList_make_own _ rfl _ _ 22 rfl w.heap.size 5 i0 (.int .u8 0) 1 Tryd.underlying22 hi hz0 hz1 _ _ _ 32 rfl rfl rfl (by rw [hz2]; omega) (by unfold maxLen; omega) HD.out.2.2.1.size ?_; intro w5 hown hgrow; have HO := Lib.hid (SmO.start HD.out hown hgrow); clear hown hgrow)
      | (refine wpList_load_words rfl 62 (.tmp 3) rfl w.heap.size l8 8 59 rfl HO.out.2 Tryd.underlying62 (by rw [HD.out.2.1]; exact info_8) ?_))
    go_loopw [5, 18] (fun v i wr => ∃ j : Nat, j ≤ 8 ∧ i = .int .i64 (j : Int) ∧ Hid (SmO w D l8 j v wr)) (fun _ i _ => 8 - (intOf i).toNat)
    case atStart => exact ⟨0, by decide, rfl, Lib.hid HO.out.1⟩
    case round =>
      clear HO
      obtain ⟨j, hj, rfl, HO⟩ := hrel
      have ho := HO.out.1
      obtain ⟨A1, c1, rfl⟩ := own_len ho
      have hsz := HO.out.2.1.size
      by_cases h8 : j < 8
      · have hidx := ws_index l8 HD.out.2.1 j h8
        go_wp2_with (at_builtin; refine wpList_append_own _ rfl (.tmp 21) (.tmp 33) 22 rfl w.heap.size 5 i0 (.int .u8 0) 1 1 Tryd.underlying22 hi hz0 hz1 hz2 rfl (by decide) (.slice A1 (4 * j) c1) (4 * j) _ rfl (ho.alloc _) ⟨_, 0, none⟩ 4 4 (bytesV (l8[j]?.getD 0)) rfl rfl (World.news_of_block (cs := (bytesV (l8[j]?.getD 0)).toArray) (heap_alloc_new _ _)) (bytesV_one _) (by unfold maxLen; omega) (by omega) (by simp; omega) ?_; intro v' w6 ho6 hg6 _; have H6 := Lib.hid (HO.out.step (by have := HD.out.2.1; omega) ho6 hg6); clear ho ho6 hg6 HO)
        go_roundw
        case rel => exact ⟨j + 1, by omega, by go_num, H6⟩
        case measure => simp [intOf]; omega
      · obtain rfl : j = 8 := by omega
        clear h8 hj ho
        have hK := HO.out.2.2.1
        have HF := Lib.hid (show Mk w (sumL l) (.returned (.slice A1 (4 * 8) c1)) (wr.putObj D (.deferred none)) from by
          have hD := HO.out.2.2.2
          have h := HO.out.1
          rw [List.take_of_length_le (by rw [HD.out.2.1]; exact Nat.le_refl _)] at h
          have e : sumL l = outB l8 := HD.out.2.2.2.1
          rw [e]
          have h2 := ownsRow_putObj h (.deferred none) hK rfl
          exact mk_own (n := 4 * 8) h2 (HO.out.2.1.trans (belowK_b (w := w) (Nat.le_refl _) wr D _ _ (by omega) hK rfl rfl)) (by rw [outB_length, HD.out.2.1]))
        go_wp2
        refine ⟨by simp, .inl ⟨_, _, rfl, run_takeDeferred hK, ?_⟩⟩
        refine ⟨_, results_tmp rfl _ _ _, ?_⟩
        exact HF.out
  case stop =>
    rintro D c pre W _ _ h _
    exact h.elim

end Go.Proofs.YtaikoeoabgkglaaDoor
