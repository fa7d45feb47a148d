/-
  What is proved here: the program's reading of a list of templates: words, and the region that takes the first object and the rest.
-/
import Derived.Test.YtobbnedojmcgoaaBd
namespace Go.Proofs.Ytobbnedojmcgoaa
open Go.RowKit
set_option linter.unusedVariables false
set_option linter.unusedSimpArgs false

theorem sl_tail (b o lk ck : Nat) (h1 : 1 ≤ lk) (hc : lk ≤ ck) : ∃ A5, (∀ w, (Instr.sliceAt 33 (.slice (some ⟨b, o, none⟩) lk ck) (some (.int .i64 1)) none none).run Try.prog w = .ok (.slice A5 (lk - 1) (ck - 1)) w) ∧ (A5 = some ⟨b, o + 3, none⟩ ∨ ck = 1) := by
  have h2 : ¬ ((lk : Int) < 1) := by omega
  have h3 : ¬ ((ck : Int) < (lk : Int)) := by omega
  have h4 : (1 : Int) ≤ (lk : Int) := by omega
  by_cases h : ck = 1
  · subst h
    obtain rfl : lk = 1 := by omega
    exact ⟨some ⟨b, o, none⟩, fun w => by kernel_rfl, .inr rfl⟩
  · refine ⟨some ⟨b, o + 3, none⟩, fun w => ?_, .inl rfl⟩
    simp [go_sem, Addr.add, h4, h]
theorem ix_nod0 (g o n c : Nat) (hk : 0 < n) (w : World) : (Instr.indexAt 33 (.slice (some ⟨g, o, none⟩) n c) (.int .i64 0)).run Try.prog w = .ok (.pointer (some ⟨g, o, none⟩)) w := by
  have h := ix_nod g o n c 0 hk w
  rw [Nat.zero_mul, Nat.add_zero] at h
  exact h
theorem fa_nO (g o : Nat) (w : World) : (Instr.fieldAt 53 (.pointer (some ⟨g, o, none⟩)) 2).run Try.prog w = .ok (.pointer (some ⟨g, o + 2, none⟩)) w := by kernel_rfl
def OlW (w1 : World) (n1 : List Value) (b : Nat) (S : Nat → Bool) (c : World) : Prop := Below w1.heap.size w1 c ∧ (S 11 = true → w1.heap.size ≤ b ∧ RowV c b (if S 12 = true then n1 else zerN))
theorem OlW.keep {w1 c : World} {n1 : List Value} {b i : Nat} {S : Nat → Bool} (h : OlW w1 n1 b S c) (h1 : 11 ≠ i) (h2 : 12 ≠ i) : OlW w1 n1 b (fun j => S j || j == i) c := by
  obtain ⟨g1, g2⟩ := h
  refine ⟨g1, fun hS => ?_⟩
  have e1 : (S 11 || 11 == i) = S 11 := by simp [h1]
  have e2 : (S 12 || 12 == i) = S 12 := by simp [h2]
  show _ ∧ RowV c b (if (S 12 || 12 == i) = true then n1 else zerN)
  rw [e2]
  exact g2 (by rw [← e1]; exact hS)
def olV (L : List Value) (b i : Nat) : Value := if i = 11 then .pointer (some ⟨b, 0, none⟩) else L.getD i undef
/-- one template more -/
theorem tmsT_step {j : Nat} {r k r' : F} {t : Int} {v : List UInt8} (h : r.drop j = .cons t v k r') : tmsT (r.drop j) = match tmT t v k with
    | none => none
    | some x => (tmsT (r.drop (j + 1))).map (x :: ·) := by
  rw [F.drop_next h, h]
  rfl
theorem lst_none {t : Int} {v : List UInt8} {k r : F} (h : ¬ (t = 32609 ∧ v.length = 0) ∨ k.len = 0 ∨ r.len ≠ 0) : lstT (.cons t v k r) = none := by
  match k, r with
  | .nil, _ => rfl
  | .cons _ _ _ _, .cons _ _ _ _ => rfl
  | .cons tc vc kc g, .nil =>
    show (if t = 32609 ∧ v.length = 0 ∧ tc = 2 ∧ kc.len = 0 ∧ vc.length = 1 ∧ numL vc = g.len then tmsT g else none) = none
    rcases h with h | h | h
    · rw [if_neg fun h2 => h ⟨h2.1, h2.2.1⟩]
    · simp [F.len] at h
    · exact absurd rfl h
/-- what is answered of a list -/
def LstIs (o : Option (List Tm)) (w : World) (e : Ending) (w' : World) : Prop := (o = none → e = .returned (.tuple #[.slice none 0 0, .bool false])) ∧ (∀ L, o = some L → ∃ A c, e = .returned (.tuple #[.slice A L.length c, .bool true]) ∧ SeesT w' (newB w w') A L) ∧ Below w.heap.size w w'
theorem LstIs.bad {o : Option (List Tm)} {w w' : World} (h : o = none) (hb : Below w.heap.size w w') : LstIs o w (.returned (.tuple #[.slice none 0 0, .bool false])) w' :=
  ⟨fun _ => rfl, fun L hL => (by rw [h] at hL; cases hL), hb⟩
/-- a row of templates that is filled: those of L stand -/
def RowT (w c : World) (gT m : Nat) (vs : List Value) (L : List Tm) : Prop := RowV c gT vs ∧ vs.length = m * 7 ∧ w.heap.size ≤ gT ∧ ∀ k x, L[k]? = some x → TmIn c (fun b => newB w c b ∧ b ≠ gT) vs k x
theorem RowT.on {w c c' : World} {gT m : Nat} {vs : List Value} {L : List Tm} (h : RowT w c gT m vs L) (hb : Below c.heap.size c c') : RowT w c' gT m vs L :=
  ⟨h.1.on hb, h.2.1, h.2.2.1, fun k x hx => ((h.2.2.2 k x hx).keep fun q hq => hb.cell hq.1.2).imp fun b hq => ⟨⟨hq.1.1, Nat.lt_of_lt_of_le hq.1.2 hb.size⟩, hq.2⟩⟩
def spl (vs : List Value) (o : Nat) (us : List Value) : List Value := vs.take o ++ us ++ vs.drop (o + us.length)
theorem spl_len {vs us : List Value} {o : Nat} (h : o + us.length ≤ vs.length) : (spl vs o us).length = vs.length := by
  simp [spl]; omega
/-- an aggregate is written into a block that holds more -/
theorem wpList_store_part {P : Program} {ops : Array Oper} {rest : List Oper} {op : Oper} {a : Act} {w : World} {Q : Exit → Act → World → Prop} (hgd : op.guard = none) (ty : TypeId) (x y : Operand) (ho : op.op = .store ty x y) (g i : Nat) (vs us : List Value)
    (hx : a.eval x = .pointer (some ⟨g, i, none⟩)) (hy : a.eval y = .agg us.toArray) (h : RowV w g vs) (hl : i + us.length ≤ vs.length) (h1 : ∀ u ∈ us, u.oneCell' = true) (hi : (P.info? ty).map (·.size) = some us.length)
    (hK : ∀ w', Wr w w' g → RowV w' g (spl vs i us) → wpList P ops Q rest (a.put op.dst undef) w') : wpList P ops Q (op :: rest) a w := by
  obtain ⟨t, h⟩ := h
  refine wpList_plain hgd fun K hK2 => ?_
  have hst := run_storeCells_at P g i t us 0 _ w h (by simp; omega) h1
  have hr : (storeVar ty ⟨g, i, none⟩ (.agg us.toArray)).run P w = .ok () (w.setRow g (spl vs i us).toArray) := by
    cases hq : P.info? ty with
    | none => simp [hq] at hi
    | some i0 =>
      have hs : i0.size = us.length := by simpa [hq] using hi
      simp only [Nat.add_zero] at hst
      simp [storeVar, sizeOf, typeInfo, hq, Value.cells, hs, hst, spl]
  unfold Oper.wp execOp
  simp only [ho, hx, hy, Instr.storeAt, Instr.sureAddr, Sem.run_bind, Sem.run_pure, Result.andThen_ok, hr]
  exact hK2 _ _ (hK _ (Wr.row _ _ _) ⟨t, setRow_heap w g _ _ t (0, 0) h⟩)
/-- one template more is put into the row -/
theorem RowT.put {w c c' : World} {gT m j : Nat} {vs : List Value} {L : List Tm} {x : Tm} {A : Option Addr} {cd : Nat} (h : RowT w c gT m vs L) (hL : L.length = j) (hj : j < m) (hw : Wr c c' gT) (hr : RowV c' gT (spl vs (j * 7) (x.cs A cd)))
    (h0 : (A = none → cd = 0) ∧ x.d.length ≤ cd) (hd : SeesP c (fun b => newB w c b ∧ b ≠ gT) A (Us x.d)) : RowT w c' gT m (spl vs (j * 7) (x.cs A cd)) (L ++ [x]) := by
  obtain ⟨h1, h2, h3, h4⟩ := h
  have hlen : j * 7 + (x.cs A cd).length ≤ vs.length := by rw [h2]; simp [Tm.cs]; omega
  have kp : ∀ q : Addr, (newB w c q.block ∧ q.block ≠ gT) → c'.cell? q = c.cell? q := fun q hq => World.cell?_of_block (hw.2.2.2.2 _ hq.2)
  have ip : ∀ b, (newB w c b ∧ b ≠ gT) → newB w c' b ∧ b ≠ gT := fun b hb => ⟨⟨hb.1.1, by rw [hw.2.2.2.1]; exact hb.1.2⟩, hb.2⟩
  have el : (x.cs A cd).length = 7 := rfl
  refine ⟨hr, by rw [spl_len hlen, h2], h3, fun k y hy => ?_⟩
  rw [List.getElem?_append] at hy
  split at hy
  · rename_i hk
    obtain ⟨A', c1, g0, g1, g2⟩ := h4 k y hy
    refine ⟨A', c1, g0, (g1.keep kp).imp ip, fun i hi => ?_⟩
    rw [← g2 i hi]
    unfold spl
    rw [List.append_assoc, List.getElem?_append, if_pos (by rw [List.length_take]; omega), List.getElem?_take, if_pos (by omega)]
  · rename_i hk
    have hk0 : k - L.length = 0 := by
      have := (List.getElem?_eq_some_iff.1 hy).1
      simpa using this
    rw [hk0] at hy
    injection hy with hy
    subst hy
    refine ⟨A, cd, h0, (hd.keep kp).imp ip, fun i hi => ?_⟩
    have ek : k = j := by omega
    subst ek
    unfold spl
    rw [List.append_assoc, List.getElem?_append, if_neg (by rw [List.length_take]; omega), List.getElem?_append, if_pos (by rw [List.length_take, el]; omega)]
    congr 1
    rw [List.length_take]; omega
theorem RowT.sees {w c : World} {gT m : Nat} {vs : List Value} {L : List Tm} (h : RowT w c gT m vs L) (hL : L.length = m) : SeesT c (newB w c) (some ⟨gT, 0, none⟩) L := by
  obtain ⟨h1, h2, h3, h4⟩ := h
  exact ⟨vs, .inr ⟨gT, 0, rfl, ⟨h3, h1.lt⟩, fun j hj => by rw [Nat.zero_add, h1.cell]⟩, by rw [h2, hL]; omega, fun k x hx => (h4 k x hx).imp fun b hb => hb.1⟩
theorem own_rowV {w : World} {base g n s : Nat} {e : TypeId} {xs : List Value} (h : w.ownsRow base e s (.slice (some ⟨g, 0, none⟩) n n) n xs) : RowV w g xs ∧ base ≤ g ∧ xs.length = n * s := by
  obtain ⟨hl, h⟩ := h
  rcases h with ⟨h, _⟩ | ⟨g', cap, cur, hv, hb, hh, hn, hm, hs, ht⟩
  · cases h
  · simp only [Value.slice.injEq, Option.some.injEq, Addr.mk.injEq, and_true, true_and] at hv
    obtain ⟨rfl, rfl⟩ := hv
    refine ⟨⟨e, ?_⟩, hb, hl⟩
    rw [hh, ← ht, List.take_of_length_le (by simp [hs])]
theorem info_tb : (Try.prog.info? 27).map (fun i => (i.zero, i.size, i.bytes)) = some (some (.agg zerT.toArray), 7, 72) := by kernel_rfl
/-- a guarded load of an aggregate within a block -/
theorem wpList_load_midg {P : Program} {ops : Array Oper} {rest : List Oper} {op : Oper} {a : Act} {w : World} {Q : Exit → Act → World → Prop} (hw : Region.wanted op (yielded ops a.tmps) = true) (ty : TypeId) (x : Operand) (ho : op.op = .load ty x)
    (b o : Nat) (hx : a.eval x = .pointer (some ⟨b, o, none⟩)) (cs : List Value) (d : TypeDesc) (hc : w.rangeAt b o cs)
    (hu : P.underlying ty = some d) (hd : d.isRow = true) (hi : (P.info? ty).map (·.size) = some cs.length)
    (h : wpList P ops Q rest (a.put op.dst (.agg cs.toArray)) w) : wpList P ops Q (op :: rest) a w := by
  refine wpList_step fun K hK2 => ?_
  rw [if_pos hw]
  exact wp_load_mid ty x ho b o hx cs d hc hu hd hi (hK2 _ _ h)
end Go.Proofs.Ytobbnedojmcgoaa
