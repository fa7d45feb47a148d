/-
  What is proved here: words for the reference's Decode: rows of templates that are built, bytes that are appended to nothing, loads of objects in regions that draw their order.
-/
import Derived.Test.YtobbnedojmcgoaaBh
import Derived.Laws.AppendOwnNone
namespace Go.Proofs.Ytobbnedojmcgoaa
open Go.RowKit
set_option linter.unusedVariables false
set_option linter.unusedSimpArgs false

/-- append(nil, bytes...), for any activation -/
theorem o_appb {P : Program} {w : World} {o : Oper} {a : Act} {K : Act → World → Prop} {Q : Exit → Act → World → Prop} (x : Operand) (t : TypeId)
    (ho : o.op = .call { callee := .builtin .append, args := #[.const (.slice none 0 0), x], argTypes := #[t, t] })
    (e : TypeId) (i : TypeInfo) (z : Value) (ht : P.underlying t = some (.slice e)) (hi : P.info? e = some i) (hz : i.zero = some z) (hsize : i.size = 1) (hby : i.bytes = 1) (hzs : z.cells.size = 1)
    (A : Option Addr) (c : Nat) (cb : List UInt8) (n : Nat) (hcb : cb.length = n) (p : Nat → Prop) (hx : a.eval x = .slice A n c) (hn : A = none → c = 0) (hc : SeesP w p A (Us cb)) (hm : n ≤ 140737488351232)
    (h : ∀ A' c' w', ((A' = none → c' = 0) ∧ n ≤ c') → SeesP w' (newB w w') A' (Us cb) → Below w.heap.size w w' → K (a.put o.dst (.slice A' n c')) w') : o.wp P a w K Q := by
  subst hcb
  have fin : ∀ v' w', w'.ownsRow w.heap.size e 1 v' (0 + cb.length) ([] ++ Us cb) → w.grownBy w' (Value.slice none 0 0).ownBlock → K (a.put o.dst v') w' := fun v' w' h1 h2 => by
    rw [Nat.zero_add, List.nil_append] at h1
    obtain ⟨A', c', rfl, h3, h4⟩ := own_newB h1
    exact h A' c' w' h3 h4 (grown_new h2)
  cases A with
  | none =>
    have h1 : cb = [] := by have := congrArg List.length hc.none_nil; rw [Us_length] at this; exact List.eq_nil_of_length_eq_zero this
    have h2 := hn rfl
    subst h1 h2
    have hrun := run_append_owned_none (P := P) (w := w) w.heap.size t o.type e i 1 ht hi (.slice none 0 0) 0 [] (World.ownsRow_nil _ _ _ _)
    have hx' : a.eval x = .slice none 0 0 := hx
    have hs0 : a.eval (.const (.slice none 0 0)) = .slice none 0 0 := rfl
    unfold Oper.wp
    simp [execOp, ho, resolve, invoke, builtin, hx', hs0, hrun, Result.andThen]
    exact fin _ w (by simpa [Us] using World.ownsRow_nil w w.heap.size e 1) (World.grownBy.refl _ _)
  | some ad =>
    exact wp_append_own w (.const (.slice none 0 0)) x t ho w.heap.size e i z 1 1 ht hi hz hsize hby hzs (by decide) (.slice none 0 0) 0 [] rfl (World.ownsRow_nil _ _ _ _) ad cb.length c (Us cb) hx (by rw [Us_length]; omega) (hc.src ad rfl) (Us_one _) (by unfold maxLen; omega) (by omega) (Nat.le_refl _) fun v' w' h1 h2 _ => fin v' w' h1 h2
/-- the row v (of templates) holds the templates L; their Data lie in blocks since w, not in the row's own -/
def HeldT (w wr : World) (v : Value) (L : List Tm) : Prop := ∃ cs, wr.ownsRow w.heap.size 27 7 v L.length cs ∧ TmsIn wr (fun b => newB w wr b ∧ v.ownBlock ≠ some b) cs L
theorem HeldT.start (w wr : World) : HeldT w wr (.slice none 0 0) [] := ⟨[], ⟨rfl, .inl ⟨rfl, rfl⟩⟩, TmsIn.nil_⟩
theorem HeldT.on {w wr w' : World} {v : Value} {L : List Tm} (h : HeldT w wr v L) (hb : Below wr.heap.size wr w') : HeldT w w' v L := by
  obtain ⟨cs, h1, h2⟩ := h
  exact ⟨cs, own3_on h1 hb, (h2.keep fun q hq => hb.cell hq.1.2).imp fun b h => ⟨⟨h.1.1, Nat.lt_of_lt_of_le h.1.2 hb.size⟩, h.2⟩⟩
theorem HeldT.slice {w wr : World} {v : Value} {L : List Tm} (h : HeldT w wr v L) : ∃ A c, v = .slice A L.length c ∧ SeesT wr (newB w wr) A L := by
  obtain ⟨cs, h1, h2⟩ := h
  rcases h1.2 with ⟨rfl, h0⟩ | ⟨g, cap, cur, rfl, hb, hh, hn, hm, hs, ht⟩
  · have : L = [] := List.eq_nil_of_length_eq_zero h0
    subst this
    exact ⟨none, 0, rfl, SeesT.nil_⟩
  · refine ⟨_, cap, rfl, cs, .inr ⟨g, 0, rfl, ⟨hb, lt_of_block hh⟩, fun j hj => ?_⟩, h2.imp fun _ hb => hb.1⟩
    have hl := h1.1
    rw [Nat.zero_add, cell_of_row wr g j cur _ (0, 0) hh, ← ht, List.getElem?_take, if_pos (by omega), Array.getElem?_toList]
/-- one template more: wr the world at the statement's start, w1 that behind the copy of the Data, wa that behind the literal, w2 that behind the append -/
theorem HeldT.snoc {w wr w1 wa w2 : World} {v : Value} {L : List Tm} {x : Tm} {Ad : Option Addr} {cd g cap n : Nat} (h01 : Below wr.heap.size wr w1) (ha : Below w1.heap.size w1 wa)
    (hn0 : (Ad = none → cd = 0) ∧ x.d.length ≤ cd) (hv : SeesP w1 (newB wr w1) Ad (Us x.d)) (hww : w.heap.size ≤ wr.heap.size)
    (cs : List Value) (hc1 : wr.ownsRow w.heap.size 27 7 v L.length cs) (hc2 : TmsIn wr (fun b => newB w wr b ∧ v.ownBlock ≠ some b) cs L) (hn : n = L.length + 1)
    (ho : w2.ownsRow w.heap.size 27 7 (.slice (some ⟨g, 0, none⟩) n cap) n (cs ++ x.cs Ad cd)) (hg : wa.grownBy w2 v.ownBlock)
    (hl : v.ownBlock = some g ∨ g = wa.heap.size) : HeldT w w2 (.slice (some ⟨g, 0, none⟩) n cap) (L ++ [x]) := by
  subst hn
  have hold := own_lt3 hc1
  have keep : ∀ q : Addr, q.block < w1.heap.size → v.ownBlock ≠ some q.block → w2.cell? q = w1.cell? q := fun q h1 h2 =>
    (World.cell?_of_block (w := wa) (hg.block q.block (Nat.lt_of_lt_of_le h1 ha.size) (fun e => h2 e.symm))).trans (ha.cell h1)
  have hsz : w1.heap.size ≤ w2.heap.size := Nat.le_trans ha.size hg.size
  have hwa := ha.size
  have h01s := h01.size
  have hp : ∀ b, newB wr w1 b → newB w w2 b ∧ (Value.slice (some ⟨g, 0, none⟩) (L.length + 1) cap).ownBlock ≠ some b := by
    intro b hb
    have h5 := hb.1
    have h6 := hb.2
    refine ⟨⟨by omega, by omega⟩, ?_⟩
    intro e
    injection e with e
    simp only at e
    rcases hl with h3 | h3
    · have := (hold g h3).2; omega
    · omega
  have kp : ∀ q : Addr, newB wr w1 q.block → w2.cell? q = w1.cell? q := by
    intro q hq
    refine keep q hq.2 ?_
    have h5 := hq.1
    intro e
    have := (hold _ e).2
    omega
  refine ⟨_, by rw [List.length_append]; exact ho, TmsIn.snoc ?_ hn0 ((hv.keep kp).imp hp)⟩
  refine (hc2.keep (w' := w2) fun q hq => (keep q (Nat.lt_of_lt_of_le hq.1.2 h01s) hq.2).trans (h01.cell hq.1.2)).imp ?_
  intro b hb
  have h4 := hb.1.2
  refine ⟨⟨hb.1.1, by omega⟩, ?_⟩
  intro e
  injection e with e
  simp only at e
  rcases hl with h3 | h3
  · exact hb.2 (h3.trans (by rw [e]))
  · omega
/-- an aggregate within a block is read in a quiet region -/
theorem quiet_load_mid {P : Program} {ops : Array Oper} {C : World → Prop} {Q : Act → Prop} {a : Act} {o : Oper} {rest : List Oper} (hw : Region.wanted o (yielded ops a.tmps) = true) (ty : TypeId) (x : Operand) (ho : o.op = .load ty x) (g k : Nat) (hx : a.eval x = .pointer (some ⟨g, k, none⟩)) (vs : List Value) (d : TypeDesc)
    (h : ∀ w, C w → w.rangeAt g k vs) (hu : P.underlying ty = some d) (hd : d.isRow = true) (hi : (P.info? ty).map (·.size) = some vs.length) (hK : wpQuiet P ops C Q rest (a.put o.dst (.agg vs.toArray))) : wpQuiet P ops C Q (o :: rest) a := by
  refine Go.BigFrame.wpQuiet_want hw fun K hKK => ?_
  refine ⟨_, fun w hc => ?_, hKK _ hK⟩
  have hr := run_loadVar_mid (P := P) w g k ty vs d (h w hc) hu hd hi
  unfold Oper.quietAt execOp
  simp only [ho, hx, Instr.loadAt, Instr.sureAddr, Sem.run_bind, Sem.run_pure, Result.andThen_ok, hr]
  exact ⟨rfl, rfl⟩
theorem at_qload_ {P : Program} {ops : Array Oper} {C : World → Prop} {Q : Act → Prop} {a : Act} {d : Nat} {rest : List Oper} {x : Operand} {ty t : TypeId} {ps : String} {af : Array Edge} {gd : Option (Nat × Bool)}
    (h : wpQuiet P ops C Q (⟨some d, .load ty x, t, ps, af, gd⟩ :: rest) a) : wpQuiet P ops C Q (⟨some d, .load ty x, t, ps, af, gd⟩ :: rest) a := h
theorem range_up {w : World} {g k : Nat} {vs : List Value} (h : ∀ w', Below w.heap.size w w' → w'.rangeAt g k vs) : ∀ w', (∃ p : Regrown, w' = Go.Sort.grow (redrawn w p.d) p.os) → w'.rangeAt g k vs := fun w' hw => h w' (below_of_regrown hw)
theorem cell_up {w : World} {g k : Nat} {v : Value} (h : ∀ w', Below w.heap.size w w' → w'.cell? ⟨g, k, none⟩ = some v) (d : Nat) (os : Array Obj) : (Go.Sort.grow (redrawn w d) os).cell? ⟨g, k, none⟩ = some v := h _ (below_regrown w d os)
/-- the numbers so far, as the cells of an array of six -/
def numC (N : List Nat) : List Value := [.int .i64 (N.getD 0 0 : Nat), .int .i64 (N.getD 1 0 : Nat), .int .i64 (N.getD 2 0 : Nat), .int .i64 (N.getD 3 0 : Nat), .int .i64 (N.getD 4 0 : Nat), .int .i64 (N.getD 5 0 : Nat)]
theorem numC_len (N : List Nat) : (numC N).length = 6 := rfl
theorem numC_set {N : List Nat} {j m : Nat} (hl : N.length = j) (hj : j < 6) : (numC N).set j (.int .i64 (m : Int)) = numC (N ++ [m]) := by
  have h : j = 0 ∨ j = 1 ∨ j = 2 ∨ j = 3 ∨ j = 4 ∨ j = 5 := by omega
  rcases h with rfl | rfl | rfl | rfl | rfl | rfl
  · obtain rfl := List.eq_nil_of_length_eq_zero hl; rfl
  · obtain ⟨a, rfl⟩ := List.length_eq_one_iff.1 hl; rfl
  · match N, hl with | [a, b], _ => rfl
  · match N, hl with | [a, b, c], _ => rfl
  · match N, hl with | [a, b, c, d], _ => rfl
  · match N, hl with | [a, b, c, d, e], _ => rfl
def zer6 : List Value := [.int .i64 0, .int .i64 0, .int .i64 0, .int .i64 0, .int .i64 0, .int .i64 0]
theorem zer6_num : zer6 = numC [] := rfl
theorem info_6 : (Try.prog.info? 61).map (·.zero) = some (some (.agg zer6.toArray)) := by kernel_rfl
def tagsV : List Value := [.int .i64 129, .int .i64 130, .int .i64 131, .int .i64 132, .int .i64 133, .int .i64 136]
def sizsV : List Value := [.int .i64 1, .int .i64 1, .int .i64 4, .int .i64 4, .int .i64 1, .int .i64 2]
theorem ref_at {i : Nat} (h : i < 6) : ∃ tg sz, hdrTags[i]? = some (tg, sz) ∧ (∀ w, (Instr.index 61 (.agg tagsV.toArray) (.int .i64 (i : Int))).run Try.prog w = .ok (.int .i64 tg) w) ∧ ∀ w, (Instr.index 61 (.agg sizsV.toArray) (.int .i64 (i : Int))).run Try.prog w = .ok (.int .i64 (sz : Int)) w := by
  have hi : i = 0 ∨ i = 1 ∨ i = 2 ∨ i = 3 ∨ i = 4 ∨ i = 5 := by omega
  rcases hi with rfl | rfl | rfl | rfl | rfl | rfl
  · exact ⟨129, 1, rfl, fun w => by kernel_rfl, fun w => by kernel_rfl⟩
  · exact ⟨130, 1, rfl, fun w => by kernel_rfl, fun w => by kernel_rfl⟩
  · exact ⟨131, 4, rfl, fun w => by kernel_rfl, fun w => by kernel_rfl⟩
  · exact ⟨132, 4, rfl, fun w => by kernel_rfl, fun w => by kernel_rfl⟩
  · exact ⟨133, 1, rfl, fun w => by kernel_rfl, fun w => by kernel_rfl⟩
  · exact ⟨136, 2, rfl, fun w => by kernel_rfl, fun w => by kernel_rfl⟩
theorem blt_tags : Try.prog.built 61 [(0, .int .i64 129), (1, .int .i64 130), (2, .int .i64 131), (3, .int .i64 132), (4, .int .i64 133), (5, .int .i64 136)] = some tagsV.toArray := by kernel_rfl
theorem blt_sizs : Try.prog.built 61 [(0, .int .i64 1), (1, .int .i64 1), (2, .int .i64 4), (3, .int .i64 4), (4, .int .i64 1), (5, .int .i64 2)] = some sizsV.toArray := by kernel_rfl
theorem blt_tm (k p f t q o : Int) (A : Option Addr) (n c : Nat) : Try.prog.built 27 [(0, .int .i64 k), (1, .int .i64 p), (2, .int .i64 f), (3, .int .i64 t), (5, .int .i64 q), (4, .int .i64 o), (6, .slice A n c)] = some #[.int .i64 k, .int .i64 p, .int .i64 f, .int .i64 t, .int .i64 o, .int .i64 q, .slice A n c] := by kernel_rfl
theorem bst1 (a b c d e f : Int) (A : Option Addr) (n cp : Nat) : Try.prog.builtSlice 27 1 [(0, .agg #[.int .i64 a, .int .i64 b, .int .i64 c, .int .i64 d, .int .i64 e, .int .i64 f, .slice A n cp])] = some #[.int .i64 a, .int .i64 b, .int .i64 c, .int .i64 d, .int .i64 e, .int .i64 f, .slice A n cp] := by kernel_rfl
theorem o_ixv {P : Program} {a : Act} {w : World} {K : Act → World → Prop} {Q : Exit → Act → World → Prop} {o : Oper} (T : TypeId) (x y : Operand) (ho : o.op = .index T x y) {v vx vy : Value} (hx : a.eval x = vx) (hy : a.eval y = vy) (hr : (Instr.index T vx vy).run P w = .ok v w) (hK : K (a.put o.dst v) w) : o.wp P a w K Q := by
  unfold Oper.wp execOp
  simp only [ho, hx, hy, Sem.run_bind, hr, Result.andThen_ok, Sem.run_pure]
  exact hK
theorem o_not {P : Program} {a : Act} {w : World} {K : Act → World → Prop} {Q : Exit → Act → World → Prop} {o : Oper} (T : TypeId) (x : Operand) (ho : o.op = .unOp .not T x) {b : Bool} (hx : a.eval x = .bool b) (hK : K (a.put o.dst (.bool (!b))) w) : o.wp P a w K Q := by
  unfold Oper.wp execOp
  simp only [ho, hx, Op.unary, Sem.run_bind, Sem.run_pure, Result.andThen_ok]
  exact hK
theorem ix_six (g k : Nat) (hk : k < 6) (w : World) : (Instr.indexAt 61 (.pointer (some ⟨g, 0, none⟩)) (.int .i64 (k : Int))).run Try.prog w = .ok (.pointer (some ⟨g, k, none⟩)) w := by
  have h0 : (k : Int) < 6 := by omega
  have h1 : (0 : Int) ≤ (k : Int) := by omega
  simp [go_sem, Addr.add, h0, h1]
  intro h; exact h.symm
theorem ix_nod1 (g o n c : Nat) (hk : 1 < n) (w : World) : (Instr.indexAt 33 (.slice (some ⟨g, o, none⟩) n c) (.int .i64 1)).run Try.prog w = .ok (.pointer (some ⟨g, o + 3, none⟩)) w := by
  have h := ix_nod g o n c 1 hk w
  rw [Nat.one_mul] at h
  exact h
theorem fa_nO1 (g o : Nat) (w : World) : (Instr.fieldAt 53 (.pointer (some ⟨g, o, none⟩)) 1).run Try.prog w = .ok (.pointer (some ⟨g, o + 1, none⟩)) w := by kernel_rfl
end Go.Proofs.Ytobbnedojmcgoaa
