/-
  What is proved here: the maker Odd (one thing of objects is changed), over objects of any kind with Values of at most 2000 bytes; Values and Kids within their capacities.
-/
import Derived.Test.YtobbnedojmcgoaaBr
namespace Go.Proofs.Ytobbnedojmcgoaa
open Go.RowKit
set_option linter.unusedVariables false
set_option linter.unusedSimpArgs false

/-- tags are numbers, Values have at most b bytes -/
def F.vb (b : Nat) : F → Prop
  | .nil => True
  | .cons t v k r => (-9223372036854775808 ≤ t ∧ t ≤ 9223372036854775807) ∧ v.length ≤ b ∧ k.vb b ∧ r.vb b
theorem F.vb_mono {b b' : Nat} (hb : b ≤ b') : ∀ {f : F}, f.vb b → f.vb b'
  | .nil, _ => trivial
  | .cons _ _ _ _, h => ⟨h.1, Nat.le_trans h.2.1 hb, F.vb_mono hb h.2.2.1, F.vb_mono hb h.2.2.2⟩
theorem F.vb_succ {b : Nat} {f : F} (h : f.vb b) : f.vb (b + 1) := F.vb_mono (Nat.le_succ b) h
theorem F.vb_app {b : Nat} {g : F} : ∀ {f : F}, f.vb b → g.vb b → (f.app g).vb b
  | .nil, _, h => h
  | .cons _ _ _ _, h, h' => ⟨h.1, h.2.1, h.2.2.1, F.vb_app h.2.2.2 h'⟩
theorem F.vb_inv {b : Nat} {g : F} : ∀ {f : F}, (f.app g).vb b → f.vb b ∧ g.vb b
  | .nil, h => ⟨trivial, h⟩
  | .cons _ _ _ _, h => ⟨⟨h.1, h.2.1, h.2.2.1, (F.vb_inv h.2.2.2).1⟩, (F.vb_inv h.2.2.2).2⟩
theorem F.vb_ok {b : Nat} (hb : b ≤ 140737488351232) : ∀ {f : F}, f.vb b → f.ok
  | .nil, _ => trivial
  | .cons _ _ _ _, h => ⟨h.1, Nat.le_trans h.2.1 hb, F.vb_ok hb h.2.2.1, F.vb_ok hb h.2.2.2⟩
theorem F.k0_size : ∀ f : F, f.k0 ≤ f.size
  | .nil => Nat.zero_le _
  | .cons _ _ k r => by
    have := k.len_le_size
    simp only [F.k0, F.size]
    omega
theorem own_le {w : World} {base n cap s : Nat} {e : TypeId} {g o : Nat} {xs : List Value} (h : w.ownsRow base e s (.slice (some ⟨g, o, none⟩) n cap) n xs) : n ≤ cap := by
  rcases h.2 with ⟨e, _⟩ | ⟨g', cap', cur, e, hb, hh, h1, _⟩
  · cases e
  · cases e
    exact h1
theorem append_con {P : Program} {w : World} {ops : Array Oper} {rest : List Oper} {o : Oper} {a : Act} {Q : Exit → Act → World → Prop} (hgd : o.guard = none) (s x : Operand) (t : TypeId)
    (ho : o.op = .call { callee := .builtin .append, args := #[s, x], argTypes := #[t, t] })
    (base : Nat) (e : TypeId) (i : TypeInfo) (z : Value) (ht : P.underlying t = some (.slice e)) (hi : P.info? e = some i) (hz : i.zero = some z)
    (hsize : i.size = 1) (hby : i.bytes = 1) (hzs : z.cells.size = 1)
    (v : Value) (n : Nat) (xs : List Value) (hs : a.eval s = v) (hown : w.ownsRow base e 1 v n xs)
    (A : Option Addr) (c : Nat) (cb : List UInt8) (hx : a.eval x = .slice A cb.length c) (hn : A = none → c = 0) (hcc : A = none → cb = []) (hc : ∀ ad, A = some ad → ∀ j u, (Us cb)[j]? = some u → w.cell? (ad.add j) = some u)
    (h63 : n + cb.length ≤ maxLen) (hbytes : n + cb.length ≤ 140737488355328) (hbase : base ≤ w.heap.size)
    (h : ∀ v' w', w'.ownsRow base e 1 v' (n + cb.length) (xs ++ Us cb) → w.grownBy w' v.ownBlock → wpList P ops Q rest (a.put o.dst v') w') : wpList P ops Q (o :: rest) a w := by
  cases A with
  | none =>
    have h1 := hcc rfl
    have h2 := hn rfl
    subst h1 h2
    exact wpList_append_own_none hgd s x t ho base e i 1 ht hi v n xs hs hown hx (h v w (by simpa [Us] using hown) (World.grownBy.refl _ _))
  | some ad =>
    exact wpList_append_own w hgd s x t ho base e i z 1 1 ht hi hz hsize hby hzs (by decide) v n xs hs hown ad cb.length c (Us cb) hx (by rw [Us_length]; omega) (hc ad rfl) (Us_one _) h63 (by omega) hbase fun v' w' h1 h2 _ => h v' w' h1 h2
theorem holds_split {w : World} {p : Nat → Prop} : ∀ {f : F} {cs : List Value} (k : Nat), HoldsN w p f cs → k < f.len →
    ∃ f1 t v kk f2 cs1 Av cv Ak ck cs2, f = f1.app (.cons t v kk f2) ∧ f1.len = k ∧ cs = cs1 ++ (.int .i64 t :: .slice Av v.length cv :: .slice Ak kk.len ck :: cs2) ∧ cs1.length = k * 3 ∧ HoldsN w p f1 cs1 ∧ ((Av = none → cv = 0) ∧ v.length ≤ cv ∧ kk.len ≤ ck) ∧ SeesP w p Av (Us v) ∧ SeesN w p Ak kk ∧ HoldsN w p f2 cs2
  | .nil, _, _, _, h => by simp [F.len] at h
  | .cons t v kk r, _, 0, ⟨Av, cv, Ak, ck, ks, cs', e, h0, h1, h2, h3, h4⟩, _ => ⟨.nil, t, v, kk, r, [], Av, cv, Ak, ck, cs', rfl, rfl, e, rfl, rfl, h0, h1, ⟨ks, h2, h3⟩, h4⟩
  | .cons t v kk r, _, k + 1, ⟨Av, cv, Ak, ck, ks, cs', e, h0, h1, h2, h3, h4⟩, h => by
    obtain ⟨f1, t', v', kk', f2, cs1, Av', cv', Ak', ck', cs2, e1, e2, e3, e3', e4, e5, e6, e7, e8⟩ := holds_split k h4 (by simp only [F.len] at h; omega)
    exact ⟨.cons t v kk f1, t', v', kk', f2, .int .i64 t :: .slice Av v.length cv :: .slice Ak kk.len ck :: cs1, Av', cv', Ak', ck', cs2, by rw [e1]; rfl, by simp [F.len, e2], by rw [e, e3]; rfl, by simp only [List.length_cons, e3']; omega, ⟨Av, cv, Ak, ck, ks, cs1, rfl, h0, h1, h2, h3, e4⟩, e5, e6, e7, e8⟩
theorem HoldsN.one {w : World} {p : Nat → Prop} : ∀ {f : F} {cs : List Value}, HoldsN w p f cs → ∀ u ∈ cs, u.oneCell' = true
  | .nil, _, h, u, hu => by cases h; cases hu
  | .cons t v k r, _, ⟨Av, cv, Ak, ck, ks, cs', e, h0, h1, h2, h3, h4⟩, u, hu => by
    subst e
    rcases List.mem_cons.1 hu with rfl | hu
    · rfl
    rcases List.mem_cons.1 hu with rfl | hu
    · rfl
    rcases List.mem_cons.1 hu with rfl | hu
    · rfl
    exact HoldsN.one h4 u hu

/-- what Odd answers -/
def OddIs (w : World) (D : Nat) (p : Nat → Prop) (f : F) (e : Ending) (w' : World) : Prop := ∃ (f' : F) (A : Option Addr) (c : Nat), e = .returned (.slice A f'.len c) ∧ f'.vb 2001 ∧ f'.len ≤ c ∧ f'.size ≤ f.size + 1 ∧ SeesN w' (fun b => p b ∨ newB w w' b) A f' ∧ w.grownBy w' (some D) ∧ DiceOk w' D

theorem row3 {w : World} {base g n cap : Nat} {cs : List Value} (h : w.ownsRow base 53 3 (.slice (some ⟨g, 0, none⟩) n cap) n cs) :
    ∃ cur, w.heap[g]? = some (.cells cur 53 (0, 0)) ∧ cur.size = cap * 3 ∧ n ≤ cap ∧ cap ≤ maxLen ∧ cur.toList.take (n * 3) = cs ∧ base ≤ g := by
  rcases h.2 with ⟨e, _⟩ | ⟨g', cap', cur, e, hb, hh, h1, h2, h3, h4⟩
  · cases e
  · cases e
    exact ⟨cur, hh, h3, h1, h2, h4, hb⟩
theorem row3_frozen {w : World} {base g n cap : Nat} {cs : List Value} (h : w.ownsRow base 53 3 (.slice (some ⟨g, 0, none⟩) n cap) n cs) (j : Nat) : w.frozen? ⟨g, j, none⟩ = false := by
  obtain ⟨cur, hh, _⟩ := row3 h
  exact frozen_of_row w g j _ _ hh
theorem own_slice3 {w : World} {base n : Nat} {e : TypeId} {v : Value} {xs : List Value} (h : w.ownsRow base e 3 v n xs) : ∃ A c, v = .slice A n c := by
  rcases h.2 with ⟨rfl, rfl⟩ | ⟨g, cap, cur, rfl, _⟩
  · exact ⟨none, 0, rfl⟩
  · exact ⟨_, cap, rfl⟩
/-- the three cells of the object at k -/
theorem row3_at {w : World} {base g n cap k : Nat} {cs cs1 cs2 : List Value} {a b c : Value} (h : w.ownsRow base 53 3 (.slice (some ⟨g, 0, none⟩) n cap) n cs) (he : cs = cs1 ++ (a :: b :: c :: cs2)) (hl : cs1.length = k * 3) :
    w.cell? ⟨g, k * 3, none⟩ = some a ∧ w.cell? ⟨g, k * 3 + 1, none⟩ = some b ∧ w.cell? ⟨g, k * 3 + 2, none⟩ = some c := by
  have hlen := h.1
  have hl2 : cs.length = k * 3 + 3 + cs2.length := by rw [he]; simp only [List.length_append, List.length_cons]; omega
  refine ⟨?_, ?_, ?_⟩
  · rw [h.cellAt (k * 3) (by omega), he, ← hl]; simp
  · rw [h.cellAt (k * 3 + 1) (by omega), he, ← hl]; simp
  · rw [h.cellAt (k * 3 + 2) (by omega), he, ← hl]; simp

theorem odd_close {w w5 : World} {D g n cap k i : Nat} {p : Nat → Prop} {f f1 f2 kk kk' : F} {t t' : Int} {v v' : List UInt8} {cs cs1 cs2 : List Value} {Av' Ak' : Option Addr} {cv' ck' : Nat} {u : Value}
    (hp : ∀ b, p b → b < w.heap.size ∧ b ≠ D) (hf : f = f1.app (.cons t v kk f2)) (hn : f.len = n) (hl : f1.len = k) (hDw : D < w.heap.size) (hgw : w.heap.size ≤ g)
    (hrow : w5.ownsRow w.heap.size 53 3 (.slice (some ⟨g, 0, none⟩) n cap) n cs)
    (h1 : HoldsN w p f1 cs1) (h2 : HoldsN w p f2 cs2) (hg : w.grownBy w5 (some D)) (hd : DiceOk w5 D)
    (hset : cs.set (k * 3 + i) u = cs1 ++ (.int .i64 t' :: .slice Av' v'.length cv' :: .slice Ak' kk'.len ck' :: cs2))
    (hn0 : (Av' = none → cv' = 0) ∧ v'.length ≤ cv' ∧ kk'.len ≤ ck') (hv : SeesP w5 (fun b => p b ∨ (w.heap.size ≤ b ∧ b < w5.heap.size ∧ b ≠ g)) Av' (Us v')) (hk : SeesN w5 (fun b => p b ∨ (w.heap.size ≤ b ∧ b < w5.heap.size ∧ b ≠ g)) Ak' kk')
    (ho1 : f1.vb 2001) (ho2 : f2.vb 2001) (ht : -9223372036854775808 ≤ t' ∧ t' ≤ 9223372036854775807) (hvl : v'.length ≤ 2001) (hko : kk'.vb 2001) (hks : kk'.size ≤ kk.size + 1) :
    OddIs w D p f (.returned (.slice (some ⟨g, 0, none⟩) n cap)) (w5.setCell ⟨g, k * 3 + i, none⟩ u) := by
  obtain ⟨cur, hh, hs, hnc, hmx, htk, _⟩ := row3 hrow
  have hgs : w5.grownBy (w5.setCell ⟨g, k * 3 + i, none⟩ u) (some g) := grown_set _ _
  have h5 : w.grownBy (w5.setCell ⟨g, k * 3 + i, none⟩ u) (some D) := grown_row hg hgs (fun g' e => by injection e with e; omega)
  have hsz := h5.size
  have hsz5 := hg.size
  have hblk := block_set (i := k * 3 + i) hh u
  have hlf : (f1.app (.cons t' v' kk' f2)).len = n := by rw [← hn, hf, F.len_app, F.len_app]; rfl
  refine ⟨f1.app (.cons t' v' kk' f2), some ⟨g, 0, none⟩, cap, by rw [hlf], F.vb_app ho1 ⟨ht, hvl, hko, ho2⟩, by rw [hlf]; exact hnc, ?_, ?_, h5, hd.grown hgs (fun g' e => by injection e with e; omega)⟩
  · rw [hf, F.size_app, F.size_app]; simp only [F.size]; omega
  · have hfar : ∀ q : Addr, (p q.block ∨ (w.heap.size ≤ q.block ∧ q.block < w5.heap.size ∧ q.block ≠ g)) → (w5.setCell ⟨g, k * 3 + i, none⟩ u).cell? q = w5.cell? q := fun q hq => by
      rcases hq with hq | hq
      · have := hp _ hq; exact grown_cell hgs (by omega) (by omega)
      · exact grown_cell hgs hq.2.1 hq.2.2
    have hpw : ∀ b, (p b ∨ (w.heap.size ≤ b ∧ b < w5.heap.size ∧ b ≠ g)) → (p b ∨ newB w (w5.setCell ⟨g, k * 3 + i, none⟩ u) b) := fun b hb => by
      rcases hb with hb | hb
      · exact .inl hb
      · exact .inr ⟨hb.1, Nat.lt_of_lt_of_le hb.2.1 hgs.size⟩
    have hp0 : ∀ q : Addr, p q.block → (w5.setCell ⟨g, k * 3 + i, none⟩ u).cell? q = w.cell? q := fun q hq => grown_cell h5 (hp _ hq).1 (hp _ hq).2
    obtain ⟨ks, k1, k2⟩ := hk.keep hfar
    refine ⟨_, .inr ⟨g, 0, rfl, .inr ⟨hgw, lt_of_block hblk⟩, fun j hj => ?_⟩,
      HoldsN.app (HoldsN.imp (fun b hb => .inl hb) (HoldsN.keep hp0 h1)) ⟨Av', cv', Ak', ck', ks, cs2, rfl, hn0, (hv.keep hfar).imp hpw, k1.imp hpw, HoldsN.imp hpw k2, HoldsN.imp (fun b hb => .inl hb) (HoldsN.keep hp0 h2)⟩⟩
    rw [← hset] at hj ⊢
    rw [Nat.zero_add, cell_of_row _ g j _ _ _ hblk, ← htk, Array.getElem?_setIfInBounds, List.getElem?_set, List.getElem?_take, List.length_take, Array.length_toList]
    rw [List.length_set, ← htk, List.length_take, Array.length_toList] at hj
    by_cases hj2 : k * 3 + i = j
    · rw [if_pos hj2, if_pos hj2, if_pos (by omega), if_pos (by omega)]
    · rw [if_neg hj2, if_neg hj2, if_pos (by omega), Array.getElem?_toList]

theorem append_nil_any {P : Program} {w : World} {ops : Array Oper} {rest : List Oper} {o : Oper} {a : Act} {Q : Exit → Act → World → Prop} (hgd : o.guard = none) (s x : Operand) (t : TypeId)
    (ho : o.op = .call { callee := .builtin .append, args := #[s, x], argTypes := #[t, t] })
    (base : Nat) (e : TypeId) (i : TypeInfo) (z : Value) (size bytes : Nat) (ht : P.underlying t = some (.slice e)) (hi : P.info? e = some i) (hz : i.zero = some z)
    (hsize : i.size = size) (hby : i.bytes = bytes) (hzs : z.cells.size = size) (hsz : 0 < size)
    (hs : a.eval s = .slice none 0 0) (A : Option Addr) (n c : Nat) (cs : List Value) (p : Nat → Prop) (hx : a.eval x = .slice A n c) (hp : SeesP w p A cs) (hlen : cs.length = n * size) (h1 : ∀ u ∈ cs, u.oneCell' = true)
    (h63 : n ≤ maxLen) (hbytes : n * bytes ≤ 140737488355328) (hbase : base ≤ w.heap.size)
    (h : ∀ v' w', w'.ownsRow base e size v' n cs → w.grownBy w' none → wpList P ops Q rest (a.put o.dst v') w') : wpList P ops Q (o :: rest) a w := by
  by_cases h0 : n = 0
  · subst h0
    have : cs = [] := List.eq_nil_of_length_eq_zero (by omega)
    subst this
    refine wpList_plain hgd fun K hK => ?_
    have hrun : (Builtin.append_ #[t, t] o.type #[.slice none 0 0, .slice A 0 c]).run P w = .ok (.slice none 0 0) w := by
      cases A with
      | none => simp [Builtin.append_, run_underlying ht, sizeOf, typeInfo, hi, Builtin.lenOf, Builtin.firstCells]
      | some ad => simp [Builtin.append_, run_underlying ht, sizeOf, typeInfo, hi, Builtin.lenOf, Builtin.firstCells, loadCells, loadCellsFrom]
    unfold Oper.wp
    simp [execOp, ho, resolve, invoke, builtin, hs, hx, hrun, Result.andThen]
    exact hK _ _ (h _ _ ⟨by simp, .inl ⟨rfl, rfl⟩⟩ (World.grownBy.refl _ _))
  · have hA : ∃ ad, A = some ad := by
      rcases hp with hp | ⟨b, off, e, _⟩
      · subst hp
        have := Nat.mul_pos (Nat.pos_of_ne_zero h0) hsz
        simp at hlen
        omega
      · exact ⟨_, e⟩
    obtain ⟨ad, rfl⟩ := hA
    exact wpList_append_own w hgd s x t ho base e i z size bytes ht hi hz hsize hby hzs hsz (.slice none 0 0) 0 [] hs (World.ownsRow_nil _ _ _ _) ad n c cs hx hlen (hp.src ad rfl) h1 (by omega) (by simpa using hbytes) hbase fun v' w' h1 h2 _ => h v' w' (by simpa using h1) h2

def OddAll (n : Nat) : Prop := ∀ (f : F) (A : Option Addr) (c D : Nat) (w : World) (p : Nat → Prop), f.size < n → f.vb 2000 → (∀ b, p b → b < w.heap.size ∧ b ≠ D) → SeesN w p A f → DiceOk w D →
  Calls Try.prog 26 #[.pointer (some ⟨D, 0, none⟩), .slice A f.len c] w (OddIs w D p f)

theorem odd_tag {r : Nat} (h : r < 9) : ∃ z : Int, (-9223372036854775808 ≤ z ∧ z ≤ 9223372036854775807) ∧ (#[Value.int .i64 0, .int .i64 31, .int .i64 63, .int .i64 24320, .int .i64 24448, .int .i64 256, .int .i64 (-1), .int .i64 32590, .int .i64 65536])[r]? = some (.int .i64 z) := by
  have : r = 0 ∨ r = 1 ∨ r = 2 ∨ r = 3 ∨ r = 4 ∨ r = 5 ∨ r = 6 ∨ r = 7 ∨ r = 8 := by omega
  rcases this with rfl | rfl | rfl | rfl | rfl | rfl | rfl | rfl | rfl <;> exact ⟨_, by constructor <;> decide, rfl⟩

/-- a Value of the call's own, one byte longer -/
theorem odd_val {w w3 w4 w5 : World} {D g n cap g5 cap5 : Nat} {cs : List Value} {v : List UInt8} {v4 : Value} {o : Obj} {news : List Value} (hDw : D < w.heap.size) (hgs : g < w3.heap.size) (hob : (Value.slice (some (⟨g, 0, none⟩ : Addr)) n cap).ownBlock ≠ some D)
    (h3 : w.grownBy w3 (some D) ∧ DiceOk w3 D ∧ w3.ownsRow w.heap.size 53 3 (.slice (some ⟨g, 0, none⟩) n cap) n cs)
    (ho4 : w4.ownsRow w3.heap.size 5 1 v4 v.length (Us v)) (hg4 : w3.grownBy w4 none)
    (ho5 : w5.ownsRow w3.heap.size 5 1 (.slice (some ⟨g5, 0, none⟩) (v.length + 1) cap5) (v.length + 1) (Us v ++ news)) (hg5 : (w4.alloc o).grownBy w5 v4.ownBlock) (he : news = Us [7]) :
    w.grownBy w5 (some D) ∧ DiceOk w5 D ∧ w5.ownsRow w.heap.size 53 3 (.slice (some ⟨g, 0, none⟩) n cap) n cs ∧ SeesP w5 (fun b => w3.heap.size ≤ b ∧ b < w5.heap.size ∧ b ≠ g) (some ⟨g5, 0, none⟩) (Us (v ++ [7])) := by
  have hD3 := h3.2.1.lt
  have hlt := ho5.lt g5 rfl
  refine ⟨grown_row (grown_trans (grown_row h3.1 hg4 (fun g e => by cases e)) (grown_alloc w4 o (some D))) hg5 (fun g' e => Nat.le_trans h3.1.size (ho4.lt g' e).1),
    ((h3.2.1.grown hg4 (fun g e => by cases e)).below ((Below.refl _ _).alloc (Nat.le_refl _) o)).grown hg5 (fun g' e => by have := (ho4.lt g' e).1; omega),
    ((h3.2.2.kept hg4 (.inr (by intro e; cases e))).alloc o).kept hg5 (.inr ?_), .inr ⟨g5, 0, rfl, ⟨hlt.1, hlt.2, by have := hlt.1; omega⟩, fun j hj => ?_⟩⟩
  · intro e
    have e2 : v4.ownBlock = some g := e.symm
    have := (ho4.lt g e2).1
    omega
  · rw [Us_length, List.length_append] at hj
    have h1 : [(7 : UInt8)].length = 1 := rfl
    rw [Nat.zero_add, ho5.cellAt j (by omega), he, ← Us_append]
/-- Kids of the call's own, one object more -/
theorem odd_kid {w w3 w4 w5 : World} {D g n cap g5 cap5 : Nat} {p : Nat → Prop} {cs ks : List Value} {kk : F} {v4 : Value} {o : Obj} (hDw : D < w.heap.size) (hgs : g < w3.heap.size) (hob : (Value.slice (some (⟨g, 0, none⟩ : Addr)) n cap).ownBlock ≠ some D) (hp : ∀ b, p b → b < w.heap.size ∧ b ≠ D)
    (h3 : w.grownBy w3 (some D) ∧ DiceOk w3 D ∧ w3.ownsRow w.heap.size 53 3 (.slice (some ⟨g, 0, none⟩) n cap) n cs) (hk : HoldsN w3 p kk ks)
    (ho4 : w4.ownsRow w3.heap.size 53 3 v4 kk.len ks) (hg4 : w3.grownBy w4 none)
    (ho5 : w5.ownsRow w3.heap.size 53 3 (.slice (some ⟨g5, 0, none⟩) (kk.len + 1) cap5) (kk.len + 1) (ks ++ [.int .i64 4, .slice none 0 0, .slice none 0 0])) (hg5 : (w4.alloc o).grownBy w5 v4.ownBlock) :
    w.grownBy w5 (some D) ∧ DiceOk w5 D ∧ w5.ownsRow w.heap.size 53 3 (.slice (some ⟨g, 0, none⟩) n cap) n cs ∧ SeesN w5 (fun b => p b ∨ (w3.heap.size ≤ b ∧ b < w5.heap.size ∧ b ≠ g)) (some ⟨g5, 0, none⟩) (kk.app (.cons 4 [] .nil .nil)) := by
  have hD3 := h3.2.1.lt
  have hlt := ho5.lt g5 rfl
  have hG : w.grownBy w5 (some D) := grown_row (grown_trans (grown_row h3.1 hg4 (fun g e => by cases e)) (grown_alloc w4 o (some D))) hg5 (fun g' e => Nat.le_trans h3.1.size (ho4.lt g' e).1)
  refine ⟨hG, ((h3.2.1.grown hg4 (fun g e => by cases e)).below ((Below.refl _ _).alloc (Nat.le_refl _) o)).grown hg5 (fun g' e => by have := (ho4.lt g' e).1; omega),
    ((h3.2.2.kept hg4 (.inr (by intro e; cases e))).alloc o).kept hg5 (.inr ?_), _, .inr ⟨g5, 0, rfl, .inr ⟨hlt.1, hlt.2, by have := hlt.1; omega⟩, fun j hj => ?_⟩,
    HoldsN.app (HoldsN.imp (fun b hb => .inl hb) (HoldsN.keep (fun q hq => ?_) hk)) ⟨none, 0, none, 0, [], [], rfl, ⟨fun _ => rfl, Nat.le_refl _, Nat.le_refl _⟩, .inl rfl, .inl rfl, rfl, rfl⟩⟩
  · intro e
    have e2 : v4.ownBlock = some g := e.symm
    have := (ho4.lt g e2).1
    omega
  · have hl := ho5.1
    exact (congrArg (fun x => w5.cell? ⟨g5, x, none⟩) (Nat.zero_add j)).trans (ho5.cellAt j (by rw [← hl]; exact hj))
  · have h := hp _ hq
    exact (grown_cell hG h.1 h.2).trans (grown_cell h3.1 h.1 h.2).symm

set_option maxRecDepth 20000 in
set_option maxHeartbeats 4000000 in
theorem dice_odd (n : Nat) (hn : n ≤ 5000) : OddAll n := by
  induction n with
  | zero => intro f A c D w p h; omega
  | succ n ih =>
    intro f A c D w p hsz hgd hp hs hdo
    obtain ⟨i0, hi, hz0, hz1, hz2⟩ := info_parts info_node
    obtain ⟨i1, hi1, hy0, hy1, hy2⟩ := info_parts info_u8b
    obtain ⟨cs, s1, k1⟩ := hs
    have hDw := hdo.lt
    have hlen := f.len_le_size
    have hcl : cs.length = f.len * 3 := by rw [HoldsN.length k1]; omega
    have IH := Lib.hid (ih (by omega))
    have HS := Lib.hid (show SeesP w p A cs from s1)
    have HK := Lib.hid (show HoldsN w p f cs ∧ (∀ u ∈ cs, u.oneCell' = true) ∧ cs.length = f.len * 3 from ⟨k1, HoldsN.one k1, hcl⟩)
    have HD := Lib.hid hdo
    have HGD := Lib.hid hgd
    have HP := Lib.hid hp
    clear ih s1 k1 hdo hgd hcl hp
    by_cases h0 : f.len = 0
    · have d0 : ((f.len : Int) == 0) = true := by rw [h0]; rfl
      go_enter Try.func26, Try.ntmps26
      go_upto_if 11 with (at_builtin; refine append_nil_any rfl (.const (.slice none 0 0)) (.tmp 7) 33 rfl w.heap.size 53 i0 _ 3 56 Try.underlying33 hi hz0 hz1 hz2 rfl (by decide) rfl A f.len c cs p rfl HS.out HK.out.2.2 HK.out.2.1 (by unfold maxLen; omega) (by omega) (Nat.le_refl _) ?_; intro v1 w1 ho1 hg1; have G1 := Lib.hid (show w.grownBy w1 (some D) ∧ DiceOk w1 D from ⟨grown_row (World.grownBy.refl _ _) hg1 (fun g e => by cases e), HD.out.grown hg1 (fun g e => by cases e)⟩); obtain ⟨A1, c1, rfl⟩ := own_slice3 ho1; clear ho1 hg1)
      have HX := Lib.hid (dice_next D 70000 w1 (by decide) (by decide) G1.out.2)
      clear h0 HS HK HD HGD IH
      go_wp2_with fail
      refine HX.out.mono ?_
      rintro e w2 ⟨x, hx, rfl, hg2, hd2⟩
      have HF := Lib.hid (show OddIs w D p f (.returned (.slice (some ⟨w2.heap.size, 0, none⟩) 1 1)) (w2.alloc (.cells #[.int .i64 ((x : Int) - 100), .slice none 0 0, .slice none 0 0] 53)) from
        ⟨.cons ((x : Int) - 100) [] .nil .nil, _, 1, rfl, ⟨by omega, by simp, trivial, trivial⟩, Nat.le_refl _, by simp only [F.size]; omega, by
          refine ⟨[.int .i64 ((x : Int) - 100), .slice none 0 0, .slice none 0 0], .inr ⟨_, 0, rfl, .inr ⟨by have := G1.out.1.size; have := hg2.size; omega, by simp⟩, fun j hj => ?_⟩, none, 0, none, 0, [], [], rfl, ⟨fun _ => rfl, Nat.le_refl _, Nat.le_refl _⟩, .inl rfl, .inl rfl, rfl, rfl⟩
          rw [Nat.zero_add, cell_of_row _ w2.heap.size j _ _ (0, 0) (heap_alloc_new w2 _)]
          simp,
        grown_trans (grown_trans G1.out.1 hg2) (grown_alloc _ _ _), hd2.below ((Below.refl _ _).alloc (Nat.le_refl _) _)⟩)
      clear hg2 hd2 HX G1
      go_wp2_with fail
      go_ret
      exact HF.out
    · have d0 : ((f.len : Int) == 0) = false := beq_eq_false_iff_ne.mpr (by omega)
      go_enter Try.func26, Try.ntmps26
      go_upto_if 11 with (at_builtin; refine append_nil_any rfl (.const (.slice none 0 0)) (.tmp 7) 33 rfl w.heap.size 53 i0 _ 3 56 Try.underlying33 hi hz0 hz1 hz2 rfl (by decide) rfl A f.len c cs p rfl HS.out HK.out.2.2 HK.out.2.1 (by unfold maxLen; omega) (by omega) (Nat.le_refl _) ?_; intro v1 w1 ho1 hg1; have hfm := ho1.form (by omega); obtain ⟨g, cap, rfl, hgw, hglt⟩ := hfm; have G1 := Lib.hid (show w.grownBy w1 (some D) ∧ DiceOk w1 D ∧ w1.ownsRow w.heap.size 53 3 (.slice (some ⟨g, 0, none⟩) f.len cap) f.len cs from ⟨grown_row (World.grownBy.refl _ _) hg1 (fun g e => by cases e), HD.out.grown hg1 (fun g e => by cases e), ho1⟩); clear ho1 hg1)
      have hgD : g ≠ D := by omega
      have hob : (Value.slice (some (⟨g, 0, none⟩ : Addr)) f.len cap).ownBlock ≠ some D := by intro e; have e : some g = some D := e; injection e with e; exact hgD e
      have HX := Lib.hid (dice_next D f.len w1 (by omega) (by omega) G1.out.2.1)
      clear HS HD
      go_wp2_with fail
      refine HX.out.mono ?_
      rintro e w2 ⟨k, hk, rfl, hg2, hd2⟩
      have G2 := Lib.hid (show w.grownBy w2 (some D) ∧ DiceOk w2 D ∧ w2.ownsRow w.heap.size 53 3 (.slice (some ⟨g, 0, none⟩) f.len cap) f.len cs from ⟨grown_trans G1.out.1 hg2, hd2, own_far G1.out.2.2 hg2 hob⟩)
      have HX := Lib.hid (dice_next D 5 w2 (by decide) (by decide) hd2)
      clear hg2 hd2 G1
      go_wp2_with fail
      refine HX.out.mono ?_
      rintro e w3 ⟨q, hq, rfl, hg3, hd3⟩
      have G3 := Lib.hid (show w.grownBy w3 (some D) ∧ DiceOk w3 D ∧ w3.ownsRow w.heap.size 53 3 (.slice (some ⟨g, 0, none⟩) f.len cap) f.len cs from ⟨grown_trans G2.out.1 hg3, hd3, own_far G2.out.2.2 hg3 hob⟩)
      clear hg3 hd3 G2 HX
      have hgs3 : g < w3.heap.size := by obtain ⟨cur, hh, _⟩ := row3 G3.out.2.2; exact lt_of_block hh
      have hw3 := G3.out.1.size
      obtain ⟨f1, t, v, kk, f2, cs1, Av, cv, Ak, ck, cs2, hf, hl1, hcs, hcs1, p1, hn0, sv, sk, p2⟩ := holds_split k HK.out.1 hk
      have HGs := HGD.out
      rw [hf] at HGs
      obtain ⟨gf1, ⟨u2, u5, u7, u8⟩⟩ := F.vb_inv HGs
      have hks : kk.size + f2.size + 1 ≤ f.size := by rw [hf, F.size_app]; simp only [F.size]; omega
      have HV := Lib.hid (show f = f1.app (.cons t v kk f2) ∧ f1.len = k ∧ HoldsN w p f1 cs1 ∧ HoldsN w p f2 cs2 ∧ f1.vb 2001 ∧ f2.vb 2001 ∧ (-9223372036854775808 ≤ t ∧ t ≤ 9223372036854775807) ∧ kk.vb 2001 from ⟨hf, hl1, p1, p2, F.vb_succ gf1, F.vb_succ u8, u2, F.vb_succ u7⟩)
      have HC := Lib.hid (show cs = cs1 ++ (.int .i64 t :: .slice Av v.length cv :: .slice Ak kk.len ck :: cs2) ∧ cs1.length = k * 3 from ⟨hcs, hcs1⟩)
      have HU := Lib.hid (show ((Av = none → cv = 0) ∧ v.length ≤ cv ∧ kk.len ≤ ck) ∧ SeesP w p Av (Us v) ∧ SeesN w p Ak kk ∧ kk.vb 2000 from ⟨hn0, sv, sk, u7⟩)
      have hset0 : ∀ u : Value, cs.set (k * 3 + 0) u = cs1 ++ (u :: .slice Av v.length cv :: .slice Ak kk.len ck :: cs2) := fun u => by rw [hcs, ← hcs1]; simp
      have hset1 : ∀ u : Value, cs.set (k * 3 + 1) u = cs1 ++ (.int .i64 t :: u :: .slice Ak kk.len ck :: cs2) := fun u => by rw [hcs, ← hcs1]; simp
      have hset2 : ∀ u : Value, cs.set (k * 3 + 2) u = cs1 ++ (.int .i64 t :: .slice Av v.length cv :: u :: cs2) := fun u => by rw [hcs, ← hcs1]; simp
      have HSE := Lib.hid (And.intro hset0 (And.intro hset1 hset2))
      clear hf hl1 hcs hcs1 p1 hn0 sv sk p2 HGs gf1 u2 u7 u8 hset0 hset1 hset2 HGD HK
      have HN := Lib.hid (show (Av = none → v = []) ∧ (∀ u, w.grownBy u (some D) → SeesP u p Av (Us v)) ∧ (∀ u, w.grownBy u (some D) → SeesN u p Ak kk) from ⟨fun e => by have h := HU.out.2.1; rw [e] at h; have := congrArg List.length h.none_nil; rw [Us_length] at this; exact List.eq_nil_of_length_eq_zero this,
        fun u hu => HU.out.2.1.keep fun q hq => grown_cell hu (HP.out _ hq).1 (HP.out _ hq).2, fun u hu => SeesN.keep HU.out.2.2.1 fun q hq => grown_cell hu (HP.out _ hq).1 (HP.out _ hq).2⟩)
      have hqs : q = 0 ∨ q = 1 ∨ q = 2 ∨ q = 3 ∨ q = 4 := by omega
      rcases hqs with rfl | rfl | rfl | rfl | rfl
      · have HX := Lib.hid (fun u (h : DiceOk u D) => dice_next D 9 u (by decide) (by decide) h)
        go_wp2_with fail
        refine (HX.out _ (G3.out.2.1.below ((Below.refl _ _).alloc (Nat.le_refl _) _))).mono ?_
        rintro e w4 ⟨r, hr, rfl, hg4, hd4⟩
        obtain ⟨z, hz, hzr⟩ := odd_tag hr
        have G4 := Lib.hid (show w.grownBy w4 (some D) ∧ DiceOk w4 D ∧ w4.ownsRow w.heap.size 53 3 (.slice (some ⟨g, 0, none⟩) f.len cap) f.len cs from ⟨grown_trans (grown_trans G3.out.1 (grown_alloc _ _ _)) hg4, hd4, own_far (G3.out.2.2.alloc _) hg4 hob⟩)
        have c4 : w4.cell? ⟨w3.heap.size, r, none⟩ = some (.int .i64 z) := (grown_cell hg4 (by simp) (by simp; omega)).trans ((cell_of_row _ w3.heap.size r _ _ (0, 0) (heap_alloc_new w3 _)).trans hzr)
        have t4 := (row3_at G4.out.2.2 HC.out.1 HC.out.2).1
        have z4 := row3_frozen G4.out.2.2 (k * 3)
        have HF := Lib.hid (odd_close (i := 0) HP.out HV.out.1 rfl HV.out.2.1 hDw hgw G4.out.2.2 HV.out.2.2.1 HV.out.2.2.2.1 G4.out.1 G4.out.2.1 (HSE.out.1 (.int .i64 z)) HU.out.1 ((HN.out.2.1 _ G4.out.1).imp fun b hb => .inl hb) ((HN.out.2.2 _ G4.out.1).imp fun b hb => .inl hb) HV.out.2.2.2.2.1 HV.out.2.2.2.2.2.1 hz (by omega) HV.out.2.2.2.2.2.2.2 (by omega))
        rw [Nat.add_zero] at HF
        clear hg4 hd4 hzr HX G4 G3 HN HU HC HSE HV
        go_wp2_with fail
        go_ret
        exact HF.out
      · have t3 := (row3_at G3.out.2.2 HC.out.1 HC.out.2).2.1
        go_wp2_with (first | (at_builtin; refine append_con rfl (.const (.slice none 0 0)) (.tmp 53) 25 rfl w3.heap.size 5 i1 (.int .u8 0) Try.underlying25 hi1 hy0 hy1 hy2 rfl (.slice none 0 0) 0 [] rfl (World.ownsRow_nil _ _ _ _) Av cv v rfl HU.out.1.1 HN.out.1 (HN.out.2.1 _ G3.out.1).src (by unfold maxLen; omega) (by omega) (Nat.le_refl _) ?_; intro v4 w4 ho4 hg4; rw [Nat.zero_add, List.nil_append] at ho4; have hsz4 := hg4.size) | (at_builtin; refine wpList_append_lies _ rfl (.tmp 54) (.tmp 55) 25 rfl w3.heap.size 5 i1 (.int .u8 0) 1 1 Try.underlying25 hi1 hy0 hy1 hy2 rfl (by decide) v4 v.length _ rfl (ho4.alloc _) ⟨_, 0, none⟩ 1 1 [.int .u8 7] rfl rfl (World.news_of_block (heap_alloc_new _ _)) (one_cell1 7) (by decide) (by unfold maxLen; omega) (by omega) (by simp; omega) _ rfl ?_; intro g5 cap5 w5 ho5 hg5 hl5 hlt5; have H5C := Lib.hid (own_le ho5); have G5 := Lib.hid (odd_val hDw hgs3 hob G3.out ho4 hg4 ho5 hg5 rfl); have t5 := (row3_at G5.out.2.2.1 HC.out.1 HC.out.2).2.1; have z5 := row3_frozen G5.out.2.2.1 (k * 3 + 1); clear t3 ho4 hg4 ho5 hg5))
        have HF := Lib.hid (odd_close (i := 1) (v' := v ++ [7]) HP.out HV.out.1 rfl HV.out.2.1 hDw hgw G5.out.2.2.1 HV.out.2.2.1 HV.out.2.2.2.1 G5.out.1 G5.out.2.1 (u := .slice (some ⟨g5, 0, none⟩) (v.length + 1) cap5) (by rw [List.length_append]; exact HSE.out.2.1 _) ⟨fun e => (by cases e), by rw [List.length_append]; exact H5C.out, HU.out.1.2.2⟩ (G5.out.2.2.2.imp fun b hb => .inr ⟨by have := hb.1; omega, hb.2.1, hb.2.2⟩) ((HN.out.2.2 _ G5.out.1).imp fun b hb => .inl hb) HV.out.2.2.2.2.1 HV.out.2.2.2.2.2.1 HV.out.2.2.2.2.2.2.1 (by simp; omega) HV.out.2.2.2.2.2.2.2 (by omega))
        clear G5 G3 HN HU HC HSE HV
        go_wp2_with fail
        go_ret
        exact HF.out
      · have t3 := (row3_at G3.out.2.2 HC.out.1 HC.out.2).2.2
        obtain ⟨ks, s1, k2⟩ := HN.out.2.2 _ G3.out.1
        have hkl : kk.len ≤ kk.size := kk.len_le_size
        have HKS := Lib.hid (show SeesP w3 p Ak ks ∧ HoldsN w3 p kk ks ∧ ks.length = kk.len * 3 ∧ (∀ u ∈ ks, u.oneCell' = true) from ⟨s1, k2, by rw [HoldsN.length k2]; omega, HoldsN.one k2⟩)
        clear s1 k2
        go_wp2_with (first | (at_builtin; refine append_nil_any rfl (.const (.slice none 0 0)) (.tmp 67) 33 rfl w3.heap.size 53 i0 _ 3 56 Try.underlying33 hi hz0 hz1 hz2 rfl (by decide) rfl Ak kk.len ck ks p rfl HKS.out.1 HKS.out.2.2.1 HKS.out.2.2.2 (by unfold maxLen; omega) (by omega) (Nat.le_refl _) ?_; intro v4 w4 ho4 hg4; have hsz4 := hg4.size) | (at_builtin; refine wpList_append_lies _ rfl (.tmp 68) (.tmp 70) 33 rfl w3.heap.size 53 i0 _ 3 56 Try.underlying33 hi hz0 hz1 hz2 rfl (by decide) v4 kk.len _ rfl (ho4.alloc _) ⟨_, 0, none⟩ 1 1 _ rfl rfl (World.news_of_block (heap_alloc_new _ _)) (node_cells _ _ _ _ _ _ _) (by decide) (by unfold maxLen; omega) (by omega) (by simp; omega) _ rfl ?_; intro g5 cap5 w5 ho5 hg5 hl5 hlt5; have H5C := Lib.hid (own_le ho5); have G5 := Lib.hid (odd_kid hDw hgs3 hob HP.out G3.out HKS.out.2.1 ho4 hg4 ho5 hg5); have t5 := (row3_at G5.out.2.2.1 HC.out.1 HC.out.2).2.2; have z5 := row3_frozen G5.out.2.2.1 (k * 3 + 2); clear t3 ho4 hg4 ho5 hg5))
        have HF := Lib.hid (odd_close (i := 2) (kk' := kk.app (.cons 4 [] .nil .nil)) HP.out HV.out.1 rfl HV.out.2.1 hDw hgw G5.out.2.2.1 HV.out.2.2.1 HV.out.2.2.2.1 G5.out.1 G5.out.2.1 (u := .slice (some ⟨g5, 0, none⟩) (kk.len + 1) cap5) (by rw [F.len_app]; exact HSE.out.2.2 _) ⟨HU.out.1.1, HU.out.1.2.1, by rw [F.len_app]; exact H5C.out⟩ ((HN.out.2.1 _ G5.out.1).imp fun b hb => .inl hb) (G5.out.2.2.2.imp fun b hb => hb.imp (fun h => h) fun h => ⟨by have := h.1; omega, h.2.1, h.2.2⟩) HV.out.2.2.2.2.1 HV.out.2.2.2.2.2.1 HV.out.2.2.2.2.2.2.1 (by omega) (F.vb_app HV.out.2.2.2.2.2.2.2 ⟨by decide, by simp, trivial, trivial⟩) (by rw [F.size_app]; simp [F.size]))
        clear G5 G3 HN HU HC HSE HV
        go_wp2_with fail
        go_ret
        exact HF.out
      all_goals
        have t3 := (row3_at G3.out.2.2 HC.out.1 HC.out.2).2.2
        have HI := Lib.hid (IH.out kk Ak ck D w3 p (by omega) HU.out.2.2.2 (fun b hb => ⟨by have := HP.out b hb; omega, (HP.out b hb).2⟩) (HN.out.2.2 _ G3.out.1) G3.out.2.1)
        go_wp2_with fail
        refine HI.out.mono ?_
        rintro e w4 ⟨f', A', c', rfl, hod, hlc, hfs, hsee, hg4, hd4⟩
        have G4 := Lib.hid (show w.grownBy w4 (some D) ∧ DiceOk w4 D ∧ w4.ownsRow w.heap.size 53 3 (.slice (some ⟨g, 0, none⟩) f.len cap) f.len cs from ⟨grown_trans G3.out.1 hg4, hd4, own_far G3.out.2.2 hg4 hob⟩)
        have t4 := (row3_at G4.out.2.2 HC.out.1 HC.out.2).2.2
        have z4 := row3_frozen G4.out.2.2 (k * 3 + 2)
        have HF := Lib.hid (odd_close (i := 2) (kk' := f') HP.out HV.out.1 rfl HV.out.2.1 hDw hgw G4.out.2.2 HV.out.2.2.1 HV.out.2.2.2.1 G4.out.1 G4.out.2.1 (HSE.out.2.2 (.slice A' f'.len c')) ⟨HU.out.1.1, HU.out.1.2.1, hlc⟩ ((HN.out.2.1 _ G4.out.1).imp fun b hb => .inl hb) (hsee.imp fun b hb => hb.imp (fun h => h) fun h => ⟨by have := h.1; omega, h.2, by have := h.1; omega⟩) HV.out.2.2.2.2.1 HV.out.2.2.2.2.2.1 HV.out.2.2.2.2.2.2.1 (by omega) hod hfs)
        clear hg4 hd4 hod hfs hsee G4 G3 HN HU HC HSE HV t3 HI
        go_wp2_with fail
        go_ret
        exact HF.out
end Go.Proofs.Ytobbnedojmcgoaa
