/-
  What is proved here: plain words for byte slices that lie in memory (what a slice reads as, that it is kept while other blocks are made and written), with no condition; nothing of the program is used.
-/
import Derived.WalkKit
import Derived.Deep.QuietTactic
import Derived.BigQuiet
import Derived.Lib.Hide
import Derived.Deep.RegionLaw
import Derived.Deep.AppendLies
namespace Go.Proofs.Ytobbnedojmcgoaa
open Go.RowKit

/-- a byte, and a list of bytes, as memory holds them -/
def U (c : UInt8) : Value := .int .u8 (c.toNat : Int)
def Us (l : List UInt8) : List Value := l.map U

theorem Us_length (l : List UInt8) : (Us l).length = l.length := by simp [Us]
theorem Us_get {l : List UInt8} {k : Nat} (h : k < l.length) : (Us l)[k]? = some (.int .u8 (l[k].toNat : Int)) := by
  simp [Us, U, h]
theorem Us_append (a b : List UInt8) : Us (a ++ b) = Us a ++ Us b := by simp [Us]
theorem Us_take (a : List UInt8) (k : Nat) : Us (a.take k) = (Us a).take k := by simp [Us, List.map_take]
theorem Us_drop (a : List UInt8) (k : Nat) : Us (a.drop k) = (Us a).drop k := by simp [Us, List.map_drop]
theorem Us_one (l : List UInt8) : ∀ u ∈ Us l, u.oneCell' = true := by
  intro u hu
  simp only [Us, List.mem_map] at hu
  obtain ⟨c, _, rfl⟩ := hu
  rfl

/-- behind the address A lie, below block B, the cells cs (nothing is said of A if there are none) -/
def Sees (w : World) (B : Nat) (A : Option Addr) (cs : List Value) : Prop :=
  cs = [] ∨ ∃ b off, A = some ⟨b, off, none⟩ ∧ b < B ∧ ∀ j, j < cs.length → w.cell? ⟨b, off + j, none⟩ = cs[j]?

section
variable {w w' : World} {B B' : Nat} {A : Option Addr} {cs : List Value}
theorem Sees.none_ : Sees w B A [] := .inl rfl
theorem Sees.at_ {k : Nat} (h : Sees w B A cs) (hk : k < cs.length) :
    ∃ b off, A = some ⟨b, off, none⟩ ∧ b < B ∧ ∀ j, j < cs.length → w.cell? ⟨b, off + j, none⟩ = cs[j]? := by
  rcases h with rfl | h
  · simp at hk
  · exact h
theorem Sees.keep (h : Sees w B A cs) (hk : ∀ p : Addr, p.block < B → w'.cell? p = w.cell? p) : Sees w' B A cs := by
  rcases h with h | ⟨b, off, e, hb, hc⟩
  · exact .inl h
  · exact .inr ⟨b, off, e, hb, fun j hj => (hk _ hb).trans (hc j hj)⟩
theorem Sees.more (h : Sees w B A cs) (hB : B ≤ B') : Sees w B' A cs := by
  rcases h with h | ⟨b, off, e, hb, hc⟩
  · exact .inl h
  · exact .inr ⟨b, off, e, by omega, hc⟩
theorem Sees.below (h : Sees w B A cs) (hb : Below B w w') : Sees w' B A cs := h.keep fun _ hp => hb.cell hp
theorem Sees.drewN (h : Sees w B A cs) (n : Nat) : Sees (w.drewN n) B A cs := h
theorem Sees.drew (h : Sees w B A cs) : Sees w.drew B A cs := h
theorem Sees.alloc (h : Sees w B A cs) (hB : B ≤ w.heap.size) (o : Obj) : Sees (w.alloc o) B A cs := h.keep fun p hp => World.cell?_alloc_lt w o p (by omega)
theorem Sees.take (h : Sees w B A cs) (k : Nat) : Sees w B A (cs.take k) := by
  rcases h with rfl | ⟨b, off, e, hb, hc⟩
  · exact .inl (by simp)
  · refine .inr ⟨b, off, e, hb, fun j hj => ?_⟩
    rw [List.length_take] at hj
    rw [hc j (by omega), List.getElem?_take, if_pos (by omega)]
theorem Sees.cut (h : Sees w B A cs) {k : Nat} (hk : k < cs.length) : Sees w B (A.map (·.add k)) (cs.drop k) := by
  obtain ⟨b, off, rfl, hb, hc⟩ := h.at_ (k := k) hk
  refine .inr ⟨b, off + k, ?_, hb, fun j hj => ?_⟩
  · simp only [Option.map_some, Option.some.injEq]
    unfold Addr.add; split <;> simp_all
  · rw [List.length_drop] at hj
    rw [Nat.add_assoc, hc _ (by omega), List.getElem?_drop]
theorem Sees.of_own {base : Nat} {e : TypeId} {n c : Nat} (h : w.ownsRow base e 1 (.slice A n c) n cs) : Sees w w.heap.size A cs := by
  obtain ⟨hl, h⟩ := h
  rcases h with ⟨_, rfl⟩ | ⟨g, cap, cur, hv, hg, hh, hn, hm, hs, ht⟩
  · exact .inl (List.eq_nil_of_length_eq_zero (by simpa using hl))
  · injection hv with hv
    refine .inr ⟨g, 0, hv, ?_, fun j hj => ?_⟩
    · rcases Nat.lt_or_ge g w.heap.size with h | h
      · exact h
      · rw [Array.getElem?_eq_none h] at hh; cases hh
    · rw [Nat.zero_add, cell_of_row w g j cur e (0, 0) hh, ← ht, List.getElem?_take, if_pos (by omega), Array.getElem?_toList]
end

/-- carried over a call that turned nothing that was there -/
theorem Sees.on {w w' : World} {A : Option Addr} {cs : List Value} (h : Sees w w.heap.size A cs) (hb : Below w.heap.size w w') : Sees w' w'.heap.size A cs := (h.below hb).more hb.size
theorem below_on {w w' w2 : World} (h : Below w.heap.size w w') (hb : Below w'.heap.size w' w2) : Below w.heap.size w w2 := h.trans (hb.mono h.size)

theorem below_drewN (B : Nat) (w : World) (n : Nat) : Below B w (w.drewN n) := ⟨rfl, rfl, rfl, Nat.le_refl _, fun _ _ => rfl⟩

/-- of the first n places those that p names hold f's bytes, the others 0 -/
def fillP (f : Nat → UInt8) (n : Nat) (p : Nat → Bool) : List UInt8 := (List.range n).map fun i => if p i then f i else 0
theorem fillP_length (f : Nat → UInt8) (n : Nat) (p : Nat → Bool) : (fillP f n p).length = n := by simp [fillP]
theorem fillP_none (f : Nat → UInt8) (n : Nat) : fillP f n (fun _ => false) = List.replicate n 0 := by
  apply List.ext_getElem <;> simp [fillP]
theorem fillP_set {f : Nat → UInt8} {n j : Nat} {p q : Nat → Bool} (hj : q j = true) (hq : ∀ i, i ≠ j → q i = p i) : (fillP f n p).set j (f j) = fillP f n q := by
  apply List.ext_getElem
  · simp [fillP]
  · intro i h1 h2
    rw [List.getElem_set]
    split
    · subst_vars; simp [fillP, hj]
    · rename_i h; simp [fillP, hq i (by omega)]
theorem fillP_all {f : Nat → UInt8} {n : Nat} {p : Nat → Bool} (h : ∀ i, i < n → p i = true) : fillP f n p = (List.range n).map f := by
  apply List.ext_getElem
  · simp [fillP]
  · intro i h1 h2
    have : i < n := by simpa [fillP] using h1
    simp [fillP, h i this]
theorem Us_set (l : List UInt8) (j : Nat) (v : UInt8) : (Us l).set j (U v) = Us (l.set j v) := by simp [Us, List.map_set]
theorem Us_zeros (n : Nat) : Us (List.replicate n 0) = List.replicate n (.int .u8 0) := by simp [Us, U]

/-- whether two lists of bytes are equal -/
def sameB (x y : List UInt8) : Bool := x == y
theorem sameB_true {x y : List UInt8} (h : x = y) : sameB x y = true := by simp [sameB, h]
theorem sameB_false {x y : List UInt8} (h : x ≠ y) : sameB x y = false := by simpa [sameB] using h

/-- what a call that hands back bytes and a code answers -/
def Gives (w : World) (bs : List UInt8) (er : Int) (e : Ending) (w' : World) : Prop :=
  ∃ A c, e = .returned (.tuple #[.slice A bs.length c, .int .i64 er]) ∧ Sees w' w'.heap.size A (Us bs) ∧ Below w.heap.size w w'

/-- append within the capacity onto a row of the call's own, as one step of a region whose order is open -/
theorem step_fits {P : Program} {ops : Array Oper} {o : Oper} {a : Act} {w : World} {K : Act → World → Prop} {Q : Exit → Act → World → Prop} {E : Prop}
    (hg : o.guard = none) (s x : Operand) (t : TypeId) (hop : o.op = Op.call { callee := Callee.builtin Builtin.append, args := #[s, x], argTypes := #[t, t] })
    (base : Nat) (e : TypeId) (i : TypeInfo) (size : Nat) (h1 : P.underlying t = some (.slice e)) (h2 : P.info? e = some i) (h4 : i.size = size)
    (g k cap : Nat) (xs : List Value) (hs : a.eval s = .slice (some ⟨g, 0, none⟩) k cap) (hown : w.ownsRow base e size (.slice (some ⟨g, 0, none⟩) k cap) k xs)
    (ad : Addr) (m c : Nat) (news : List Value) (hx : a.eval x = .slice (some ad) m c) (hn : news.length = m * size)
    (hc : ∀ j u, news[j]? = some u → w.cell? (ad.add j) = some u) (h1c : ∀ u ∈ news, u.oneCell' = true) (b1 : k + m ≤ cap)
    (hK : ∀ w', w'.ownsRow base e size (.slice (some ⟨g, 0, none⟩) (k + m) cap) (k + m) (xs ++ news) → w.grownBy w' (some g) → K (a.put o.dst (.slice (some ⟨g, 0, none⟩) (k + m) cap)) w') :
    if Region.wanted o (yielded ops a.tmps) = true then Oper.wp P o a w K Q else E := by
  have hw : Region.wanted o (yielded ops a.tmps) = true := by simp [Region.wanted, hg]
  rw [if_pos hw]
  obtain ⟨w', hrun, r1, r2⟩ := run_append_fits (P := P) w base t o.type e i size h1 h2 h4 g k cap xs hown ad m c news hn hc h1c b1
  unfold Oper.wp
  simp [execOp, hop, resolve, invoke, builtin, hs, hx, hrun, Result.andThen]
  exact hK w' r1 r2

theorem news_of_one (w : World) (u : Value) (t : TypeId) : ∀ j v, [u][j]? = some v → (w.alloc (.cells #[u] t)).cell? ((⟨w.heap.size, 0, none⟩ : Addr).add j) = some v :=
  World.news_of_block (heap_alloc_new w _)
theorem ownsRow_drewN {w : World} {base : Nat} {e : TypeId} {size : Nat} {v : Value} {n : Nat} {xs : List Value} (h : w.ownsRow base e size v n xs) (k : Nat) : (w.drewN k).ownsRow base e size v n xs := h
theorem below_dn {B : Nat} {a w : World} (h : Below B a w) (n : Nat) : Below B a (w.drewN n) := ⟨h.os, h.tape, h.output, h.size, h.block⟩

theorem own_form {w : World} {base : Nat} {e : TypeId} {v : Value} {n : Nat} {xs : List Value} (h : w.ownsRow base e 1 v n xs) : ∃ A c, v = .slice A n c := by
  rcases h.2 with ⟨rfl, rfl⟩ | ⟨g, cap, _, rfl, _⟩
  · exact ⟨none, 0, rfl⟩
  · exact ⟨_, cap, rfl⟩
theorem gives_own {w wr : World} {base : Nat} {e : TypeId} {v : Value} {n : Nat} {l : List UInt8} {er : Int} (h : wr.ownsRow base e 1 v n (Us l)) (hb : Below w.heap.size w wr) (hn : n = l.length) :
    Gives w l er (.returned (.tuple #[v, .int .i64 er])) wr := by
  obtain ⟨A, c, rfl⟩ := own_form h
  exact ⟨A, c, by rw [hn], Sees.of_own h, hb⟩
theorem Gives.drewN {w : World} {bs : List UInt8} {er : Int} {e : Ending} {w' : World} (h : Gives w bs er e w') (n : Nat) : Gives w bs er e (w'.drewN n) := by
  obtain ⟨A, c, he, hs, hb⟩ := h
  exact ⟨A, c, he, hs, below_dn hb n⟩

theorem own_new {w w' : World} {base : Nat} {e : TypeId} {size : Nat} {v : Value} {n : Nat} {xs : List Value} (h : w.ownsRow base e size v n xs) (hg : w.grownBy w' none) : w'.ownsRow base e size v n xs := by
  refine h.kept hg ?_
  rcases h.2 with ⟨rfl, _⟩ | ⟨g, cap, cur, rfl, _⟩
  · left; rfl
  · right; simp [Value.ownBlock]
theorem own_far {w w' : World} {base : Nat} {e : TypeId} {size : Nat} {v : Value} {n : Nat} {xs : List Value} {g : Nat} (h : w.ownsRow base e size v n xs) (hg : w.grownBy w' (some g)) (hne : v.ownBlock ≠ some g) : w'.ownsRow base e size v n xs :=
  h.kept hg (.inr hne)

theorem sees_src {w : World} {b o : Nat} {cs : List Value} (hc : ∀ j, j < cs.length → w.cell? ⟨b, o + j, none⟩ = cs[j]?) : ∀ j u, cs[j]? = some u → w.cell? ((⟨b, o, none⟩ : Addr).add j) = some u := by
  intro j u hu
  have hj := (List.getElem?_eq_some_iff.1 hu).1
  have hadd : (⟨b, o, none⟩ : Addr).add j = ⟨b, o + j, none⟩ := by unfold Addr.add; split <;> simp_all
  rw [hadd, hc j hj, hu]

/-- the byte at k of a slice that lies below block B, in a world that is as w was below B -/
theorem byte_at {w wr : World} {B : Nat} {A : Option Addr} {x : List UInt8} {k : Nat} (h : Sees w B A (Us x)) (hb : Below B w wr) (hk : k < x.length) :
    ∃ b off, A = some ⟨b, off, none⟩ ∧ wr.cell? ⟨b, off + k, none⟩ = some (.int .u8 (x[k].toNat : Int)) := by
  obtain ⟨b, off, e, hlt, hc⟩ := h.at_ (k := k) (by rw [Us_length]; exact hk)
  exact ⟨b, off, e, (hb.cell (p := ⟨b, off + k, none⟩) hlt).trans ((hc k (by rw [Us_length]; exact hk)).trans (Us_get hk))⟩

end Go.Proofs.Ytobbnedojmcgoaa
