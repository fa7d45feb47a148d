/-
  What is proved here: appends onto nil and onto a row of the call's own, with bytes that lie in memory or none; what a function that makes bytes answers. Nothing of the program is used.
-/
import Derived.Test.YtaikoeoabgkglaaDoorKit
import Derived.Test.YtaikoeoabgkglaaDoorFo
import Derived.Laws.AppendOwnNone
import Derived.Deep.AppendLies
namespace Go.Proofs.YtaikoeoabgkglaaDoor
open Go.RowKit
set_option linter.unusedVariables false

/-- an append of bytes that lie apart, or of none, onto a row of the call's own -/
theorem app_bytes {P : Program} {w : World} {ops : Array Oper} {rest : List Oper} {o : Oper} {a : Act} {Q : Exit → Act → World → Prop} (hgd : o.guard = none) (s x : Operand) (t : TypeId)
    (ho : o.op = .call { callee := .builtin .append, args := #[s, x], argTypes := #[t, t] })
    (base : Nat) (e : TypeId) (i : TypeInfo) (z : Value) (ht : P.underlying t = some (.slice e)) (hi : P.info? e = some i) (hz : i.zero = some z)
    (hsize : i.size = 1) (hby : i.bytes = 1) (hzs : z.cells.size = 1)
    (v : Value) (n : Nat) (xs : List Value) (hs : a.eval s = v) (hown : w.ownsRow base e 1 v n xs)
    (A : Option Addr) (c : Nat) (cb : List UInt8) (p : Nat → Prop) (hx : a.eval x = .slice A cb.length c) (hn : A = none → c = 0) (hc : SeesP w p A (Us cb))
    (h63 : n + cb.length ≤ maxLen) (hbytes : n + cb.length ≤ 140737488355328) (hbase : base ≤ w.heap.size)
    (h : ∀ v' w', w'.ownsRow base e 1 v' (n + cb.length) (xs ++ Us cb) → w.grownBy w' v.ownBlock → wpList P ops Q rest (a.put o.dst v') w') : wpList P ops Q (o :: rest) a w := by
  cases A with
  | none =>
    have h1 : cb = [] := by have := congrArg List.length hc.none_nil; rw [Us_length] at this; exact List.eq_nil_of_length_eq_zero this
    have h2 := hn rfl
    subst h1 h2
    exact wpList_append_own_none hgd s x t ho base e i 1 ht hi v n xs hs hown hx (h v w (by simpa [Us] using hown) (World.grownBy.refl _ _))
  | some ad =>
    exact wpList_append_own w hgd s x t ho base e i z 1 1 ht hi hz hsize hby hzs (by decide) v n xs hs hown ad cb.length c (Us cb) hx (by rw [Us_length]; omega) (hc.src ad rfl) (Us_one _) h63 (by omega) hbase fun v' w' h1 h2 _ => h v' w' h1 h2
/-- cells of one byte each, as a literal holds them -/
theorem lit_u8s {l : List Value} {xs : List UInt8} (h : l = Us xs) : ∀ u ∈ l, u.oneCell' = true := by rw [h]; exact Us_one xs
/-- bytes of the call's own: what a maker answers -/
def Mk (w : World) (l : List UInt8) (e : Ending) (w' : World) : Prop := ∃ A c, e = .returned (.slice A l.length c) ∧ l.length ≤ c ∧ (A = none → c = 0) ∧ SeesP w' (fun b => w.heap.size ≤ b ∧ b < w'.heap.size) A (Us l) ∧ Below w.heap.size w w'
theorem mk_own {w wr : World} {t : TypeId} {v : Value} {n : Nat} {l : List UInt8} (h : wr.ownsRow w.heap.size t 1 v n (Us l)) (hb : Below w.heap.size w wr) (hn : n = l.length) : Mk w l (.returned v) wr := by
  subst hn
  rcases h.2 with ⟨e, h0⟩ | ⟨g, cap, cur, e, hb2, hh, hn, hmx, hs, ht⟩
  · have : l = [] := List.eq_nil_of_length_eq_zero h0
    subst this
    exact ⟨none, 0, by rw [e]; rfl, by simp, fun _ => rfl, .inl rfl, hb⟩
  · refine ⟨some ⟨g, 0, none⟩, cap, by rw [e], hn, (fun e2 => by cases e2), Or.inr ⟨g, 0, rfl, ⟨hb2, (Array.getElem?_eq_some_iff.1 hh).1⟩, fun j hj => ?_⟩, hb⟩
    rw [Us_length] at hj
    rw [Nat.zero_add, cell_of_row wr g j cur _ (0, 0) hh, ← ht, List.getElem?_take, if_pos (by omega), Array.getElem?_toList]
theorem own_len {w : World} {base n : Nat} {e : TypeId} {v : Value} {xs : List Value} (h : w.ownsRow base e 1 v n xs) : ∃ A c, v = .slice A n c := by
  rcases h.2 with ⟨rfl, rfl⟩ | ⟨g, cap, cur, rfl, _⟩
  · exact ⟨none, 0, rfl⟩
  · exact ⟨_, cap, rfl⟩
/-- all that a row of the call's own grows by lies behind what was there -/
theorem below_own {w a b : World} {t : TypeId} {s : Nat} {v : Value} {n : Nat} {xs : List Value} (h : Below w.heap.size w a) (ho : a.ownsRow w.heap.size t s v n xs) (hg : a.grownBy b v.ownBlock) : Below w.heap.size w b :=
  h.grown hg h.size (fun k e => (ho.lt k e).1)
theorem below_own_alloc {w a b : World} {t : TypeId} {s : Nat} {v : Value} {n : Nat} {xs : List Value} {o : Obj} (h : Below w.heap.size w a) (ho : a.ownsRow w.heap.size t s v n xs) (hg : (a.alloc o).grownBy b v.ownBlock) : Below w.heap.size w b :=
  (h.alloc h.size o).grown hg (by have := h.size; simp; omega) (fun k e => (ho.lt k e).1)

end Go.Proofs.YtaikoeoabgkglaaDoor
