/-
  What is proved here: what a slice of objects that came in reads as, where all that it leads to is small (the second form's bound); no other condition.
-/
import Derived.Test.YtipmmclahngabaaUpto
import Derived.Test.YtipmmclahngabaaFoQ
import Derived.Test.YtipmmclahngabaaChk
import Derived.Deep.Slices
namespace Go.Proofs.Ytipmmclahngabaa
open Go.ChangeShapes Go.WideShapes Go.ChangeAt Go.RowKit

theorem cells_node : Try.prog.cellsOf 32 = 3 := by kernel_rfl
theorem cells_int1 : Try.prog.cellsOf 3 = 1 := by kernel_rfl
theorem cells_u8s1 : Try.prog.cellsOf 27 = 1 := by kernel_rfl
theorem cells_nodes1 : Try.prog.cellsOf 24 = 1 := by kernel_rfl
theorem cell_lt {w : World} {a : Addr} {v : Value} (h : w.cell? a = some v) : a.block < w.heap.size := by
  rcases Nat.lt_or_ge a.block w.heap.size with g | g
  · exact g
  · unfold World.cell? at h
    rw [Array.getElem?_eq_none g] at h
    cases h

variable {H : Type} {enc : TypeId × Value → H} {W : World}

/-- one object's three cells -/
theorem open_node {n : Nat} {cs : List Value} {x : DataW H × List MemPlace} (h : DataW.trod enc Try.prog W 0 (fun _ => true) true n 32 cs = some x) :
    ∃ (m : Nat) (t : Int) (c1 c2 : Value) (d1 d2 : DataW H) (p1 p2 : List MemPlace), n = m + 1 ∧ cs = [.int .i64 t, c1, c2] ∧ x.1 = .agg [.lit (.int .i64 t), d1, d2] ∧ (Lit.int .i64 t).wf = true ∧
      DataW.trod enc Try.prog W 0 (fun _ => true) true m 27 [c1] = some (d1, p1) ∧ DataW.trod enc Try.prog W 0 (fun _ => true) true m 24 [c2] = some (d2, p2) := by
  obtain ⟨xs, m, hm, rfl, hl, hlen, hf⟩ := DataW.trod_struct Try.underlying32 h
  rw [cells_node] at hl
  obtain ⟨c0, c1, c2, rfl⟩ : ∃ a b c, cs = [a, b, c] := by
    match cs, hl with
    | [a, b, c], _ => exact ⟨a, b, c, rfl⟩
  obtain ⟨y0, y1, y2, rfl⟩ : ∃ a b c, xs = [a, b, c] := by
    match xs, hlen with
    | [a, b, c], _ => exact ⟨a, b, c, rfl⟩
  have h0 : DataW.trod enc Try.prog W 0 (fun _ => true) true m 3 (([c0, c1, c2].drop 0).take (Try.prog.cellsOf 3)) = some y0 := hf 0 _ rfl
  have h1 : DataW.trod enc Try.prog W 0 (fun _ => true) true m 27 (([c0, c1, c2].drop 1).take (Try.prog.cellsOf 27)) = some y1 := hf 1 _ rfl
  have h2 : DataW.trod enc Try.prog W 0 (fun _ => true) true m 24 (([c0, c1, c2].drop 2).take (Try.prog.cellsOf 24)) = some y2 := hf 2 _ rfl
  rw [cells_int1] at h0
  rw [cells_u8s1] at h1
  rw [cells_nodes1] at h2
  obtain ⟨t, e0, e1, wt⟩ := DataW.trod_int Try.underlying3 h0
  simp at e0
  subst e0
  refine ⟨m, t, c1, c2, y1.1, y2.1, y1.2, y2.2, hm, rfl, ?_, wt, by simpa using h1, by simpa using h2⟩
  have : y0 = (.lit (.int .i64 t), []) := by simpa using e1
  simp [this]

/-- the Value of an object -/
theorem open_value {m : Nat} {c1 : Value} {d1 : DataW H} {p1 : List MemPlace} (h : DataW.trod enc Try.prog W 0 (fun _ => true) true m 27 [c1] = some (d1, p1)) :
    ∃ (A : Option Addr) (v : List UInt8) (cap : Nat), c1 = .slice A v.length cap ∧ (A = none → cap = 0) ∧ v.length ≤ cap ∧ Sees W W.heap.size A (Us v) ∧ v.length ≤ Rows.uptoBulk d1 := by
  have lt : ∀ q ∈ p1, q.block < W.heap.size := DataW.trod_lt m _ _ _ h
  have key : ∀ A len cap, c1 = .slice A len cap → ∃ v : List UInt8, len = v.length ∧ Sees W W.heap.size A (Us v) ∧ len ≤ cap ∧ len ≤ Rows.uptoBulk d1 := by
    intro A len cap e
    subst e
    obtain ⟨v, h1, h2, h3, h4⟩ := open_u8s (A := A) (len := len) (cap := cap) (d := d1) (p := p1) ⟨m, h⟩ lt
    refine ⟨v, h1, h2, h3, ?_⟩
    rcases h4 with rfl | ⟨es, sp, rfl, h5⟩
    · omega
    · have := bulk_len es
      have := bulk_len sp
      simp only [Rows.uptoBulk]; omega
  rcases DataW.trod_slice Try.underlying27 h with ⟨e, _⟩ | ⟨a, len, cap, elems, rest, n, _, e, _⟩
  · simp at e
    obtain ⟨v, h1, h2, h3, h4⟩ := key _ _ _ e
    exact ⟨none, v, 0, by rw [e, h1], fun _ => rfl, by omega, h2, by omega⟩
  · simp at e
    obtain ⟨v, h1, h2, h3, h4⟩ := key _ _ _ e
    exact ⟨some a, v, cap, by rw [e, h1], (fun h => by cases h), by omega, h2, by omega⟩

theorem bulk_drop (l : List (DataW H)) (i : Nat) (h : i < l.length) : Rows.uptoBulkAll (l.drop i) = Rows.uptoBulk l[i] + Rows.uptoBulkAll (l.drop (i + 1)) := by
  rw [List.drop_eq_getElem_cons h]; rfl
theorem bulk_drop_le (l : List (DataW H)) (i : Nat) : Rows.uptoBulkAll (l.drop i) ≤ Rows.uptoBulkAll l := by
  induction l generalizing i with
  | nil => simp
  | cons x r ih =>
    cases i with
    | zero => simp
    | succ i => have := ih i; simp only [List.drop_succ_cons, Rows.uptoBulkAll]; omega

theorem open_nodes : ∀ (fuel : Nat) (A : Option Addr) (len cap : Nat) (d : DataW H) (p : List MemPlace), DataW.trod enc Try.prog W 0 (fun _ => true) true fuel 24 [.slice A len cap] = some (d, p) → Rows.uptoBulk d ≤ 1048576 →
    ∃ f : F, len = f.len ∧ SeesQ W (· < W.heap.size) A f ∧ f.ok ∧ f.size + 1 ≤ Rows.uptoBulk d := by
  intro fuel
  induction fuel using Nat.strongRecOn with
  | _ fuel ih =>
    intro A len cap d p h hB
    rcases DataW.trod_slice Try.underlying24 h with ⟨e, hx⟩ | ⟨a, len', cap', elems, rest, n, hn, e, hx, _, hlc, _, hel, hget, _, _⟩
    · simp at e
      obtain ⟨rfl, rfl, rfl⟩ := e
      simp only [Prod.mk.injEq] at hx
      obtain ⟨rfl, _⟩ := hx
      exact ⟨.nil, rfl, ⟨[], .inl rfl, rfl⟩, trivial, by simp [F.size, Rows.uptoBulk]⟩
    · simp at e
      obtain ⟨rfl, rfl, rfl⟩ := e
      simp only [Prod.mk.injEq] at hx
      obtain ⟨rfl, _⟩ := hx
      simp only [Rows.uptoBulk] at hB
      have claim : ∀ m, m ≤ len → ∃ (g : F) (cs : List Value), g.len = m ∧ cs.length = 3 * m ∧ (∀ j, j < 3 * m → W.cell? (a.add (3 * (len - m) + j)) = cs[j]?) ∧ HoldsQ W (· < W.heap.size) g cs ∧ g.ok ∧ g.size ≤ Rows.uptoBulkAll ((elems.map (·.1)).drop (len - m)) := by
        intro m
        induction m with
        | zero => intro _; exact ⟨.nil, [], rfl, rfl, fun j hj => by omega, rfl, trivial, by simp [F.size]⟩
        | succ m im =>
          intro hm
          obtain ⟨g, cs, g1, g2, g3, g4, g5, g6⟩ := im (by omega)
          have hi : len - (m + 1) < elems.length := by omega
          have hg := hget (len - (m + 1)) (by omega)
          rw [cells_node, List.getElem?_eq_getElem hi] at hg
          obtain ⟨c3, hc, ht⟩ := Option.bind_eq_some_iff.1 hg
          obtain ⟨_, hcl, hcc⟩ := World.cells?_some hc
          obtain ⟨k, t, c1, c2, d1, d2, p1, p2, hk, rfl, hy, wt, h1, h2⟩ := open_node ht
          obtain ⟨Av, v, cv, rfl, hv0, hvc, hvs, hvb⟩ := open_value h1
          have hlm : (elems.map (·.1)).length = elems.length := by simp
          have hbd := bulk_drop (elems.map (·.1)) (len - (m + 1)) (by rw [hlm]; exact hi)
          have hdl := bulk_drop_le (elems.map (·.1)) (len - (m + 1))
          have hge : (elems.map (·.1))[len - (m + 1)]'(by rw [hlm]; exact hi) = .agg [.lit (.int .i64 t), d1, d2] := by rw [List.getElem_map, hy]
          rw [hge] at hbd
          simp only [Rows.uptoBulk, Rows.uptoBulkAll] at hbd
          have hsucc : len - (m + 1) + 1 = len - m := by omega
          rw [hsucc] at hbd
          obtain ⟨Ak, kl, ck, rfl⟩ : ∃ Ak kl ck, c2 = .slice Ak kl ck := by
            rcases DataW.trod_slice Try.underlying24 h2 with ⟨e, _⟩ | ⟨a', l', c', _, _, _, _, e, _⟩
            · simp at e; exact ⟨_, _, _, e⟩
            · simp at e; exact ⟨_, _, _, e⟩
          obtain ⟨kf, rfl, ks, ko, kb⟩ := ih k (by omega) Ak kl ck d2 p2 h2 (by omega)
          obtain ⟨kcs, s1, s2⟩ := ks
          refine ⟨.cons t v kf g, .int .i64 t :: .slice Av v.length cv :: .slice Ak kf.len ck :: cs, by simp [F.len, g1], by simp [g2]; omega, ?_, ⟨Av, cv, Ak, ck, kcs, cs, rfl, ⟨hv0, fun _ => hvc⟩, hvs, s1, s2, g4⟩, ⟨?_, by omega, ko, g5⟩, by simp only [F.size]; omega⟩
          · intro j hj
            by_cases hj3 : j < 3
            · have := hcc j hj3
              rw [Go.Deep.add_add] at this
              rw [show 3 * (len - (m + 1)) + j = (len - (m + 1)) * 3 + j by omega, this]
              match j, hj3 with
              | 0, _ => rfl
              | 1, _ => rfl
              | 2, _ => rfl
            · obtain ⟨j', rfl⟩ : ∃ j', j = j' + 3 := ⟨j - 3, by omega⟩
              have := g3 j' (by omega)
              rw [show 3 * (len - (m + 1)) + (j' + 3) = 3 * (len - m) + j' by omega, this]
              rfl
          · simpa [Lit.wf, IntKind.min, IntKind.max, IntKind.signed, IntKind.bits] using wt
      obtain ⟨g, cs, g1, g2, g3, g4, g5, g6⟩ := claim len (Nat.le_refl _)
      rw [Nat.sub_self] at g3 g6
      refine ⟨g, g1.symm, ⟨cs, ?_, g4⟩, g5, by simp only [Rows.uptoBulk, List.drop_zero] at g6 ⊢; omega⟩
      rcases Nat.eq_zero_or_pos len with h0 | h0
      · left; exact List.eq_nil_of_length_eq_zero (by omega)
      · right
        have hc0 : ∃ v, W.cell? (a.add (3 * 0 + 0)) = some v := ⟨_, (g3 0 (by omega)).trans (List.getElem?_eq_getElem (by omega))⟩
        obtain ⟨v0, hv0⟩ := hc0
        have hspot : a.spot = none := by
          have := World.cell?_spot hv0
          simpa [Addr.add] using this
        have hlt := cell_lt hv0
        obtain ⟨b, off, spot⟩ := a
        have hspot : spot = none := hspot
        subst hspot
        refine ⟨b, off, rfl, by simpa [Addr.add] using hlt, fun j hj => ?_⟩
        have := g3 j (by omega)
        rw [← this]
        congr 1
        simp [Addr.add]

end Go.Proofs.Ytipmmclahngabaa
