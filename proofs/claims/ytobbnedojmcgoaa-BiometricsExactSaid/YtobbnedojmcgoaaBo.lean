/-
  What is proved here: templates and objects that came in, as memory holds them; no bound but what a machine's memory has.
-/
import Derived.Test.YtobbnedojmcgoaaBl
import Derived.SizedLaws
import Derived.Deep.Slices
namespace Go.Proofs.Ytobbnedojmcgoaa
open Go.ChangeShapes Go.WideShapes Go.ChangeAt Go.RowKit
set_option linter.unusedVariables false
set_option linter.unusedSimpArgs false

theorem cells_tm7 : Try.prog.cellsOf 27 = 7 := by kernel_rfl
theorem bytes_tm7 : Try.prog.bytesOf 27 = 72 := by kernel_rfl
theorem cells_nod3 : Try.prog.cellsOf 53 = 3 := by kernel_rfl
theorem bytes_nod3 : Try.prog.bytesOf 53 = 56 := by kernel_rfl
theorem cells_int1 : Try.prog.cellsOf 3 = 1 := by kernel_rfl
theorem cells_u8s1 : Try.prog.cellsOf 25 = 1 := by kernel_rfl
theorem cells_nodes1 : Try.prog.cellsOf 33 = 1 := by kernel_rfl
theorem cell_lt {w : World} {a : Addr} {v : Value} (h : w.cell? a = some v) : a.block < w.heap.size := by
  rcases Nat.lt_or_ge a.block w.heap.size with g | g
  · exact g
  · unfold World.cell? at h
    rw [Array.getElem?_eq_none g] at h
    cases h
theorem list_of {α : Type} (d : α) : ∀ (n : Nat) (P : Nat → α → Prop), (∀ i, i < n → ∃ x, P i x) → ∃ L : List α, L.length = n ∧ ∀ i, i < n → P i (L.getD i d)
  | 0, _, _ => ⟨[], rfl, fun i h => by omega⟩
  | n + 1, P, h => by
    obtain ⟨L, h1, h2⟩ := list_of d n (fun i => P (i + 1)) (fun i hi => h (i + 1) (by omega))
    obtain ⟨x, hx⟩ := h 0 (by omega)
    refine ⟨x :: L, by simp [h1], fun i hi => ?_⟩
    rcases i with _ | i
    · exact hx
    · exact h2 i (by omega)
section
variable {H : Type} {enc : TypeId × Value → H} {W : World}
theorem weightsAll_mem (t : TypeId) : ∀ (ds : List (DataW H)) (d : DataW H), d ∈ ds → ∀ k ∈ d.weights Try.prog t, k ∈ DataW.weightsAll Try.prog t ds
  | x :: ds, d, h, k, hk => by
    show k ∈ x.weights Try.prog t ++ DataW.weightsAll Try.prog t ds
    rcases List.mem_cons.1 h with rfl | h
    · exact List.mem_append_left _ hk
    · exact List.mem_append_right _ (weightsAll_mem t ds d h k hk)
theorem reach_in {ts : List TypeId} {ds : List (DataW H)} (h : (DataW.weightsEach Try.prog ts ds).all (· ≤ reachBytes) = true) {j : Nat} {t : TypeId} {d : DataW H} (ht : ts[j]? = some t) (hd : ds[j]? = some d) : ∀ k ∈ d.weights Try.prog t, k ≤ reachBytes := fun k hk => by
  have := List.all_eq_true.1 h _ (DataW.weights_mem_each ht hd k hk)
  simpa using this
theorem weights_slice {t e : TypeId} (hu : Try.prog.underlying t = some (.slice e)) (es sp : List (DataW H)) : (DataW.slice es sp).weights Try.prog t = (es.length + sp.length) * Try.prog.bytesOf e :: (DataW.weightsAll Try.prog e es ++ DataW.weightsAll Try.prog e sp) := by
  simp only [DataW.weights, hu]
theorem weights_agg {t : TypeId} {fs : Array Field} (hu : Try.prog.underlying t = some (.struct fs)) (ps : List (DataW H)) : (DataW.agg ps).weights Try.prog t = DataW.weightsEach Try.prog (fs.toList.map (·.type)) ps := by
  simp only [DataW.weights, hu]
/-- a []byte within a value that came in -/
theorem open_bytes {m : Nat} {c1 : Value} {d1 : DataW H} {p1 : List MemPlace} (h : DataW.trod enc Try.prog W 0 (fun _ => true) true m 25 [c1] = some (d1, p1)) (hw : ∀ k ∈ d1.weights Try.prog 25, k ≤ reachBytes) :
    ∃ (A : Option Addr) (v : List UInt8) (cap : Nat), c1 = .slice A v.length cap ∧ ((A = none → cap = 0) ∧ v.length ≤ cap) ∧ SeesP W (· < W.heap.size) A (Us v) ∧ v.length ≤ 140737488351232 := by
  have lt : ∀ q ∈ p1, q.block < W.heap.size := DataW.trod_lt m _ _ _ h
  have key : ∀ A len cap, c1 = .slice A len cap → ∃ v : List UInt8, len = v.length ∧ SeesP W (· < W.heap.size) A (Us v) ∧ ((A = none → cap = 0) ∧ len ≤ cap) ∧ len ≤ 140737488351232 := by
    intro A len cap e
    subst e
    obtain ⟨v, h1, h2, h3, h4, h5⟩ := open_u8s (A := A) (len := len) (cap := cap) (d := d1) (p := p1) ⟨m, h⟩ lt
    refine ⟨v, h1, SeesP.iff_sees.2 h2, ⟨h4, h3⟩, ?_⟩
    rcases h5 with rfl | ⟨es, sp, rfl, h5⟩
    · omega
    · have := hw _ (by rw [weights_slice Try.underlying25]; exact List.mem_cons_self ..)
      rw [bytes_u8] at this
      simp only [reachBytes] at this
      omega
  rcases DataW.trod_slice Try.underlying25 h with ⟨e, _⟩ | ⟨a, len, cap, elems, rest, n, _, e, _⟩
  · simp at e
    obtain ⟨v, h1, h2, h3, h4⟩ := key _ _ _ e
    exact ⟨none, v, 0, by rw [e, h1], by rw [← h1]; exact h3, h2, by rw [← h1]; exact h4⟩
  · simp at e
    obtain ⟨v, h1, h2, h3, h4⟩ := key _ _ _ e
    exact ⟨some a, v, cap, by rw [e, h1], by rw [← h1]; exact h3, h2, by rw [← h1]; exact h4⟩
/-- one template's seven cells -/
theorem open_tm {n : Nat} {cs : List Value} {x : DataW H × List MemPlace} (h : DataW.trod enc Try.prog W 0 (fun _ => true) true n 27 cs = some x) (hw : ∀ k ∈ x.1.weights Try.prog 27, k ≤ reachBytes) :
    ∃ (y : Tm) (A : Option Addr) (cap : Nat), cs = y.cs A cap ∧ ((A = none → cap = 0) ∧ y.d.length ≤ cap) ∧ SeesP W (· < W.heap.size) A (Us y.d) ∧ y.d.length ≤ 140737488351232 := by
  obtain ⟨xs, m, hm, rfl, hl, hlen, hf⟩ := DataW.trod_struct Try.underlying27 h
  rw [cells_tm7] at hl
  obtain ⟨c0, c1, c2, c3, c4, c5, c6, rfl⟩ : ∃ a b c d e f g, cs = [a, b, c, d, e, f, g] := by
    match cs, hl with
    | [a, b, c, d, e, f, g], _ => exact ⟨a, b, c, d, e, f, g, rfl⟩
  obtain ⟨y0, y1, y2, y3, y4, y5, y6, rfl⟩ : ∃ a b c d e f g, xs = [a, b, c, d, e, f, g] := by
    match xs, hlen with
    | [a, b, c, d, e, f, g], _ => exact ⟨a, b, c, d, e, f, g, rfl⟩
  have h0 : DataW.trod enc Try.prog W 0 (fun _ => true) true m 3 (([c0, c1, c2, c3, c4, c5, c6].drop 0).take (Try.prog.cellsOf 3)) = some y0 := hf 0 _ rfl
  have h1 : DataW.trod enc Try.prog W 0 (fun _ => true) true m 3 (([c0, c1, c2, c3, c4, c5, c6].drop 1).take (Try.prog.cellsOf 3)) = some y1 := hf 1 _ rfl
  have h2 : DataW.trod enc Try.prog W 0 (fun _ => true) true m 3 (([c0, c1, c2, c3, c4, c5, c6].drop 2).take (Try.prog.cellsOf 3)) = some y2 := hf 2 _ rfl
  have h3 : DataW.trod enc Try.prog W 0 (fun _ => true) true m 3 (([c0, c1, c2, c3, c4, c5, c6].drop 3).take (Try.prog.cellsOf 3)) = some y3 := hf 3 _ rfl
  have h4 : DataW.trod enc Try.prog W 0 (fun _ => true) true m 3 (([c0, c1, c2, c3, c4, c5, c6].drop 4).take (Try.prog.cellsOf 3)) = some y4 := hf 4 _ rfl
  have h5 : DataW.trod enc Try.prog W 0 (fun _ => true) true m 3 (([c0, c1, c2, c3, c4, c5, c6].drop 5).take (Try.prog.cellsOf 3)) = some y5 := hf 5 _ rfl
  have h6 : DataW.trod enc Try.prog W 0 (fun _ => true) true m 25 (([c0, c1, c2, c3, c4, c5, c6].drop 6).take (Try.prog.cellsOf 25)) = some y6 := hf 6 _ rfl
  rw [cells_int1] at h0 h1 h2 h3 h4 h5
  rw [cells_u8s1] at h6
  obtain ⟨t0, e0, _, _⟩ := DataW.trod_int Try.underlying3 h0
  obtain ⟨t1, e1, _, _⟩ := DataW.trod_int Try.underlying3 h1
  obtain ⟨t2, e2, _, _⟩ := DataW.trod_int Try.underlying3 h2
  obtain ⟨t3, e3, _, _⟩ := DataW.trod_int Try.underlying3 h3
  obtain ⟨t4, e4, _, _⟩ := DataW.trod_int Try.underlying3 h4
  obtain ⟨t5, e5, _, _⟩ := DataW.trod_int Try.underlying3 h5
  simp at e0 e1 e2 e3 e4 e5
  subst e0; subst e1; subst e2; subst e3; subst e4; subst e5
  have hw6 : ∀ k ∈ y6.1.weights Try.prog 25, k ≤ reachBytes := fun k hk => hw k (by
    rw [weights_agg Try.underlying27]
    exact DataW.weights_mem_each (j := 6) rfl rfl k hk)
  obtain ⟨A, v, cap, rfl, h7, h8, h9⟩ := open_bytes (d1 := y6.1) (p1 := y6.2) (by simpa using h6) hw6
  exact ⟨⟨t0, t1, t2, t3, t4, t5, v⟩, A, cap, rfl, h7, h8, h9⟩
theorem open_tms {A : Option Addr} {len cap : Nat} {d : DataW H} {p : List MemPlace} (hf : DataW.Trod enc Try.prog W 0 (fun _ => true) true 22 (.slice A len cap) d p) (hw : ∀ k ∈ d.weights Try.prog 22, k ≤ reachBytes) :
    ∃ L : List Tm, len = L.length ∧ SeesT W (· < W.heap.size) A L ∧ L.length ≤ 2000000000000 := by
  obtain ⟨fuel, hf⟩ := hf
  rcases DataW.trod_slice Try.underlying22 hf with ⟨hcs, _⟩ | ⟨a, l, c, elems, rest, n, _, hcs, hx, _, hl, hm, hlen, hel, hsp, _⟩
  · simp [Value.cells] at hcs
    obtain ⟨rfl, rfl, rfl⟩ := hcs
    exact ⟨[], rfl, SeesT.nil_, Nat.zero_le _⟩
  · simp [Value.cells] at hcs
    obtain ⟨rfl, rfl, rfl⟩ := hcs
    simp only [Prod.mk.injEq] at hx
    obtain ⟨rfl, hp⟩ := hx
    rw [weights_slice Try.underlying22] at hw
    have h72 := hw _ (List.mem_cons_self ..)
    rw [bytes_tm7] at h72
    simp only [reachBytes, List.length_map] at h72
    have hrow : ∀ i, i < len → ∃ y : Tm, ∃ A' c', ((A' = none → c' = 0) ∧ y.d.length ≤ c') ∧ SeesP W (· < W.heap.size) A' (Us y.d) ∧ ∀ j, j < 7 → W.cell? (a.add (i * 7 + j)) = (y.cs A' c')[j]? := fun i hi => by
      have hie : i < elems.length := by omega
      have h1 := hel i hi
      rw [cells_tm7, List.getElem?_eq_getElem hie, Option.bind_eq_some_iff] at h1
      obtain ⟨cs', hc1, hc2⟩ := h1
      obtain ⟨y, A', c', rfl, h2, h3, h4⟩ := open_tm hc2 (fun k hk => hw k (List.mem_cons_of_mem _ (List.mem_append_left _ (weightsAll_mem _ _ _ (List.mem_map.2 ⟨elems[i], List.getElem_mem hie, rfl⟩) k hk))))
      obtain ⟨_, _, hcc⟩ := World.cells?_some hc1
      refine ⟨y, A', c', h2, h3, fun j hj => ?_⟩
      have := hcc j hj
      rwa [Go.Deep.add_add] at this
    obtain ⟨L, hL1, hL2⟩ := list_of (default : Tm) len _ hrow
    refine ⟨L, hL1.symm, ?_, by rw [hL1]; omega⟩
    rcases Nat.eq_zero_or_pos len with h0 | h0
    · have : L = [] := List.eq_nil_of_length_eq_zero (by omega)
      subst this
      exact SeesT.nil_
    · obtain ⟨A0, c0, _, _, hcell⟩ := hL2 0 h0
      have hc0 := (hcell 0 (by decide)).trans (rfl : _ = some (Value.int .i64 (L.getD 0 default).k))
      have hspot : a.spot = none := by
        have := World.cell?_spot hc0
        simpa [Addr.add] using this
      have hlt := cell_lt hc0
      obtain ⟨b, off, spot⟩ := a
      have hspot : spot = none := hspot
      subst hspot
      have hadd : ∀ j, (⟨b, off, none⟩ : Addr).add j = ⟨b, off + j, none⟩ := fun j => by unfold Addr.add; split <;> simp_all
      rw [hadd] at hlt
      refine ⟨(List.range (7 * len)).map fun i => (W.cell? ⟨b, off + i, none⟩).getD undef, .inr ⟨b, off, rfl, hlt, fun j hj => ?_⟩, by simp [hL1], fun k x hx => ?_⟩
      · have hj' : j < 7 * len := by simpa using hj
        obtain ⟨A', c', _, _, h5⟩ := hL2 (j / 7) (by omega)
        have h6 := h5 (j % 7) (Nat.mod_lt _ (by decide))
        rw [hadd, show j / 7 * 7 + j % 7 = j by omega] at h6
        rw [List.getElem?_map, List.getElem?_range hj', h6]
        obtain ⟨u, hu⟩ : ∃ u, ((L.getD (j / 7) default).cs A' c')[j % 7]? = some u := ⟨_, List.getElem?_eq_getElem (by rw [Tm.cs_len]; exact Nat.mod_lt _ (by decide))⟩
        rw [hu]
        rw [hu] at h6
        simp [h6]
      · have hk : k < len := by rw [← hL1]; exact (List.getElem?_eq_some_iff.1 hx).1
        obtain ⟨A', c', h3, h4, h5⟩ := hL2 k hk
        have er : L.getD k default = x := by simp [List.getD, hx]
        rw [er] at h3 h4 h5
        refine ⟨A', c', h3, h4, fun j hj => ?_⟩
        have h6 := h5 j hj
        rw [hadd] at h6
        rw [List.getElem?_map, List.getElem?_range (by omega), Option.map_some, h6]
        obtain ⟨u, hu⟩ : ∃ u, (x.cs A' c')[j]? = some u := ⟨_, List.getElem?_eq_getElem hj⟩
        rw [hu]
        rfl
/-- one object's three cells -/
theorem open_node {n : Nat} {cs : List Value} {x : DataW H × List MemPlace} (h : DataW.trod enc Try.prog W 0 (fun _ => true) true n 53 cs = some x) (hw : ∀ k ∈ x.1.weights Try.prog 53, k ≤ reachBytes) :
    ∃ (m : Nat) (t : Int) (c1 c2 : Value) (d1 d2 : DataW H) (p1 p2 : List MemPlace), n = m + 1 ∧ cs = [.int .i64 t, c1, c2] ∧ (Lit.int .i64 t).wf = true ∧
      DataW.trod enc Try.prog W 0 (fun _ => true) true m 25 [c1] = some (d1, p1) ∧ DataW.trod enc Try.prog W 0 (fun _ => true) true m 33 [c2] = some (d2, p2) ∧
      (∀ k ∈ d1.weights Try.prog 25, k ≤ reachBytes) ∧ ∀ k ∈ d2.weights Try.prog 33, k ≤ reachBytes := by
  obtain ⟨xs, m, hm, rfl, hl, hlen, hf⟩ := DataW.trod_struct Try.underlying53 h
  rw [cells_nod3] at hl
  obtain ⟨c0, c1, c2, rfl⟩ : ∃ a b c, cs = [a, b, c] := by
    match cs, hl with
    | [a, b, c], _ => exact ⟨a, b, c, rfl⟩
  obtain ⟨y0, y1, y2, rfl⟩ : ∃ a b c, xs = [a, b, c] := by
    match xs, hlen with
    | [a, b, c], _ => exact ⟨a, b, c, rfl⟩
  have h0 : DataW.trod enc Try.prog W 0 (fun _ => true) true m 3 (([c0, c1, c2].drop 0).take (Try.prog.cellsOf 3)) = some y0 := hf 0 _ rfl
  have h1 : DataW.trod enc Try.prog W 0 (fun _ => true) true m 25 (([c0, c1, c2].drop 1).take (Try.prog.cellsOf 25)) = some y1 := hf 1 _ rfl
  have h2 : DataW.trod enc Try.prog W 0 (fun _ => true) true m 33 (([c0, c1, c2].drop 2).take (Try.prog.cellsOf 33)) = some y2 := hf 2 _ rfl
  rw [cells_int1] at h0
  rw [cells_u8s1] at h1
  rw [cells_nodes1] at h2
  obtain ⟨t, e0, e1, wt⟩ := DataW.trod_int Try.underlying3 h0
  simp at e0
  subst e0
  have hwe := hw
  rw [weights_agg Try.underlying53] at hwe
  exact ⟨m, t, c1, c2, y1.1, y2.1, y1.2, y2.2, hm, rfl, wt, by simpa using h1, by simpa using h2, fun k hk => hwe k (DataW.weights_mem_each (j := 1) rfl rfl k hk), fun k hk => hwe k (DataW.weights_mem_each (j := 2) rfl rfl k hk)⟩
theorem open_nodes : ∀ (fuel : Nat) (A : Option Addr) (len cap : Nat) (d : DataW H) (p : List MemPlace), DataW.trod enc Try.prog W 0 (fun _ => true) true fuel 33 [.slice A len cap] = some (d, p) → (∀ k ∈ d.weights Try.prog 33, k ≤ reachBytes) →
    ∃ f : F, len = f.len ∧ len ≤ cap ∧ SeesN W (· < W.heap.size) A f ∧ f.ok ∧ len ≤ 140737488351232 ∧ f.k0 ≤ 140737488351232 := by
  intro fuel
  induction fuel using Nat.strongRecOn with
  | _ fuel ih =>
    intro A len cap d p h hw
    rcases DataW.trod_slice Try.underlying33 h with ⟨e, hx⟩ | ⟨a, len', cap', elems, rest, n, hn, e, hx, _, hlc, _, hel, hget, _, _⟩
    · simp at e
      obtain ⟨rfl, rfl, rfl⟩ := e
      exact ⟨.nil, rfl, Nat.le_refl _, SeesN.nil_, trivial, Nat.zero_le _, Nat.zero_le _⟩
    · simp at e
      obtain ⟨rfl, rfl, rfl⟩ := e
      simp only [Prod.mk.injEq] at hx
      obtain ⟨rfl, _⟩ := hx
      rw [weights_slice Try.underlying33] at hw
      have h56 := hw _ (List.mem_cons_self ..)
      rw [bytes_nod3] at h56
      simp only [reachBytes, List.length_map] at h56
      have claim : ∀ m, m ≤ len → ∃ (g : F) (cs : List Value), g.len = m ∧ cs.length = 3 * m ∧ (∀ j, j < 3 * m → W.cell? (a.add (3 * (len - m) + j)) = cs[j]?) ∧ HoldsN W (· < W.heap.size) g cs ∧ g.ok ∧ g.k0 ≤ 140737488351232 := by
        intro m
        induction m with
        | zero => intro _; exact ⟨.nil, [], rfl, rfl, fun j hj => by omega, rfl, trivial, Nat.zero_le _⟩
        | succ m im =>
          intro hm
          obtain ⟨g, cs, g1, g2, g3, g4, g5, g6⟩ := im (by omega)
          have hi : len - (m + 1) < elems.length := by omega
          have hg := hget (len - (m + 1)) (by omega)
          rw [cells_nod3, List.getElem?_eq_getElem hi] at hg
          obtain ⟨c3, hc, ht⟩ := Option.bind_eq_some_iff.1 hg
          obtain ⟨_, hcl, hcc⟩ := World.cells?_some hc
          obtain ⟨k, t, c1, c2, d1, d2, p1, p2, hk, rfl, wt, h1, h2, w1, w2⟩ := open_node ht (fun k hk => hw k (List.mem_cons_of_mem _ (List.mem_append_left _ (weightsAll_mem _ _ _ (List.mem_map.2 ⟨elems[len - (m + 1)], List.getElem_mem hi, rfl⟩) k hk))))
          obtain ⟨Av, v, cv, rfl, hv0, hvs, hvb⟩ := open_bytes h1 w1
          obtain ⟨Ak, kl, ck, rfl⟩ : ∃ Ak kl ck, c2 = .slice Ak kl ck := by
            rcases DataW.trod_slice Try.underlying33 h2 with ⟨e, _⟩ | ⟨a', l', c', _, _, _, _, e, _⟩
            · simp at e; exact ⟨_, _, _, e⟩
            · simp at e; exact ⟨_, _, _, e⟩
          obtain ⟨kf, rfl, kc, ks, ko, kb, _⟩ := ih k (by omega) Ak kl ck d2 p2 h2 w2
          obtain ⟨kcs, s1, s2⟩ := ks
          refine ⟨.cons t v kf g, .int .i64 t :: .slice Av v.length cv :: .slice Ak kf.len ck :: cs, by simp [F.len, g1], by simp [g2]; omega, ?_, ⟨Av, cv, Ak, ck, kcs, cs, rfl, ⟨hv0.1, hv0.2, kc⟩, hvs, s1, s2, g4⟩, ⟨?_, hvb, ko, g5⟩, kb⟩
          · intro j hj
            by_cases hj3 : j < 3
            · have := hcc j hj3
              rw [Go.Deep.add_add] at this
              rw [show 3 * (len - (m + 1)) + j = (len - (m + 1)) * 3 + j by omega, this]
              match j, hj3 with
              | 0, _ => rfl
              | 1, _ => rfl
              | 2, _ => rfl
            · obtain ⟨j', rfl⟩ : ∃ j', j = j' + 3 := ⟨j - 3, by omega⟩
              have := g3 j' (by omega)
              rw [show 3 * (len - (m + 1)) + (j' + 3) = 3 * (len - m) + j' by omega, this]
              rfl
          · simpa [Lit.wf, IntKind.min, IntKind.max, IntKind.signed, IntKind.bits] using wt
      obtain ⟨g, cs, g1, g2, g3, g4, g5, g6⟩ := claim len (Nat.le_refl _)
      rw [Nat.sub_self] at g3
      refine ⟨g, g1.symm, hlc, ⟨cs, ?_, g4⟩, g5, by omega, g6⟩
      rcases Nat.eq_zero_or_pos len with h0 | h0
      · left; exact List.eq_nil_of_length_eq_zero (by omega)
      · right
        have hc0 : ∃ v, W.cell? (a.add (3 * 0 + 0)) = some v := ⟨_, (g3 0 (by omega)).trans (List.getElem?_eq_getElem (by omega))⟩
        obtain ⟨v0, hv0⟩ := hc0
        have hspot : a.spot = none := by
          have := World.cell?_spot hv0
          simpa [Addr.add] using this
        have hlt := cell_lt hv0
        obtain ⟨b, off, spot⟩ := a
        have hspot : spot = none := hspot
        subst hspot
        refine ⟨b, off, rfl, by simpa [Addr.add] using hlt, fun j hj => ?_⟩
        have := g3 j (by omega)
        rw [← this]
        congr 1
        simp [Addr.add]
end
end Go.Proofs.Ytobbnedojmcgoaa
