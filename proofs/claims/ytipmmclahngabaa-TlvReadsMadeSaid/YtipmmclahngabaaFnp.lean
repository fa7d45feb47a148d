/-
  What is proved here: what the program's Find returns, for objects and a path that lie in memory.
-/
import Derived.Test.YtipmmclahngabaaFnr
import Derived.Test.YtipmmclahngabaaClw
import Derived.Test.YtipmmclahngabaaShl
namespace Go.Proofs.Ytipmmclahngabaa
open Go.RowKit
set_option linter.unusedVariables false

/-- as FindIs, wherever in memory the object's parts lie -/
def FindW (w : World) (o : Option (Int × List UInt8 × F)) (e : Ending) (w' : World) : Prop :=
  ((o = none ∧ e = .returned (.tuple #[zeroV, .bool false])) ∨
   ∃ t v k Av cv Ak ck, o = some (t, v, k) ∧ e = .returned (.tuple #[nodeV t Av v.length cv Ak k.len ck, .bool true]) ∧ (Av = none → cv = 0) ∧ SeesP w' (· < w'.heap.size) Av (Us v) ∧ SeesF w' (· < w'.heap.size) Ak k) ∧ Below w.heap.size w w'
theorem FindIs.wide {w w' : World} {p : Nat → Prop} {o : Option (Int × List UInt8 × F)} {e : Ending} (h : FindIs w p o e w') (hp : ∀ b, p b → b < w.heap.size) : FindW w o e w' := by
  obtain ⟨hor, hb⟩ := h
  have hs := hb.size
  rcases hor with h | ⟨t, v, k, Av, cv, Ak, ck, h1, h2, h3, h4, h5⟩
  · exact ⟨.inl h, hb⟩
  · exact ⟨.inr ⟨t, v, k, Av, cv, Ak, ck, h1, h2, h3, h4.imp fun b hb => Nat.lt_of_lt_of_le (hp b hb) hs, h5.imp fun b hb => Nat.lt_of_lt_of_le (hp b hb) hs⟩, hb⟩
theorem findw_none {w w' : World} {o : Option (Int × List UInt8 × F)} (h : o = none) (hb : Below w.heap.size w w') : FindW w o (.returned (.tuple #[.agg #[.int .i64 0, .slice none 0 0, .slice none 0 0], .bool false])) w' :=
  ⟨.inl ⟨h, rfl⟩, hb⟩

theorem at_cons_none {x : Int} {f : F} {ps : List Int} (h : F.fst x f = none) : F.at f (x :: ps) = none := by rw [F.at, h]
theorem at_cons_some {x t : Int} {f k : F} {v : List UInt8} {j : Nat} {ps : List Int} (h : F.fst x f = some (j, t, v, k)) : F.at f (x :: ps) = if ps = [] then some (t, v, k) else F.at k ps := by rw [F.at, h]
theorem fstI_none {x : Int} {f : F} (h : F.fst x f = none) : fstI x f 0 = -1 := by unfold fstI; rw [h]
theorem fstI_some {x t : Int} {f k : F} {v : List UInt8} {j : Nat} (h : F.fst x f = some (j, t, v, k)) : fstI x f 0 = (j : Int) := by unfold fstI; rw [h]; simp
theorem fst_holds {w : World} {p : Nat → Prop} {x : Int} : ∀ {g : F} {cs : List Value} {j : Nat} {t : Int} {v : List UInt8} {k : F}, HoldsP w p g cs → F.fst x g = some (j, t, v, k) →
    (∃ r, HoldsP w p (.cons t v k r) (cs.drop (3 * j))) ∧ j < g.len ∧ (g.ok → k.ok ∧ v.length ≤ 140737488351232) ∧ k.size ≤ g.size ∧ (∀ d, g.dep ≤ d + 1 → k.dep ≤ d)
  | .nil, _, _, _, _, _, _, h => by simp [F.fst] at h
  | .cons t0 v0 k0 r0, cs, j, t, v, k, hh, h => by
    by_cases e : t0 = x
    · rw [fst_hit e] at h
      simp only [Option.some.injEq, Prod.mk.injEq] at h
      obtain ⟨rfl, rfl, rfl, rfl⟩ := h
      exact ⟨⟨r0, by simpa using hh⟩, by simp [F.len], fun ho => ⟨ho.2.2.1, ho.2.1⟩, by simp only [F.size]; omega, fun d hd => by simp only [F.dep] at hd; omega⟩
    · rw [fst_miss e] at h
      simp only [Option.map_eq_some_iff] at h
      obtain ⟨⟨j', t', v', k'⟩, h1, h2⟩ := h
      simp only [Prod.mk.injEq] at h2
      obtain ⟨rfl, rfl, rfl, rfl⟩ := h2
      obtain ⟨Av, cv, Ak, ck, ks, cs', ec, h0, s1, s2, s3, s4⟩ := hh
      obtain ⟨⟨r, hr⟩, q1, q2, q3, q4⟩ := fst_holds s4 h1
      refine ⟨⟨r, ?_⟩, by simp only [F.len]; omega, fun ho => q2 ho.2.2.2, by simp only [F.size]; omega, fun d hd => q4 d (by simp only [F.dep] at hd; omega)⟩
      rw [ec, show 3 * (j' + 1) = 3 * j' + 3 by omega]
      simpa [List.drop_succ_cons] using hr

/-- what the loop keeps: the place in the path (D: how many of its numbers lie behind), the objects to look at -/
def FpRel (w : World) (p : Nat → Prop) (f : F) (path : List Int) (Ag : Option Addr) (g : F) (cg : Nat) (i : Nat) (wr : World) : Prop :=
  Below w.heap.size w wr ∧ ZeroN wr w.heap.size ∧ SeesF w p Ag g ∧ g.ok ∧ g.size ≤ f.size ∧ g.dep ≤ f.dep ∧ i ≤ path.length ∧
  (∃ (t : Int) (Av : Option Addr) (lv cv : Nat) (Af : Option Addr) (lf cf : Nat), wr.heap[w.heap.size + 1]? = some (.cells #[.int .i64 t, .slice Av lv cv, .slice Af lf cf] 32 (0, 0)) ∧
    ((i = 0 ∧ g = f) ∨ (0 < i ∧ ∃ v, lv = v.length ∧ Af = Ag ∧ lf = g.len ∧ SeesP w p Av (Us v) ∧ v.length ≤ 140737488351232 ∧ F.at f path = if path.drop i = [] then some (t, v, g) else F.at g (path.drop i))))
theorem FpRel.here {w wr : World} {p : Nat → Prop} {f g : F} {path : List Int} {Ag : Option Addr} {cg i : Nat} (h : FpRel w p f path Ag g cg i wr) (hi : i < path.length) : F.at f path = F.at g (path.drop i) := by
  obtain ⟨_, _, _, _, _, _, _, t, Av, lv, cv, Af, lf, cf, _, h | ⟨_, v, _, _, _, _, _, h⟩⟩ := h
  · obtain ⟨rfl, rfl⟩ := h; simp
  · rw [h, if_neg]; intro e
    have := congrArg List.length e
    simp at this; omega

/-- one number of the path more -/
theorem FpRel.next {w wr w3 : World} {p : Nat → Prop} {f g k : F} {path : List Int} {Ag Ak : Option Addr} {cg ck i j cv : Nat} {x t : Int} {v : List UInt8} {Av : Option Addr} (h : FpRel w p f path Ag g cg i wr) (hi : i < path.length) (hx : path[i] = x)
    (hf : F.fst x g = some (j, t, v, k)) (hb : Below wr.heap.size wr w3) (hv : SeesP w p Av (Us v)) (hvl : v.length ≤ 140737488351232) (hk : SeesF w p Ak k) (hko : k.ok) (hks : k.size ≤ f.size) (hkd : k.dep ≤ f.dep) :
    FpRel w p f path Ak k ck (i + 1) (((w3.setCell ⟨w.heap.size + 1, 0, none⟩ (.int .i64 t)).setCell ⟨w.heap.size + 1, 1, none⟩ (.slice Av v.length cv)).setCell ⟨w.heap.size + 1, 2, none⟩ (.slice Ak k.len ck)) := by
  have hat := h.here hi
  obtain ⟨h1, h2, h3, h4, h5, h6, h7, t0, Av0, lv0, cv0, Af0, lf0, cf0, h8, _⟩ := h
  have n1 := lt_of_block h2
  have n2 := lt_of_block h8
  have hb3 := below_on h1 hb
  have e8 := (hb.block _ n2).trans h8
  refine ⟨below_set hb3 (by omega) _ _ _, ?_, hk, hko, hks, hkd, by omega, t, Av, v.length, cv, Ak, k.len, ck, ?_, .inr ⟨by omega, v, rfl, rfl, rfl, hv, hvl, ?_⟩⟩
  · unfold ZeroN
    rw [Below.heap_setCell _ _ _ _ (by simp), Below.heap_setCell _ _ _ _ (by simp), Below.heap_setCell _ _ _ _ (by simp)]
    exact (hb.block _ n1).trans h2
  · have := block_set (block_set (block_set e8 (i := 0) (.int .i64 t)) (i := 1) (.slice Av v.length cv)) (i := 2) (.slice Ak k.len ck)
    simpa using this
  · have hd : path.drop i = x :: path.drop (i + 1) := by rw [List.drop_eq_getElem_cons hi, hx]
    rw [hat, hd, at_cons_some hf]

set_option maxRecDepth 20000 in
set_option maxHeartbeats 4000000 in
theorem tlv_find (path : List Int) (f : F) (A Ap : Option Addr) (c cp : Nat) (w : World) (p q : Nat → Prop) (hok : f.ok) (hsz : f.size ≤ 1048576) (hd : f.dep ≤ 65536) (hlp : path.length ≤ 140737488351232) (hp : ∀ b, p b → b < w.heap.size) (hq : ∀ b, q b → b < w.heap.size)
    (hs : SeesF w p A f) (hps : SeesP w q Ap (path.map (Value.int .i64))) :
    Calls Try.prog 19 #[.slice A f.len c, .slice Ap path.length cp] w (FindW w (F.at f path)) := by
  have hmf : ∀ (fn : Fn) (first cap : Array Value) (w : World), (Instr.makeFunc fn first cap).run Try.prog w = .ok (.func fn first cap) w := fun _ _ _ _ => rfl
  obtain ⟨n, hn⟩ : ∃ n, n = path.length := ⟨_, rfl⟩
  rw [← hn] at hlp ⊢
  by_cases h0 : n = 0
  · have hpe : path = [] := List.eq_nil_of_length_eq_zero (by omega)
    subst hpe
    have HF := Lib.hid (fun w' (hb : Below w.heap.size w w') => findw_none (at_nil f) hb)
    subst h0
    clear hs hps hok hn
    go_enter Try.func19, Try.ntmps19
    go_wp2
    first | (refine bodyPost_ret (ret_cell_tmp rfl _ _ _ _ _ _ _ rfl (heap_alloc_new _ _) Try.underlying32 rfl info_nodeS) rfl ?_) | (refine bodyPost_ret (ret_cell_tmp rfl _ _ _ _ _ _ _ rfl (block_set (block_set (block_set (heap_alloc_new _ _) _) _) _) Try.underlying32 rfl info_nodeS) rfl ?_)
    refine HF.out _ ?_
    repeat' (first | exact Below.refl _ _ | refine Below.setCell ?_ ?_ _ | refine Below.alloc ?_ ?_ _ | (simp; done))
  · have hpos : 0 < n := by omega
    have HS := Lib.hid (show SeesF w p A f ∧ (∀ b, p b → b < w.heap.size) ∧ (∀ b, q b → b < w.heap.size) ∧ SeesP w q Ap (path.map (Value.int .i64)) from ⟨hs, hp, hq, hps⟩)
    have HN := Lib.hid hn
    have H0 := Lib.hid (show FpRel w p f path A f c 0 ((w.alloc (.cells #[.int .i64 0, .slice none 0 0, .slice none 0 0] 32)).alloc (.cells #[.int .i64 0, .slice none 0 0, .slice none 0 0] 32)) from
      ⟨((Below.refl _ _).alloc (Nat.le_refl _) _).alloc (by simp) _, block_alloc (heap_alloc_new w _) _, hs, hok, Nat.le_refl _, Nat.le_refl _, Nat.zero_le _, _, _, _, _, _, _, _, block_next w _ _, .inl ⟨rfl, rfl⟩⟩)
    have hlf := f.len_le_size
    have dz : ((n : Int) == 0) = false := by simp; omega
    clear h0 hs hps hp hq hok hn
    go_enter Try.func19, Try.ntmps19
    go_wp2
    go_loopw [0, 16] (fun l i wr => ∃ (k : Nat) (Ag : Option Addr) (g : F) (cg : Nat), k ≤ n ∧ i = .int .i64 (k : Int) ∧ l = .slice Ag g.len cg ∧ Hid (FpRel w p f path Ag g cg k wr)) (fun _ i _ => n - (intOf i).toNat)
    case atStart => exact ⟨0, A, f, c, Nat.zero_le _, rfl, rfl, H0⟩
    case round =>
      clear H0
      obtain ⟨i, Ag, g, cg, hi, rfl, rfl, HG⟩ := hrel
      have hb := HG.out.1
      have hgs := HG.out.2.2.2.2.1
      have hlg := g.len_le_size
      by_cases hlt : i < n
      · have dk : decide ((i : Int) < (n : Int)) = true := by simp; omega
        have hip : i < path.length := by rw [← HN.out]; exact hlt
        obtain ⟨x, hx⟩ : ∃ x, x = path[i] := ⟨_, rfl⟩
        obtain ⟨bp, op, rfl, hqb, hpc⟩ : ∃ bp op, Ap = some ⟨bp, op, none⟩ ∧ q bp ∧ w.cell? ⟨bp, op + i, none⟩ = some (.int .i64 x) := by
          rcases HS.out.2.2.2 with h | ⟨bp, op, e, hqb, hc⟩
          · have h : path = [] := by simpa using h
            subst h; simp at hip
          · refine ⟨bp, op, e, hqb, ?_⟩
            rw [hc i (by simpa using hip), hx]; simp
        have hbp := HS.out.2.2.1 bp hqb
        have p0 := (hb.cell (p := ⟨bp, op + i, none⟩) hbp).trans hpc
        have HX := Lib.hid hx
        have hbz := hb.size
        have HI : Hid (Calls Try.prog 45 #[.slice Ag g.len cg, .func (.func 46) #[] #[.pointer (some ⟨wr.heap.size, 0, none⟩)]] (wr.alloc (.cells #[.int .i64 x] 3)) fun e w' => IsInt (fstI x g 0) e ∧ Below (wr.alloc (.cells #[.int .i64 x] 3)).heap.size (wr.alloc (.cells #[.int .i64 x] 3)) w') := Lib.hid (by
          refine index_func x g Ag cg wr.heap.size _ p HG.out.2.2.2.1 (by omega) (fun b hb2 => by have := HS.out.2.1 b hb2; simp; omega) ?_ (by simp) ?_
          · refine HG.out.2.2.1.keep fun z hz => ?_
            have hz2 := HS.out.2.1 _ hz
            exact (World.cell?_alloc_lt wr _ z (by omega)).trans (hb.cell hz2)
          · exact cell_of_row (wr.alloc (.cells #[.int .i64 x] 3)) wr.heap.size 0 _ _ _ (heap_alloc_new _ _))
        have HB := Lib.hid hb
        clear hx hqb hpc hb
        cases hf : F.fst x g with
        | none =>
          have hI := HI.out
          rw [fstI_none hf] at hI
          have HI2 := Lib.hid hI
          have hnone : F.at f path = none := by
            rw [HG.out.here hip, List.drop_eq_getElem_cons hip, ← HX.out, at_cons_none hf]
          have HF := Lib.hid (fun w' (hb : Below w.heap.size w w') => findw_none hnone hb)
          clear hI HI hf hnone
          go_wp2_with fail
          refine HI2.out.mono ?_
          rintro e w3 ⟨he, hb3⟩
          unfold IsInt at he
          subst he
          have hbr : Below wr.heap.size wr w3 := Below.trans ((Below.refl _ _).alloc (Nat.le_refl _) _) (hb3.mono (by simp))
          have hZ3 : ZeroN w3 w.heap.size := (hbr.block _ (lt_of_block HG.out.2.1)).trans HG.out.2.1
          obtain ⟨o0, o1, o2, o3, o4, o5⟩ := hZ3.cells
          have HZ3 := Lib.hid hZ3
          have HB3 := Lib.hid (below_on HB.out hbr)
          clear hb3 hbr hZ3 p0
          go_wp2
          refine bodyPost_ret (ret_cell_tmp rfl _ _ _ _ _ _ _ rfl (zero_set HZ3.out _ _ _) Try.underlying32 rfl info_nodeS) rfl ?_
          exact HF.out _ (below_set HB3.out (Nat.le_refl _) _ _ _)
        | some y =>
          obtain ⟨j, t, v, k⟩ := y
          have hI := HI.out
          rw [fstI_some hf] at hI
          have HI2 := Lib.hid hI
          obtain ⟨cs, s1, s2⟩ := HG.out.2.2.1
          obtain ⟨⟨r, hr⟩, hj, hko, hks, hkd⟩ := fst_holds s2 hf
          obtain ⟨b, off, Av, cv, Ak, ck, rfl, hpb, x0, x1, x2, sv, sk, _, hnv⟩ := node_at s1 hr
          have hbw := HS.out.2.1 b hpb
          have hN := Lib.hid (fun (w3 : World) (hb3 : Below wr.heap.size wr w3) => HG.out.next (cv := cv) (ck := ck) hip HX.out.symm hf hb3 sv (hko HG.out.2.2.2.1).2 sk (hko HG.out.2.2.2.1).1 (by omega) (hkd f.dep (by have := HG.out.2.2.2.2.2.1; omega)))
          have HF8 : Hid (∃ (t0 : Int) (A0 : Option Addr) (l0 c0 : Nat) (A1 : Option Addr) (l1 c1 : Nat), wr.heap[w.heap.size + 1]? = some (.cells #[.int .i64 t0, .slice A0 l0 c0, .slice A1 l1 c1] 32 (0, 0))) := Lib.hid (by
            obtain ⟨t0, A0, l0, c0, A1, l1, c1, h8, _⟩ := HG.out.2.2.2.2.2.2.2
            exact ⟨t0, A0, l0, c0, A1, l1, c1, h8⟩)
          have HXX := Lib.hid (show w.cell? ⟨b, off + j * 3, none⟩ = some (.int .i64 t) ∧ w.cell? ⟨b, off + j * 3 + 1, none⟩ = some (.slice Av v.length cv) ∧ w.cell? ⟨b, off + j * 3 + 2, none⟩ = some (.slice Ak k.len ck) from ⟨x0, x1, x2⟩)
          have hjd : decide ((j : Int) < 0) = false := by simp
          have hjg : (j : Int) < (g.len : Int) := by omega
          clear hI HI hf s1 s2 hr x0 x1 x2 sv sk hko hks hkd hpb hnv
          go_wp2_with fail
          refine HI2.out.mono ?_
          rintro e w3 ⟨he, hb3⟩
          unfold IsInt at he
          subst he
          have hbr : Below wr.heap.size wr w3 := Below.trans ((Below.refl _ _).alloc (Nat.le_refl _) _) (hb3.mono (by simp))
          have hbw3 := below_on HB.out hbr
          have y0 := (hbw3.cell (p := ⟨b, off + j * 3, none⟩) hbw).trans HXX.out.1
          have y1 := (hbw3.cell (p := ⟨b, off + j * 3 + 1, none⟩) hbw).trans HXX.out.2.1
          have y2 := (hbw3.cell (p := ⟨b, off + j * 3 + 2, none⟩) hbw).trans HXX.out.2.2
          obtain ⟨t0, A0, l0, c0, A1, l1, c1, h8⟩ := HF8.out
          have h83 := (hbr.block _ (lt_of_block h8)).trans h8
          have e0 : w3.cell? ⟨w.heap.size + 1, 0, none⟩ = some (.int .i64 t0) := cell_of_row w3 (w.heap.size + 1) 0 _ _ _ h83
          have e1 : w3.cell? ⟨w.heap.size + 1, 1, none⟩ = some (.slice A0 l0 c0) := cell_of_row w3 (w.heap.size + 1) 1 _ _ _ h83
          have e2 : w3.cell? ⟨w.heap.size + 1, 2, none⟩ = some (.slice A1 l1 c1) := cell_of_row w3 (w.heap.size + 1) 2 _ _ _ h83
          have f0 := frozen_of_row w3 (w.heap.size + 1) 0 _ _ h83
          have f1 := frozen_of_row w3 (w.heap.size + 1) 1 _ _ h83
          have f2 := frozen_of_row w3 (w.heap.size + 1) 2 _ _ h83
          have HNX := Lib.hid (hN.out w3 hbr)
          clear hb3 hbr hbw3 h8 h83 p0 hN HF8 HXX
          go_wp2
          go_roundw
          case rel => exact ⟨i + 1, Ak, k, ck, by omega, by go_num, rfl, HNX⟩
          case measure => simp [intOf]; omega
      · obtain rfl : i = n := by omega
        have dk : decide ((i : Int) < (i : Int)) = false := by simp
        obtain ⟨t, Av, lv, cv, Af, lf, cf, h8, hor⟩ := HG.out.2.2.2.2.2.2.2
        rcases hor with ⟨h0, _⟩ | ⟨_, v, rfl, rfl, rfl, hv, hvl, hat⟩
        · omega
        · have hde : path.drop i = [] := List.drop_eq_nil_of_le (by have := HN.out; omega)
          rw [if_pos hde] at hat
          have HAT := Lib.hid hat
          have hgd := HG.out.2.2.2.2.2.1
          have pz : ∀ z : Addr, p z.block → wr.cell? z = w.cell? z := fun z hz => hb.cell (HS.out.2.1 _ hz)
          have e0 : wr.cell? ⟨w.heap.size + 1, 0, none⟩ = some (.int .i64 t) := cell_of_row wr (w.heap.size + 1) 0 _ _ _ h8
          have e1 : wr.cell? ⟨w.heap.size + 1, 1, none⟩ = some (.slice Av v.length cv) := cell_of_row wr (w.heap.size + 1) 1 _ _ _ h8
          have e2 : wr.cell? ⟨w.heap.size + 1, 2, none⟩ = some (.slice Af g.len cf) := cell_of_row wr (w.heap.size + 1) 2 _ _ _ h8
          have HW := Lib.hid (nested_within 65536 (Nat.le_refl _) g Af cg wr p (by omega) (by omega) (HG.out.2.2.1.keep pz))
          have HC := Lib.hid (clone_all 1048577 (Nat.le_refl _) t v g Av Af cv cf wr p (by omega) HG.out.2.2.2.1 hvl (fun z hz => by have := HS.out.2.1 z hz; have := hb.size; omega) (hv.keep pz) (HG.out.2.2.1.keep pz))
          have HB := Lib.hid hb
          have HZ := Lib.hid HG.out.2.1
          clear hb hat hde hv hvl pz h8 HG
          go_wp2_with fail
          have HW2 := HW.out
          have e65 : ((65536 : Nat) : Int) = 65536 := rfl
          rw [e65] at HW2
          refine HW2.mono ?_
          clear HW2 HW e65
          rintro e wq ⟨rfl, rfl⟩
          go_wp2_with fail
          refine HC.out.mono ?_
          rintro e w3 ⟨Av2, cv2, Ak2, ck2, rfl, hn0, sv2, sk2, hb3⟩
          have hZ3 : ZeroN w3 w.heap.size := (hb3.block _ (lt_of_block HZ.out)).trans HZ.out
          have hbw3 := below_on HB.out hb3
          have hsw := HB.out.size
          obtain ⟨o0, o1, o2, o3, o4, o5⟩ := hZ3.cells
          have HR : Hid (FindW w (F.at f path) (.returned (.tuple #[.agg #[.int .i64 t, .slice Av2 v.length cv2, .slice Ak2 g.len ck2], .bool true])) (((w3.setCell ⟨w.heap.size, 0, none⟩ (.int .i64 t)).setCell ⟨w.heap.size, 1, none⟩ (.slice Av2 v.length cv2)).setCell ⟨w.heap.size, 2, none⟩ (.slice Ak2 g.len ck2))) := Lib.hid (by
            have hlt := lt_of_block HZ.out
            refine ⟨.inr ⟨t, v, g, Av2, cv2, Ak2, ck2, HAT.out, rfl, hn0, ?_, ?_⟩, below_set hbw3 (Nat.le_refl _) _ _ _⟩
            · exact (seesP_set sv2 (fun b hb => by have := hb.1; omega) _ _ _).imp fun b hb => by simpa using hb.2
            · exact (seesF_set sk2 (fun b hb => by have := hb.1; omega) _ _ _).imp fun b hb => by simpa using hb.2)
          have HZ3 := Lib.hid hZ3
          clear hn0 sv2 sk2 hb3 hbw3 hZ3 e0 e1 e2
          go_wp2
          refine bodyPost_ret (ret_cell_tmp rfl _ _ _ _ _ _ _ rfl (zero_set HZ3.out _ _ _) Try.underlying32 rfl info_nodeS) rfl ?_
          exact HR.out

end Go.Proofs.Ytipmmclahngabaa
