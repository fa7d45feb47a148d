/-
  What is proved here: the maker of odd infos.
-/
import Derived.Test.YtmkggpgpiepjfaaDoorZJy
import Derived.Test.YtmkggpgpiepjfaaDoorZG9
namespace Go.Proofs.YtmkggpgpiepjfaaDoor
open Go.RowKit
set_option maxRecDepth 8000
set_option linter.unusedVariables false
set_option linter.unusedSimpArgs false
theorem Im.cs_set (x : Im) (z : Int) : ∀ {j : Nat}, j < 5 → x.cs.set j (.int .i64 z) = (x.put j z).cs
  | 0, _ => rfl
  | 1, _ => rfl
  | 2, _ => rfl
  | 3, _ => rfl
  | 4, _ => rfl
  | j + 5, h => by omega
theorem Ics_set : ∀ {l : List Im} {k : Nat} {x : Im}, l[k]? = some x → ∀ {j : Nat} (z : Int), j < 5 → (Ics l).set (k * 5 + j) (.int .i64 z) = Ics (l.set k (x.put j z))
  | [], k, x, h, _, _, _ => by simp at h
  | y :: r, 0, x, h, j, z, hj => by
    have : y = x := by simpa using h
    subst this
    show (y.cs ++ Ics r).set (0 * 5 + j) _ = (y.put j z).cs ++ Ics r
    rw [Nat.zero_mul, Nat.zero_add, List.set_append, if_pos (by rw [Im.cs_len]; exact hj), Im.cs_set y z hj]
  | y :: r, k + 1, x, h, j, z, hj => by
    have h : r[k]? = some x := by simpa using h
    show (y.cs ++ Ics r).set ((k + 1) * 5 + j) _ = y.cs ++ Ics (r.set k (x.put j z))
    rw [List.set_append, if_neg (by rw [Im.cs_len]; omega), Im.cs_len, show (k + 1) * 5 + j - 5 = k * 5 + j by omega, Ics_set h z hj]
theorem put_own {w0 w w' : World} {g n cap k j : Nat} {L : List Im} {x : Im} {z : Int} (h : HeldI w0 w (.slice (some ⟨g, 0, none⟩) n cap) L) (hn : L.length = n) (hx : L[k]? = some x) (hj : j < 5)
    (hp : ∀ cs, w.heap[g]? = some (.cells cs 44 (0, 0)) → w'.heap[g]? = some (.cells (cs.toList.set (k * 5 + j) (.int .i64 z)).toArray 44 (0, 0))) : HeldI w0 w' (.slice (some ⟨g, 0, none⟩) n cap) (L.set k (x.put j z)) := by
  have hk := (List.getElem?_eq_some_iff.1 hx).1
  unfold HeldI at h ⊢
  rw [List.length_set]
  rcases h.2 with ⟨e, _⟩ | ⟨g', cap', cur, e, hb, hh, h1, h2, h3, h4⟩
  · cases e
  · injection e with e1 e2 e3
    injection e1 with e1
    injection e1 with e1
    subst e1 e3
    refine ⟨by rw [Ics_len, List.length_set]; omega, .inr ⟨g, cap, _, by rw [hn], hb, hp cur hh, h1, h2, ?_, ?_⟩⟩
    · simp [h3]
    · show (cur.toList.set (k * 5 + j) (.int .i64 z)).take (L.length * 5) = _
      rw [List.take_set, h4, Ics_set hx z hj]
theorem wpList_store_own {ops : Array Oper} {rest : List Oper} {op : Oper} {a : Act} {w : World} {Q : Exit → Act → World → Prop} (hgd : op.guard = none) (x y : Operand) (ho : op.op = .store 3 x y) {w0 : World} {g n cap k j i : Nat} {L : List Im} {z : Int} {im : Im}
    (hi : i = k * 5 + j) (hx : a.eval x = .pointer (some ⟨g, i, none⟩)) (hy : a.eval y = .int .i64 z) (h : HeldI w0 w (.slice (some ⟨g, 0, none⟩) n cap) L) (hn : L.length = n) (hk : L[k]? = some im) (hj : j < 5)
    (hK : ∀ w', Wr w w' g → HeldI w0 w' (.slice (some ⟨g, 0, none⟩) n cap) (L.set k (im.put j z)) → wpList Tryd.prog ops Q rest (a.put op.dst undef) w') : wpList Tryd.prog ops Q (op :: rest) a w := by
  subst hi
  have hkn := (List.getElem?_eq_some_iff.1 hk).1
  obtain ⟨cur, hh, hl⟩ : ∃ cur : Array Value, w.heap[g]? = some (.cells cur 44 (0, 0)) ∧ k * 5 + j < cur.toList.length := by
    have h' := h
    unfold HeldI at h'
    rcases h'.2 with ⟨e, _⟩ | ⟨g', cap', cur, e, hb, hh, h1, h2, h3, h4⟩
    · cases e
    · injection e with e1 e2 e3
      injection e1 with e1
      injection e1 with e1
      subst e1 e3
      refine ⟨cur, hh, ?_⟩
      have : cur.toList.length = cap * 5 := by simpa using h3
      omega
  have hh' : w.heap[g]? = some (.cells cur.toList.toArray 44 (0, 0)) := by simpa using hh
  refine wpList_plain hgd fun K hK2 => ?_
  have hst := run_storeCells_at Tryd.prog g (k * 5 + j) 44 [.int .i64 z] 0 _ w hh' (by simp at hl ⊢; omega) (by simp [Value.oneCell'])
  have hr : (storeVar 3 ⟨g, k * 5 + j, none⟩ (.int .i64 z)).run Tryd.prog w = .ok () (w.setRow g (cur.toList.set (k * 5 + j) (.int .i64 z)).toArray) := by
    have hi : (Tryd.prog.info? 3).map (·.size) = some 1 := size_i
    cases hq : Tryd.prog.info? 3 with
    | none => simp [hq] at hi
    | some i0 =>
      have hs : i0.size = 1 := by simpa [hq] using hi
      have e : cur.toList.take (k * 5 + j) ++ Value.int .i64 z :: cur.toList.drop (k * 5 + j + 1) = cur.toList.set (k * 5 + j) (.int .i64 z) := (List.set_eq_take_append_cons_drop ..).trans (if_pos hl) |>.symm
      have hc : (Value.int .i64 z).cells = #[.int .i64 z] := rfl
      simp only [Nat.add_zero] at hst
      simp [storeVar, sizeOf, typeInfo, hq, hc, hs, hst, e]
  unfold Oper.wp execOp
  simp only [ho, hx, hy, Instr.storeAt, Instr.sureAddr, Sem.run_bind, Sem.run_pure, Result.andThen_ok, hr]
  exact hK2 _ _ (hK _ (Wr.row _ _ _) (put_own h hn hk hj fun cs hcs => by
    have e : cs = cur := by rw [hh] at hcs; injection hcs with hcs; injection hcs with hcs; exact hcs.symm
    subst e
    exact setRow_heap w g _ _ _ (0, 0) hh))
theorem own_at {w0 w : World} {g n cap k : Nat} {L : List Im} {x : Im} (h : HeldI w0 w (.slice (some ⟨g, 0, none⟩) n cap) L) (hx : L[k]? = some x) : w.rangeAt g (k * 5) x.cs := by
  obtain ⟨A, c, e, hc, hs⟩ := HeldI.slice h
  injection e with e _ _
  obtain ⟨b, off, e2, hb, hr⟩ := im_at hs hx
  have e3 : (some ⟨g, 0, none⟩ : Option Addr) = some ⟨b, off, none⟩ := by rw [← e2, ← e]
  injection e3 with e3
  injection e3 with e3 e4
  subst e3 e4
  rwa [Nat.zero_add] at hr
theorem append_ims {w : World} {ops : Array Oper} {rest : List Oper} {o : Oper} {a : Act} {Q : Exit → Act → World → Prop} (hgd : o.guard = none) (s x : Operand)
    (ho : o.op = .call { callee := .builtin .append, args := #[s, x], argTypes := #[22, 22] })
    (base : Nat) (i : TypeInfo) (hi : Tryd.prog.info? 44 = some i) (hz : i.zero = some (.agg zerX.toArray)) (hsize : i.size = 5) (hby : i.bytes = 40)
    (v : Value) (n : Nat) (L1 : List Im) (hs : a.eval s = v) (hown : w.ownsRow base 44 5 v n (Ics L1))
    (A : Option Addr) (m c : Nat) (L2 : List Im) (hm : L2.length = m) (hx : a.eval x = .slice A m c) (hn : A = none → c = 0) {p : Nat → Prop} (hc : SeesP w p A (Ics L2)) (hb : n + m ≤ 1000000) (hbase : base ≤ w.heap.size)
    (h : ∀ v' w', w'.ownsRow base 44 5 v' (n + m) (Ics (L1 ++ L2)) → w.grownBy w' v.ownBlock → wpList Tryd.prog ops Q rest (a.put o.dst v') w') : wpList Tryd.prog ops Q (o :: rest) a w := by
  rw [Ics_app] at h
  cases A with
  | none =>
    have h2 := hn rfl
    have h1 : Ics L2 = [] := hc.none_nil
    have h3 : m = 0 := by have := Ics_len L2; rw [h1] at this; simp at this; omega
    subst h2 h3
    exact wpList_append_own_none hgd s x 22 ho base 44 i 5 Tryd.underlying22 hi v n (Ics L1) hs hown hx (h v w (by rw [h1, List.append_nil]; exact hown) (World.grownBy.refl _ _))
  | some ad =>
    exact wpList_append_own w hgd s x 22 ho base 44 i _ 5 40 Tryd.underlying22 hi hz hsize hby rfl (by decide) v n (Ics L1) hs hown ad m c (Ics L2) hx (by rw [Ics_len]; omega) (hc.src ad rfl) (Ics_one L2) (by unfold maxLen; omega) (by omega) hbase fun v' w' h1 h2 _ => h v' w' h1 h2
theorem bsi3 (a b c : Int) : Tryd.prog.builtSlice 3 3 [(0, .int .i64 a), (1, .int .i64 b), (2, .int .i64 c)] = some #[.int .i64 a, .int .i64 b, .int .i64 c] := by kernel_rfl
theorem bsi4 (a b c d : Int) : Tryd.prog.builtSlice 3 4 [(0, .int .i64 a), (1, .int .i64 b), (2, .int .i64 c), (3, .int .i64 d)] = some #[.int .i64 a, .int .i64 b, .int .i64 c, .int .i64 d] := by kernel_rfl
theorem pe4i {a : Act} {x y z t : Operand} {u v s r : Value} (h : a.eval x = u) (h2 : a.eval y = v) (h3 : a.eval z = s) (h4 : a.eval t = r) : ((#[(0, x), (1, y), (2, z), (3, t)] : Array (Nat × Operand)).map fun (i, x) => (i, a.eval x)).toList = [(0, u), (1, v), (2, s), (3, r)] := by simp [h, h2, h3, h4]
theorem lit_at (zs : List Int) {s : Nat} (h : s < zs.length) : ∃ z, (zs.map (Value.int .i64))[s]? = some (.int .i64 z) := ⟨zs[s], by rw [List.getElem?_map, List.getElem?_eq_getElem h]; rfl⟩
theorem ix_int (g n k : Nat) (hk : k < n) (w : World) : (Instr.indexAt 34 (.slice (some ⟨g, 0, none⟩) n n) (.int .i64 (k : Int))).run Tryd.prog w = .ok (.pointer (some ⟨g, k, none⟩)) w := by
  have h0 : (k : Int) < (n : Int) := by omega
  have h1 : (0 : Int) ≤ (k : Int) := by omega
  simp [go_sem, Addr.add, h0, h1]
  intro h
  exact h.symm
theorem bsx2 (x y : Im) : Tryd.prog.builtSlice 44 2 [(0, .agg x.cs.toArray), (1, .agg y.cs.toArray)] = some (x.cs ++ y.cs).toArray := by kernel_rfl
theorem ix_x0 (g n c k : Nat) (hk : k < n) (w : World) : (Instr.indexAt 22 (.slice (some ⟨g, 0, none⟩) n c) (.int .i64 (k : Int))).run Tryd.prog w = .ok (.pointer (some ⟨g, k * 5, none⟩)) w := by
  have h := ix_x g 0 n c k hk w
  rwa [Nat.zero_add] at h
def OddIs (w : World) (D : Nat) (e : Ending) (w' : World) : Prop := ∃ A c L, e = .returned (.slice A L.length c) ∧ L.length ≤ 2000 ∧ SeesP w' (newB w w') A (Ics L) ∧ w.grownBy w' (some D) ∧ DiceOk w' D
theorem OddIs.of {w w' : World} {D n : Nat} {v : Value} {L : List Im} (hn : L.length = n) (h2 : n ≤ 2000) (h : HeldI w w' v L) (hg : w.grownBy w' (some D)) (hd : DiceOk w' D) : OddIs w D (.returned v) w' := by
  obtain ⟨A, c, rfl, _, hs⟩ := HeldI.slice h
  exact ⟨A, c, L, rfl, by omega, hs, hg, hd⟩
def HelI (w : World) (L : List Im) (u : Value) (c : World) : Prop := HeldI w c u L
theorem HelI.firm (w : World) (L : List Im) : Firm (HelI w L) := fun u c c' h hb => HeldI.below h hb
def TwoX (wr : World) (x : Im) (u : Value) (c : World) : Prop := ∃ g, u = .slice (some ⟨g, 0, none⟩) 2 2 ∧ newB wr c g ∧ RowV c g (x.cs ++ x.cs)
theorem TwoX.firm (wr : World) (x : Im) : Firm (TwoX wr x) := by
  rintro u c c' ⟨g, h1, h2, h3⟩ hb
  exact ⟨g, h1, ⟨h2.1, Nat.lt_of_lt_of_le h2.2 hb.size⟩, h3.on hb⟩
set_option maxHeartbeats 12800000 in
set_option maxRecDepth 20000 in
theorem dice_odd (D : Nat) (L0 : List Im) (n : Nat) (hn : L0.length = n) (hm : n ≤ 1000) (A : Option Addr) (ca : Nat) (hnc : A = none → ca = 0) (w : World) (h : DiceOk w D) (hs : SeesP w (· < w.heap.size) A (Ics L0)) :
    Calls Tryd.prog 21 #[.pointer (some ⟨D, 0, none⟩), .slice A n ca] w (OddIs w D) := by
  obtain ⟨i0, hi, hz0, hz1, hz2⟩ := info_parts info_inf
  have HD := Lib.hid h
  have HDw := Lib.hid h.lt
  have HS := Lib.hid (show _ ∧ _ ∧ _ from ⟨hn, hnc, hs⟩)
  have HNX := fun (n : Nat) (w : World) (h1 : 0 < n) (h2 : n ≤ 4611686018427387903) (h : DiceOk w D) => dice_next D n w h1 h2 h
  have N8 := Lib.hid (show ∀ (w : World), DiceOk w D → Calls Tryd.prog 40 #[.pointer (some ⟨D, 0, none⟩), .int .i64 8] w (NextIs w D 8) from fun w h => HNX 8 w (by decide) (by decide) h)
  have N7 := Lib.hid (show ∀ (w : World), DiceOk w D → Calls Tryd.prog 40 #[.pointer (some ⟨D, 0, none⟩), .int .i64 7] w (NextIs w D 7) from fun w h => HNX 7 w (by decide) (by decide) h)
  have N3 := Lib.hid (show ∀ (w : World), DiceOk w D → Calls Tryd.prog 40 #[.pointer (some ⟨D, 0, none⟩), .int .i64 3] w (NextIs w D 3) from fun w h => HNX 3 w (by decide) (by decide) h)
  have N4 := Lib.hid (show ∀ (w : World), DiceOk w D → Calls Tryd.prog 40 #[.pointer (some ⟨D, 0, none⟩), .int .i64 4] w (NextIs w D 4) from fun w h => HNX 4 w (by decide) (by decide) h)
  by_cases h0 : n = 0
  · have d0 : ((n : Int) == 0) = true := by simp; omega
    have HL0 := Lib.hid h0
    clear h HNX hn hnc hs h0
    go_enter Tryd.func21, Tryd.ntmps21
    go_wp2_with (first
      | ((with_reducible refine at_call_ (d := 9) ?_); go_must (refine append_ims rfl (.const (.slice none 0 0)) (.tmp 8) rfl w.heap.size i0 hi hz0 hz1 hz2 (.slice none 0 0) 0 [] rfl (World.ownsRow_nil _ _ _ _) A n ca L0 HS.out.1 rfl HS.out.2.1 HS.out.2.2 (by omega) (Nat.le_refl _) ?_); intro v1 w1 ho hg; have H1 := Lib.hid (show HeldI w w1 v1 L0 ∧ w.grownBy w1 (some D) ∧ DiceOk w1 D from ⟨(by unfold HeldI; rw [HS.out.1]; rw [Nat.zero_add] at ho; exact ho), ⟨hg.os, hg.tape, hg.output, hg.size, fun k hk _ => hg.block k hk (by simp [Value.ownBlock])⟩, HD.out.grown hg (fun g e => by cases e)⟩); clear ho hg; obtain ⟨A1, c1, hv1, _, _⟩ := HeldI.slice H1.out.1; rw [HS.out.1] at hv1; subst hv1)
      | (go_at_call 40; ((with_reducible refine (N8.out _ H1.out.2.2).mono ?_); rintro e w2 ⟨r, hr, rfl, hg, hd⟩); have H2 := Lib.hid (show w.grownBy w2 (some D) ∧ DiceOk w2 D from ⟨grown_trans H1.out.2.1 hg, hd⟩); clear hg hd hr)
      | ((with_reducible refine at_any_ (d := 15) ?_); go_must (refine wpList_bldI rfl 44 _ rfl (peb2 rfl rfl) (bldI2g _ _) ?_))
      | ((with_reducible refine at_any_ (d := 16) ?_); go_must (refine wpList_bslV rfl 22 44 1 _ rfl Tryd.underlying22 (pe1 rfl) (bsx (⟨(r : Int), 1, 0, 0, 0⟩ : Im)) ?_); intro g9 wf hf hr; have HZ := Lib.hid (show OddIs w D (.returned (.slice (some ⟨g9, 0, none⟩) 1 1)) wf from ⟨_, _, [⟨(r : Int), 1, 0, 0, 0⟩], rfl, (by simp), one_im hr ⟨Nat.le_trans H2.out.1.size (Nat.le_of_eq hf.1.symm), hr.lt⟩, H2.out.1.on hf.bw, H2.out.2.below hf.bw⟩); clear hf hr))
    go_ret
    exact HZ.out
  have NN := Lib.hid (show ∀ (w : World), DiceOk w D → Calls Tryd.prog 40 #[.pointer (some ⟨D, 0, none⟩), .int .i64 (n : Int)] w (NextIs w D n) from fun w h => HNX n w (by omega) (by omega) h)
  have d0 : ((n : Int) == 0) = false := by simp; omega
  have hn0 : 0 < n := by omega
  clear h HNX hn hnc hs h0
  go_enter Tryd.func21, Tryd.ntmps21
  go_wp2_with (first
    | ((with_reducible refine at_call_ (d := 9) ?_); go_must (refine append_ims rfl (.const (.slice none 0 0)) (.tmp 8) rfl w.heap.size i0 hi hz0 hz1 hz2 (.slice none 0 0) 0 [] rfl (World.ownsRow_nil _ _ _ _) A n ca L0 HS.out.1 rfl HS.out.2.1 HS.out.2.2 (by omega) (Nat.le_refl _) ?_); intro v1 w1 ho hg; have H1 := Lib.hid (show HeldI w w1 v1 L0 ∧ w.grownBy w1 (some D) ∧ DiceOk w1 D from ⟨(by unfold HeldI; rw [HS.out.1]; rw [Nat.zero_add] at ho; exact ho), ⟨hg.os, hg.tape, hg.output, hg.size, fun k hk _ => hg.block k hk (by simp [Value.ownBlock])⟩, HD.out.grown hg (fun g e => by cases e)⟩); clear ho hg; obtain ⟨g, cap, hv1, hgw, hnc1⟩ : ∃ g cap, v1 = .slice (some ⟨g, 0, none⟩) n cap ∧ w.heap.size ≤ g ∧ n ≤ cap := (by have h := H1.out.1; unfold HeldI at h; rw [HS.out.1] at h; exact h.2.elim (fun h => absurd h.2 (by omega)) (fun ⟨g, cap, cur, e, hb, _, hc, _⟩ => ⟨g, cap, e, hb, hc⟩)); subst hv1; have HG := Lib.hid (show D < g ∧ g ≠ D ∧ w.heap.size ≤ g from (by have := HDw.out; omega)); have HCP := Lib.hid hnc1; clear hgw hnc1)
    | (go_at_call 40; ((with_reducible refine (NN.out _ H1.out.2.2).mono ?_); rintro e w2 ⟨k, hk, rfl, hg, hd⟩); have H2 := Lib.hid (show HeldI w w2 (.slice (some ⟨g, 0, none⟩) n cap) L0 ∧ w.grownBy w2 (some D) ∧ DiceOk w2 D from ⟨H1.out.1.dice hg HDw.out, grown_trans H1.out.2.1 hg, hd⟩); obtain ⟨x, hxk⟩ : ∃ x, L0[k]? = some x := ⟨_, List.getElem?_eq_getElem (by rw [HS.out.1]; exact hk)⟩; have HX := Lib.hid (show L0[k]? = some x ∧ k < n from ⟨hxk, hk⟩); have ixk := fun w => ix_x0 g n cap k hk w; clear hxk hk; clear hg hd)
    | (go_at_call 40; ((with_reducible refine (N7.out _ H2.out.2.2).mono ?_); rintro e w3 ⟨q, hq, rfl, hg, hd⟩); have H3 := Lib.hid (show HeldI w w3 (.slice (some ⟨g, 0, none⟩) n cap) L0 ∧ w.grownBy w3 (some D) ∧ DiceOk w3 D from ⟨H2.out.1.dice hg HDw.out, grown_trans H2.out.2.1 hg, hd⟩); clear hg hd; have hq7 : q = 0 ∨ q = 1 ∨ q = 2 ∨ q = 3 ∨ q = 4 ∨ q = 5 ∨ q = 6 := (by omega); clear hq; rcases hq7 with rfl | rfl | rfl | rfl | rfl | rfl | rfl)
    | (go_at_call 40; ((with_reducible refine (N8.out _ H3.out.2.2).mono ?_); rintro e w4 ⟨z, hz, rfl, hg, hd⟩); have H4 := Lib.hid (show HeldI w w4 (.slice (some ⟨g, 0, none⟩) n cap) L0 ∧ w.grownBy w4 (some D) ∧ DiceOk w4 D from ⟨H3.out.1.dice hg HDw.out, grown_trans H3.out.2.1 hg, hd⟩); clear hz; clear hg hd)
    | ((with_reducible refine at_any_ (d := 50) ?_); go_must (refine wpList_bslV rfl 34 3 3 _ rfl Tryd.underlying34 (pe3 rfl rfl rfl) (bsi3 _ _ _) ?_); intro g9 wl hf hr; have HL := Lib.hid (show HeldI w wl (.slice (some ⟨g, 0, none⟩) n cap) L0 ∧ w.grownBy wl (some D) ∧ DiceOk wl D ∧ RowV wl g9 (([0, 255, 256] : List Int).map (Value.int .i64)) ∧ g9 ≠ D from ⟨H3.out.1.below hf.bw, H3.out.2.1.on hf.bw, H3.out.2.2.below hf.bw, hr, (by have h1 := hf.1; have h2 := H3.out.2.2.lt; omega)⟩); clear hf hr)
    | ((with_reducible refine at_any_ (d := 61) ?_); go_must (refine wpList_bslV rfl 34 3 3 _ rfl Tryd.underlying34 (pe3 rfl rfl rfl) (bsi3 _ _ _) ?_); intro g9 wl hf hr; have HL := Lib.hid (show HeldI w wl (.slice (some ⟨g, 0, none⟩) n cap) L0 ∧ w.grownBy wl (some D) ∧ DiceOk wl D ∧ RowV wl g9 (([-1, 31, 32] : List Int).map (Value.int .i64)) ∧ g9 ≠ D from ⟨H3.out.1.below hf.bw, H3.out.2.1.on hf.bw, H3.out.2.2.below hf.bw, hr, (by have h1 := hf.1; have h2 := H3.out.2.2.lt; omega)⟩); clear hf hr)
    | ((with_reducible refine at_any_ (d := 72) ?_); go_must (refine wpList_bslV rfl 34 3 4 _ rfl Tryd.underlying34 (pe4i rfl rfl rfl rfl) (bsi4 _ _ _ _) ?_); intro g9 wl hf hr; have HL := Lib.hid (show HeldI w wl (.slice (some ⟨g, 0, none⟩) n cap) L0 ∧ w.grownBy wl (some D) ∧ DiceOk wl D ∧ RowV wl g9 (([0, 1, 4, 2147483575] : List Int).map (Value.int .i64)) ∧ g9 ≠ D from ⟨H3.out.1.below hf.bw, H3.out.2.1.on hf.bw, H3.out.2.2.below hf.bw, hr, (by have h1 := hf.1; have h2 := H3.out.2.2.lt; omega)⟩); clear hf hr)
    | ((with_reducible refine at_any_ (d := 83) ?_); go_must (refine wpList_bslV rfl 34 3 3 _ rfl Tryd.underlying34 (pe3 rfl rfl rfl) (bsi3 _ _ _) ?_); intro g9 wl hf hr; have HL := Lib.hid (show HeldI w wl (.slice (some ⟨g, 0, none⟩) n cap) L0 ∧ w.grownBy wl (some D) ∧ DiceOk wl D ∧ RowV wl g9 (([-1, 255, 256] : List Int).map (Value.int .i64)) ∧ g9 ≠ D from ⟨H3.out.1.below hf.bw, H3.out.2.1.on hf.bw, H3.out.2.2.below hf.bw, hr, (by have h1 := hf.1; have h2 := H3.out.2.2.lt; omega)⟩); clear hf hr)
    | (go_at_call 40; ((with_reducible refine (N3.out _ HL.out.2.2.1).mono ?_); rintro e w4 ⟨s, hs, rfl, hg, hd⟩); have H4 := Lib.hid (show HeldI w w4 (.slice (some ⟨g, 0, none⟩) n cap) L0 ∧ w.grownBy w4 (some D) ∧ DiceOk w4 D from ⟨HL.out.1.dice hg HDw.out, grown_trans HL.out.2.1 hg, hd⟩); have ixs := fun w => ix_int g9 3 s hs w; obtain ⟨z, yz⟩ : ∃ z, w4.cell? ⟨g9, s, none⟩ = some (.int .i64 z) := (by rw [(HL.out.2.2.2.1.dice hg HL.out.2.2.2.2).cell s]; exact lit_at _ hs); clear hg hd hs)
    | (go_at_call 40; ((with_reducible refine (N4.out _ HL.out.2.2.1).mono ?_); rintro e w4 ⟨s, hs, rfl, hg, hd⟩); have H4 := Lib.hid (show HeldI w w4 (.slice (some ⟨g, 0, none⟩) n cap) L0 ∧ w.grownBy w4 (some D) ∧ DiceOk w4 D from ⟨HL.out.1.dice hg HDw.out, grown_trans HL.out.2.1 hg, hd⟩); have ixs := fun w => ix_int g9 4 s hs w; obtain ⟨z, yz⟩ : ∃ z, w4.cell? ⟨g9, s, none⟩ = some (.int .i64 z) := (by rw [(HL.out.2.2.2.1.dice hg HL.out.2.2.2.2).cell s]; exact lit_at _ hs); clear hg hd hs)
    | ((with_reducible refine at_store_ (i := 45) ?_); go_must (refine wpList_store_own (k := k) (j := 0) (i := k * 5 + 0) rfl (.tmp 45) (.tmp 43) rfl rfl rfl rfl H4.out.1 HS.out.1 HX.out.1 (by decide) ?_); intro wz hw hz; have HZ := Lib.hid (show HeldI w wz (.slice (some ⟨g, 0, none⟩) n cap) (L0.set k (x.put 0 (z : Int))) ∧ w.grownBy wz (some D) ∧ DiceOk wz D from ⟨hz, H4.out.2.1.wrote hw HG.out.2.2, H4.out.2.2.wrote hw HG.out.1⟩); clear hw hz)
    | ((with_reducible refine at_store_ (i := 56) ?_); go_must (refine wpList_store_own (k := k) (j := 1) (i := k * 5 + 1) rfl (.tmp 56) (.tmp 54) rfl rfl rfl rfl H4.out.1 HS.out.1 HX.out.1 (by decide) ?_); intro wz hw hz; have HZ := Lib.hid (show HeldI w wz (.slice (some ⟨g, 0, none⟩) n cap) (L0.set k (x.put 1 z)) ∧ w.grownBy wz (some D) ∧ DiceOk wz D from ⟨hz, H4.out.2.1.wrote hw HG.out.2.2, H4.out.2.2.wrote hw HG.out.1⟩); clear hw hz)
    | ((with_reducible refine at_store_ (i := 67) ?_); go_must (refine wpList_store_own (k := k) (j := 2) (i := k * 5 + 2) rfl (.tmp 67) (.tmp 65) rfl rfl rfl rfl H4.out.1 HS.out.1 HX.out.1 (by decide) ?_); intro wz hw hz; have HZ := Lib.hid (show HeldI w wz (.slice (some ⟨g, 0, none⟩) n cap) (L0.set k (x.put 2 z)) ∧ w.grownBy wz (some D) ∧ DiceOk wz D from ⟨hz, H4.out.2.1.wrote hw HG.out.2.2, H4.out.2.2.wrote hw HG.out.1⟩); clear hw hz)
    | ((with_reducible refine at_store_ (i := 78) ?_); go_must (refine wpList_store_own (k := k) (j := 3) (i := k * 5 + 3) rfl (.tmp 78) (.tmp 76) rfl rfl rfl rfl H4.out.1 HS.out.1 HX.out.1 (by decide) ?_); intro wz hw hz; have HZ := Lib.hid (show HeldI w wz (.slice (some ⟨g, 0, none⟩) n cap) (L0.set k (x.put 3 z)) ∧ w.grownBy wz (some D) ∧ DiceOk wz D from ⟨hz, H4.out.2.1.wrote hw HG.out.2.2, H4.out.2.2.wrote hw HG.out.1⟩); clear hw hz)
    | ((with_reducible refine at_store_ (i := 89) ?_); go_must (refine wpList_store_own (k := k) (j := 4) (i := k * 5 + 4) rfl (.tmp 89) (.tmp 87) rfl rfl rfl rfl H4.out.1 HS.out.1 HX.out.1 (by decide) ?_); intro wz hw hz; have HZ := Lib.hid (show HeldI w wz (.slice (some ⟨g, 0, none⟩) n cap) (L0.set k (x.put 4 z)) ∧ w.grownBy wz (some D) ∧ DiceOk wz D from ⟨hz, H4.out.2.1.wrote hw HG.out.2.2, H4.out.2.2.wrote hw HG.out.1⟩); clear hw hz)
    | ((with_reducible refine at_load_ (d := 96) ?_); refine wpList_load_mid rfl 44 (.tmp 95) rfl g (k * 5) rfl x.cs _ (own_at H3.out.1 HX.out.1) Tryd.underlying44 rfl (by rw [Im.cs_len]; exact size_x) ?_)
    | ((with_reducible refine at_any_ (d := 97) ?_); go_must (refine wpList_bslV rfl 22 44 1 _ rfl Tryd.underlying22 (pe1 rfl) (bsx x) ?_); intro g9 wf hf hr; have H9 := Lib.hid (show HeldI w wf (.slice (some ⟨g, 0, none⟩) n cap) L0 ∧ w.grownBy wf (some D) ∧ DiceOk wf D ∧ RowV wf g9 x.cs from ⟨H3.out.1.below hf.bw, H3.out.2.1.on hf.bw, H3.out.2.2.below hf.bw, hr⟩); clear hf hr)
    | ((with_reducible refine at_call_ (d := 98) ?_); have HO := H9.out.1; unfold HeldI at HO; rw [HS.out.1] at HO; go_must (refine wpList_append_lies _ rfl (.tmp 92) (.tmp 97) 22 rfl w.heap.size 44 i0 _ 5 40 Tryd.underlying22 hi hz0 hz1 hz2 rfl (by decide) (.slice (some ⟨g, 0, none⟩) n cap) n (Ics L0) rfl HO ⟨g9, 0, none⟩ 1 1 x.cs rfl rfl (RowV.src H9.out.2.2.2) (Im.cs_one _) (by decide) (by unfold maxLen; omega) (by omega) H9.out.2.1.size _ rfl ?_); intro g10 c10 wg ho hg hl hltg; have H10 := Lib.hid (show HeldI w wg (.slice (some ⟨g10, 0, none⟩) (n + 1) c10) (L0 ++ [x]) ∧ w.grownBy wg (some D) ∧ DiceOk wg D from ⟨by unfold HeldI; rw [Ics_snoc, List.length_append, HS.out.1]; exact ho, grown_row H9.out.2.1 hg (fun k e => (own_lt3 HO k e).1), H9.out.2.2.1.grown hg (fun k e => Nat.lt_of_lt_of_le HDw.out (own_lt3 HO k e).1)⟩); clear ho hg hl hltg HO))
  · go_ret
    exact OddIs.of (n := n) (by rw [List.length_set]; exact HS.out.1) (by omega) HZ.out.1 HZ.out.2.1 HZ.out.2.2
  · go_ret
    exact OddIs.of (n := n) (by rw [List.length_set]; exact HS.out.1) (by omega) HZ.out.1 HZ.out.2.1 HZ.out.2.2
  · go_ret
    exact OddIs.of (n := n) (by rw [List.length_set]; exact HS.out.1) (by omega) HZ.out.1 HZ.out.2.1 HZ.out.2.2
  · go_ret
    exact OddIs.of (n := n) (by rw [List.length_set]; exact HS.out.1) (by omega) HZ.out.1 HZ.out.2.1 HZ.out.2.2
  · go_ret
    exact OddIs.of (n := n) (by rw [List.length_set]; exact HS.out.1) (by omega) HZ.out.1 HZ.out.2.1 HZ.out.2.2
  · go_ret
    exact OddIs.of (n := n + 1) (by rw [List.length_append, HS.out.1]; rfl) (by omega) H10.out.1 H10.out.2.1 H10.out.2.2
  · clear ixk
    go_loopw [5, 7] (fun v i wq => ∃ id : Nat, id ≤ 9 ∧ i = .int .i64 (id : Int) ∧ Hid (∃ g2 cap2 L2, v = .slice (some ⟨g2, 0, none⟩) L2.length cap2 ∧ HeldI w wq (.slice (some ⟨g2, 0, none⟩) L2.length cap2) L2 ∧ w.grownBy wq (some D) ∧ DiceOk wq D ∧ L2[k]? = some x ∧ L2.length = n + 2 * id)) (fun _ i _ => 9 - (intOf i).toNat)
    case atStart => exact ⟨0, by omega, rfl, Lib.hid ⟨g, cap, L0, by rw [HS.out.1], by rw [HS.out.1]; exact H3.out.1, H3.out.2.1, H3.out.2.2, HX.out.1, by rw [HS.out.1]; rfl⟩⟩
    case round =>
      obtain ⟨id, hid9, rfl, HQx⟩ := hrel
      obtain ⟨g2, cap2, L2, rfl, hq1, hq2, hq3, hq4, hq5⟩ := HQx.out
      obtain ⟨m2, hm2⟩ : ∃ z, L2.length = z := ⟨_, rfl⟩
      rw [hm2] at hq1 hq5 ⊢
      have HQ := Lib.hid (show _ ∧ _ ∧ _ from ⟨hq1, hq2, hq3⟩)
      have HX2 := Lib.hid hq4
      have HM2 := Lib.hid hm2
      have hmb : m2 ≤ 2000 := by omega
      have HKM := Lib.hid (show k < m2 from by rw [← hm2]; exact (List.getElem?_eq_some_iff.1 hq4).1)
      have HM5 := Lib.hid hq5
      clear HQx hq1 hq2 hq3 hq4 hq5 hm2
      by_cases hlt : id < 9
      · have d9 : decide ((id : Int) < 9) = true := by simp; omega
        go_wp2
        refine region_facts (by kernel_rfl) _ wr (fun c => w.grownBy c (some D) ∧ DiceOk c D ∧ wr.heap.size ≤ c.heap.size) 10 (factL [fun u _ => u = .slice (some ⟨g2, 0, none⟩) m2 cap2, fun u _ => u = .slice (some ⟨g2, 0, none⟩) m2 cap2, fun u _ => u = .int .i64 (k : Int), fun u _ => u = .pointer (some ⟨g2, k * 5, none⟩), fun u _ => u = .agg x.cs.toArray, fun u _ => u = .slice (some ⟨g2, 0, none⟩) m2 cap2, fun u _ => u = .int .i64 (k : Int), fun u _ => u = .pointer (some ⟨g2, k * 5, none⟩), fun u _ => u = .agg x.cs.toArray, TwoX wr x, HelI w (L2 ++ [x, x]), HelI w (L2 ++ [x, x])]) (by kernel_rfl) (firm_list (by simp only [List.forall_mem_cons]; exact ⟨firm_eq _, firm_eq _, firm_eq _, firm_eq _, firm_eq _, firm_eq _, firm_eq _, firm_eq _, firm_eq _, TwoX.firm _ _, HelI.firm _ _, HelI.firm _ _, fun X h => by cases h⟩)) (fun c c2 h hb => ⟨h.1.on hb, h.2.1.below hb, Nat.le_trans h.2.2 hb.size⟩) (Below.refl _ _) ⟨HQ.out.2.1, HQ.out.2.2, Nat.le_refl _⟩ ?_ ?_
        · refine ops_all (allI.cons ?_ (allI.cons ?_ (allI.cons ?_ (allI.cons ?_ (allI.cons ?_ (allI.cons ?_ (allI.cons ?_ (allI.cons ?_ (allI.cons ?_ (allI.cons ?_ (allI.cons ?_ (allI.cons ?_ allI.nil)))))))))))) <;> intro v S c a hI hw1 hX hSi hdep hS hC
          · exact o_mv _ rfl (hS.before hC hSi 5 rfl) (Step.still rfl)
          · exact o_mv _ rfl (hS.before hC hSi 5 rfl) (Step.still rfl)
          · exact o_mv _ rfl (hS.old 6 rfl) (Step.still rfl)
          · exact o_ix _ (.tmp 28) (.tmp 29) rfl ((hS.get 1 (dep_at hdep 1 rfl) rfl rfl).trans (hX 1 (dep_at hdep 1 rfl))) ((hS.get 2 (dep_at hdep 2 rfl) rfl rfl).trans (hX 2 (dep_at hdep 2 rfl))) (ix_x0 g2 m2 cap2 k HKM.out _) (Step.still rfl)
          · exact wp_load_mid 44 (.tmp 30) rfl g2 (k * 5) ((hS.get 3 (dep_at hdep 3 rfl) rfl rfl).trans (hX 3 (dep_at hdep 3 rfl))) x.cs _ (own_at (HeldI.below HQ.out.1 (hw1 (by
              rcases hq : S 10 with _ | _
              · rfl
              · have h9 := dep_at (hC 10 _ rfl hq) 9 rfl
                have := dep_at (hC 9 _ rfl h9) 4 rfl
                rw [hSi] at this
                cases this))) HX2.out) Tryd.underlying44 rfl (by rw [Im.cs_len]; exact size_x) (Step.still rfl)
          · exact o_mv _ rfl (hS.before hC hSi 5 rfl) (Step.still rfl)
          · exact o_mv _ rfl (hS.old 6 rfl) (Step.still rfl)
          · exact o_ix _ (.tmp 32) (.tmp 33) rfl ((hS.get 5 (dep_at hdep 5 rfl) rfl rfl).trans (hX 5 (dep_at hdep 5 rfl))) ((hS.get 6 (dep_at hdep 6 rfl) rfl rfl).trans (hX 6 (dep_at hdep 6 rfl))) (ix_x0 g2 m2 cap2 k HKM.out _) (Step.still rfl)
          · exact wp_load_mid 44 (.tmp 34) rfl g2 (k * 5) ((hS.get 7 (dep_at hdep 7 rfl) rfl rfl).trans (hX 7 (dep_at hdep 7 rfl))) x.cs _ (own_at (HeldI.below HQ.out.1 (hw1 (by
              rcases hq : S 10 with _ | _
              · rfl
              · have h9 := dep_at (hC 10 _ rfl hq) 9 rfl
                have := dep_at (hC 9 _ rfl h9) 8 rfl
                rw [hSi] at this
                cases this))) HX2.out) Tryd.underlying44 rfl (by rw [Im.cs_len]; exact size_x) (Step.still rfl)
          · refine o_bsl _ 44 2 _ rfl Tryd.underlying22 (pe2 ((hS.get 4 (dep_at hdep 4 rfl) rfl rfl).trans (hX 4 (dep_at hdep 4 rfl))) ((hS.get 8 (dep_at hdep 8 rfl) rfl rfl).trans (hX 8 (dep_at hdep 8 rfl)))) (vs := x.cs ++ x.cs) (bsx2 x x) ?_
            intro g w9 hf hr
            exact Step.new ⟨g, rfl, ⟨by rw [hf.1]; exact hI.2.2, hr.lt⟩, hr⟩ hf.bw
          · obtain ⟨g9, e9, h0, hr9⟩ := (hX 9 (dep_at hdep 9 rfl))
            have HO := HQ.out.1
            unfold HeldI at HO
            rw [HM2.out] at HO
            have hB := hw1 hSi
            have hown := own_lt3 HO
            refine wp_append_lies _ (.tmp 27) (.tmp 36) 22 rfl w.heap.size 44 i0 _ 5 40 Tryd.underlying22 hi hz0 hz1 hz2 rfl (by decide) (.slice (some ⟨g2, 0, none⟩) m2 cap2) m2 (Ics L2) ((hS.get 0 (dep_at hdep 0 rfl) rfl rfl).trans (hX 0 (dep_at hdep 0 rfl))) (own3_on HO hB) ⟨g9, 0, none⟩ 2 2 (x.cs ++ x.cs) ((hS.get 9 (dep_at hdep 9 rfl) rfl rfl).trans e9) rfl hr9.src (by
              intro u hu
              rcases List.mem_append.1 hu with hu | hu
              · exact x.cs_one u hu
              · exact x.cs_one u hu) (by decide) (by unfold maxLen; omega) (by omega) hI.1.size _ rfl ?_
            intro g' cap' w' ho hg hl hlt
            refine Step.turn (show HeldI w w' _ (L2 ++ [x, x]) from by
              unfold HeldI
              rw [Ics_app, List.length_append, HM2.out]
              exact ho) rfl ⟨grown_row hI.1 hg (fun k e => (hown k e).1), hI.2.1.grown hg (fun k e => Nat.lt_of_lt_of_le HDw.out (hown k e).1), Nat.le_trans hI.2.2 hg.size⟩ ?_
            intro j hj
            match j, hj with
            | 0, hj => exact hX 0 hj
            | 1, hj => exact hX 1 hj
            | 2, hj => exact hX 2 hj
            | 3, hj => exact hX 3 hj
            | 4, hj => exact hX 4 hj
            | 5, hj => exact hX 5 hj
            | 6, hj => exact hX 6 hj
            | 7, hj => exact hX 7 hj
            | 8, hj => exact hX 8 hj
            | 9, hj =>
              obtain ⟨g9', e9', h0', hr9'⟩ := hX 9 hj
              exact ⟨g9', e9', ⟨h0'.1, Nat.lt_of_lt_of_le h0'.2 hg.size⟩, hr9'.same (hg.block _ hr9'.lt fun e => by
                have := (hown g9' e.symm).2
                have := h0'.1
                omega)⟩
            | 10, hj => rw [hSi] at hj; cases hj
            | 11, hj =>
              have := dep_at (hC 11 _ rfl hj) 10 rfl
              rw [hSi] at this
              cases this
            | _ + 12, _ => trivial
          · exact o_as _ rfl (hS.get 10 (dep_at hdep 10 rfl) rfl rfl) (Step.still (hX 10 (dep_at hdep 10 rfl)))
        · intro v wq hI hX
          have e11 : HelI w (L2 ++ [x, x]) (v 11) wq := hX 11 (by decide)
          unfold HelI at e11
          have hI2 := hI
          obtain ⟨u, hu⟩ : ∃ z, v 11 = z := ⟨_, rfl⟩
          rw [hu] at e11
          have HE := Lib.hid (show HeldI w wq u (L2 ++ [x, x]) ∧ w.grownBy wq (some D) ∧ DiceOk wq D from ⟨e11, hI.1, hI.2.1⟩)
          clear hI hI2 hX e11
          simp only [putAll, Act.put]
          simp
          rw [hu]
          clear hu
          go_wp2
          go_roundw
          case rel =>
            have h := HE.out.1
            have h2 := h
            unfold HeldI at h2
            rcases h2.2 with ⟨_, e⟩ | ⟨g3, cap3, cur, e, _⟩
            · simp at e
            · refine ⟨id + 1, by omega, by first | rfl | go_num, Lib.hid ⟨g3, cap3, L2 ++ [x, x], e, by rw [← e]; exact h, HE.out.2.1, HE.out.2.2, ?_, ?_⟩⟩
              · rw [List.getElem?_append_left (by rw [HM2.out]; exact HKM.out)]
                exact HX2.out
              · rw [List.length_append, HM2.out, HM5.out]
                simp only [List.length_cons, List.length_nil]
                omega
          case measure => simp [intOf]; omega
      · obtain rfl : id = 9 := by omega
        have d9 : decide (((9 : Nat) : Int) < 9) = false := by decide
        have HE := Lib.hid (OddIs.of HM2.out hmb HQ.out.1 HQ.out.2.1 HQ.out.2.2)
        clear HQ
        go_wp2
        go_ret
        exact HE.out
end Go.Proofs.YtmkggpgpiepjfaaDoor
