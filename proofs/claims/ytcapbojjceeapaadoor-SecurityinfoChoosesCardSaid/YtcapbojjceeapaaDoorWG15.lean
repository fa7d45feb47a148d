/-
  What is proved here: the program's object of infos, and Encode.
-/
import Derived.Test.YtcapbojjceeapaaDoorWIj
namespace Go.Proofs.YtcapbojjceeapaaDoor
open Go.RowKit
set_option maxRecDepth 8000
set_option linter.unusedVariables false
set_option linter.unusedSimpArgs false
def StepK (I : World → Prop) (T : Nat → Bool) (X : Nat → Value → World → Prop) (S : Nat → Bool) (v : Nat → Value) (c : World) (a : Act) (o : Oper) (i : Nat) (a' : Act) (w' : World) : Prop :=
  ∃ u, a' = a.put o.dst u ∧ X i u w' ∧ (Below c.heap.size c w' ∨ (T i = true ∧ I w' ∧ ∀ j, S j = true → X j (v j) w'))
theorem region_factsK {P : Program} {ops : Array Oper} {Q : Exit → Act → World → Prop} {id : Nat} {w : World} (hm : P.follows .mixedOrders = true) (a0 : Act) (w1 : World) (I : World → Prop) (T : Nat → Bool) (X : Nat → Value → World → Prop) (hB : setB2 ops a0.tmps.size = true) (hF : ∀ i, Firm (X i)) (hI : ∀ c c', I c → Below c.heap.size c c' → I c')
    (h0 : Below w1.heap.size w1 w) (h1 : I w)
    (hstep : ∀ (i : Nat) (o : Oper), ops[i]? = some o → ∀ (v : Nat → Value) (S : Nat → Bool) (c : World) (a : Act), I c → ((∀ k, T k = true → S k = false) → Below w1.heap.size w1 c) → (∀ j, S j = true → X j (v j) c) → S i = false → (∀ e ∈ o.after, Region.binds .any e = true → S e.on = true) → SlotsIn ops a0 S v a → Closed ops S →
      o.wp P a c (StepK I T X S v c a o i) Q)
    (hend : ∀ (v : Nat → Value) (c : World), I c → (∀ j, j < ops.size → X j (v j) c) → Q .normal (putAll v 0 ops.toList a0) c) : (Code.region id ops true).wp P Q a0 w := by
  refine region_setX2 hm a0 (fun v => v) (fun v S c => I c ∧ ((∀ k, T k = true → S k = false) → Below w1.heap.size w1 c) ∧ ∀ j, S j = true → X j (v j) c) hB (fun _ => undef) ⟨hI _ _ h1 (below_drewN _ _ 1), fun _ => below_dn h0 1, fun j h => by cases h⟩ ?_ (fun v c S hall hW => hend v c hW.1 fun j hj => hW.2.2 j (hall j hj))
  intro i o ho v S c a hW hSi hdep hS hC
  refine Oper.wp_mono ?_ (hstep i o ho v S c a hW.1 hW.2.1 hW.2.2 hSi hdep hS hC)
  rintro a' w' ⟨u, e, h2, h3⟩
  refine ⟨fun j => if j = i then u else v j, fun j hj => ?_, by simpa using e, ?_, fun hK => ?_, fun j hj => ?_⟩
  · have : j ≠ i := by rintro rfl; rw [hSi] at hj; cases hj
    simp [this]
  · rcases h3 with h3 | h3
    · exact hI _ _ hW.1 h3
    · exact h3.2.1
  · rcases h3 with h3 | h3
    · exact below_on (hW.2.1 fun k hk => by have := hK k hk; simp only [Bool.or_eq_false_iff] at this; exact this.1) h3
    · have := hK i h3.1
      simp at this
  · by_cases hji : j = i
    · subst hji; simpa using h2
    · have hSj : S j = true := by simpa [hji] using hj
      simp only [hji, if_false]
      rcases h3 with h3 | h3
      · exact hF j _ _ _ (hW.2.2 j hSj) h3
      · exact h3.2.2 j hSj
section
variable {a : Act} {c : World} {o : Oper} {I : World → Prop} {T : Nat → Bool} {X : Nat → Value → World → Prop} {S : Nat → Bool} {v : Nat → Value} {i : Nat}
theorem StepK.still {x : Value} (h : X i x c) : StepK I T X S v c a o i (a.put o.dst x) c := ⟨x, rfl, h, .inl (Below.refl _ _)⟩
theorem StepK.new {x : Value} {c' : World} (h : X i x c') (hb : Below c.heap.size c c') : StepK I T X S v c a o i (a.put o.dst x) c' := ⟨x, rfl, h, .inl hb⟩
theorem StepK.turn {x : Value} {c' : World} (h : X i x c') (hK : T i = true) (hI : I c') (hX : ∀ j, S j = true → X j (v j) c') : StepK I T X S v c a o i (a.put o.dst x) c' := ⟨x, rfl, h, .inr ⟨hK, hI, hX⟩⟩
end
section
variable {P : Program} {a : Act} {w : World} {K : Act → World → Prop} {Q : Exit → Act → World → Prop} {o : Oper}
theorem o_val {v : Value} {w' : World} (h : (execOp a.eval o).run P w = .ok (.value v) w') (hK : K (a.put o.dst v) w') : o.wp P a w K Q := by unfold Oper.wp; rw [h]; exact hK
theorem o_ldv (ty : TypeId) (x : Operand) (ho : o.op = .load ty x) (g : Nat) (hx : a.eval x = .pointer (some ⟨g, 0, none⟩)) (vs : List Value) (d : TypeDesc)
    (h : RowV w g vs) (hu : P.underlying ty = some d) (hd : d.isRow = true) (hi : (P.info? ty).map (·.size) = some vs.length) (hK : K (a.put o.dst (.agg vs.toArray)) w) : o.wp P a w K Q :=
  o_val (exec_load_v ty x ho g hx vs d h hu hd hi) hK
end
theorem o_stA {P : Program} {a : Act} {w : World} {K : Act → World → Prop} {Q : Exit → Act → World → Prop} {o : Oper} (ty : TypeId) (x y : Operand) (ho : o.op = .store ty x y) (g i : Nat) (vs : List Value) (u : Value)
    (hx : a.eval x = .pointer (some ⟨g, i, none⟩)) (hy : a.eval y = u) (h : RowV w g vs) (hlt : i < vs.length) (h1 : u.oneCell' = true) (hc : u.cells = #[u]) (hi : (P.info? ty).map (·.size) = some 1)
    (hK : ∀ w', Wr w w' g → RowV w' g (vs.set i u) → K (a.put o.dst undef) w') : o.wp P a w K Q := by
  obtain ⟨t, h⟩ := h
  have hst := run_storeCells_at P g i t [u] 0 _ w h (by simp; omega) (by simpa using h1)
  have hr : (storeVar ty ⟨g, i, none⟩ u).run P w = .ok () (w.setRow g (vs.set i u).toArray) := by
    cases hq : P.info? ty with
    | none => simp [hq] at hi
    | some i0 =>
      have hs : i0.size = 1 := by simpa [hq] using hi
      have e : vs.take i ++ u :: vs.drop (i + 1) = vs.set i u := (List.set_eq_take_append_cons_drop ..).trans (if_pos hlt) |>.symm
      simp only [Nat.add_zero] at hst
      simp [storeVar, sizeOf, typeInfo, hq, hc, hs, hst, e]
  unfold Oper.wp execOp
  simp only [ho, hx, hy, Instr.storeAt, Instr.sureAddr, Sem.run_bind, Sem.run_pure, Result.andThen_ok, hr]
  exact hK _ (Wr.row _ _ _) ⟨t, setRow_heap w g _ _ t (0, 0) h⟩
theorem ev1 {a : Act} {x : Operand} {v : Value} (h : a.eval x = v) : (#[x] : Array Operand).map a.eval = #[v] := by simp [h]
theorem fa_d2 (g : Nat) (w : World) : (Instr.fieldAt 54 (.pointer (some ⟨g, 0, none⟩)) 2).run Tryd.prog w = .ok (.pointer (some ⟨g, 2, none⟩)) w := by kernel_rfl
theorem ag_n : ∀ w, (isAgg 52).run Tryd.prog w = .ok false w := fun w => by kernel_rfl
theorem size_ns : (Tryd.prog.info? 52).map (·.size) = some 1 := by kernel_rfl
theorem own3_keep {w w' : World} {base n s : Nat} {e : TypeId} {v : Value} {xs : List Value} (h : w.ownsRow base e s v n xs) (hk : ∀ k, base ≤ k → w'.heap[k]? = w.heap[k]?) : w'.ownsRow base e s v n xs := by
  rcases h with ⟨h1, h2⟩
  rcases h2 with ⟨rfl, rfl⟩ | ⟨g, cap, cur, rfl, hg, hh, h4, h5, h6, h7⟩
  · exact ⟨h1, .inl ⟨rfl, rfl⟩⟩
  · exact ⟨h1, .inr ⟨g, cap, cur, rfl, hg, (hk g hg).trans hh, h4, h5, h6, h7⟩⟩
def InfF (w0 : World) (x : Im) (u : Value) (c : World) : Prop := ∃ A cv, u = .agg (nodV 48 none 0 0 A (kidF x).len cv).toArray ∧ (kidF x).len ≤ cv ∧ SeesN c (newB w0 c) A (kidF x)
def InfS (w0 : World) (x : Im) (u : Value) (c : World) : Prop := ∃ A cv g, u = .slice (some ⟨g, 0, none⟩) 1 1 ∧ newB w0 c g ∧ RowV c g (nodV 48 none 0 0 A (kidF x).len cv) ∧ (kidF x).len ≤ cv ∧ SeesN c (newB w0 c) A (kidF x)
theorem InfF.firm (w0 : World) (x : Im) : Firm (InfF w0 x) := by
  rintro u c c' ⟨A, cv, h1, h2, h3⟩ hb
  exact ⟨A, cv, h1, h2, h3.newOn hb⟩
theorem InfS.firm (w0 : World) (x : Im) : Firm (InfS w0 x) := by
  rintro u c c' ⟨A, cv, g, h1, h0, h4, h2, h3⟩ hb
  exact ⟨A, cv, g, h1, ⟨h0.1, Nat.lt_of_lt_of_le h0.2 hb.size⟩, h4.on hb, h2, h3.newOn hb⟩
theorem InfF.elder {w0 : World} {x : Im} {u : Value} {c c' : World} (h : InfF w0 x u c) (hk : ∀ k, w0.heap.size ≤ k → k < c.heap.size → c'.heap[k]? = c.heap[k]?) (hs : c.heap.size ≤ c'.heap.size) : InfF w0 x u c' := by
  obtain ⟨A, cv, h1, h2, h3⟩ := h
  exact ⟨A, cv, h1, h2, (h3.keep fun q hq => World.cell?_of_block (hk _ hq.1 hq.2)).imp fun b hb => ⟨hb.1, Nat.lt_of_lt_of_le hb.2 hs⟩⟩
theorem InfS.elder {w0 : World} {x : Im} {u : Value} {c c' : World} (h : InfS w0 x u c) (hk : ∀ k, w0.heap.size ≤ k → k < c.heap.size → c'.heap[k]? = c.heap[k]?) (hs : c.heap.size ≤ c'.heap.size) : InfS w0 x u c' := by
  obtain ⟨A, cv, g, h1, h0, h4, h2, h3⟩ := h
  exact ⟨A, cv, g, h1, ⟨h0.1, Nat.lt_of_lt_of_le h0.2 hs⟩, h4.same (hk _ h0.1 h0.2), h2, (h3.keep fun q hq => World.cell?_of_block (hk _ hq.1 hq.2)).imp fun b hb => ⟨hb.1, Nat.lt_of_lt_of_le hb.2 hs⟩⟩
theorem InfF.row {w0 : World} {x : Im} {u : Value} {c c' : World} {v : Value} (h : InfF w0 x u c) (hg : c.grownBy c' v.ownBlock) (hv : ∀ g, v.ownBlock = some g → g < w0.heap.size) : InfF w0 x u c' :=
  h.elder (fun k h1 h2 => hg.block k h2 fun e => by have := hv _ e.symm; omega) hg.size
theorem InfS.row {w0 : World} {x : Im} {u : Value} {c c' : World} {v : Value} (h : InfS w0 x u c) (hg : c.grownBy c' v.ownBlock) (hv : ∀ g, v.ownBlock = some g → g < w0.heap.size) : InfS w0 x u c' :=
  h.elder (fun k h1 h2 => hg.block k h2 fun e => by have := hv _ e.symm; omega) hg.size
theorem InfF.put {w0 : World} {x : Im} {u : Value} {c c' : World} {g : Nat} (h : InfF w0 x u c) (hw : Wr c c' g) (hg : g < w0.heap.size) : InfF w0 x u c' :=
  h.elder (fun k h1 h2 => hw.2.2.2.2 k (by omega)) (Nat.le_of_eq hw.2.2.2.1.symm)
theorem InfS.put {w0 : World} {x : Im} {u : Value} {c c' : World} {g : Nat} (h : InfS w0 x u c) (hw : Wr c c' g) (hg : g < w0.heap.size) : InfS w0 x u c' :=
  h.elder (fun k h1 h2 => hw.2.2.2.2 k (by omega)) (Nat.le_of_eq hw.2.2.2.1.symm)
def HelF (w : World) (f : F) (u : Value) (c : World) : Prop := HeldN w c u f
theorem HelF.firm (w : World) (f : F) : Firm (HelF w f) := fun u c c' h hb => HeldN.on h hb
theorem objsI_take {l : List Im} {j : Nat} {x : Im} (h : l[j]? = some x) : objsI (l.take (j + 1)) = (objsI (l.take j)).app (.cons 48 [] (kidF x) .nil) := by
  have e : l.take (j + 1) = l.take j ++ [x] := by rw [List.take_add_one, h]; rfl
  rw [e, objsI_snoc]
def SetIs (l : List Im) (w : World) (e : Ending) (w' : World) : Prop := ∃ A2 c2, e = .returned (.agg (nodV 49 none 0 0 A2 l.length c2).toArray) ∧ l.length ≤ c2 ∧ SeesN w' (newB w w') A2 (objsI l) ∧ Below w.heap.size w w'
set_option maxHeartbeats 6400000 in
set_option maxRecDepth 20000 in
theorem p_set_obj (l : List Im) (n : Nat) (hn : l.length = n) (hm : n ≤ 16) (hv : ∀ x ∈ l, oneI x = 0) (A : Option Addr) (c : Nat) (w : World) (hs : SeesP w (· < w.heap.size) A (Ics l)) (ht : TabX w) :
    Calls Tryd.prog 29 #[.slice A n c] w (SetIs l w) := by
  obtain ⟨i0, hi, hz0, hz1, hz2⟩ := info_parts info_node
  have HS := Lib.hid hs
  have HN := Lib.hid hn
  have HV := Lib.hid hv
  have HT := Lib.hid ht
  have HB := Lib.hid (Below.refl w.heap.size w)
  clear hs hn hv ht
  go_enter Tryd.func29, Tryd.ntmps29
  go_wp2_with (first
    | ((with_reducible refine at_alloc_ (d := 2) ?_); refine wpList_alloc_v (op := ⟨some 2, _, _, _, _, _⟩) rfl 54 rfl zerN info_n ?_; intro g2 w2 hf hr; have H2 := Lib.hid (show _ ∧ _ ∧ _ from ⟨hf.bl HB.out, hr, hf.ge HB.out⟩); clear hf hr)
    | ((with_reducible refine at_alloc_ (d := 3) ?_); refine wpList_alloc_v (op := ⟨some 3, _, _, _, _, _⟩) rfl 54 rfl zerN info_n ?_; intro g3 w3 hf hr; have H3 := Lib.hid (show _ ∧ _ ∧ _ ∧ _ ∧ _ from ⟨hf.bl H2.out.1, H2.out.2.1.fresh hf, hr, hf.ge H2.out.1, H2.out.2.1.ne hf⟩); clear hf hr)
    | ((with_reducible refine at_store_ (i := 3) ?_); go_must (refine wpList_store_v rfl 54 (.tmp 3) (.tmp 6) rfl g3 zerN (nodV 49 none 0 0 none 0 0) rfl rfl H3.out.2.2.1 rfl (nodV_one _ _ _ _ _ _ _) size_n ?_); intro w4 hw hr; have H4 := Lib.hid (show Below w.heap.size w w4 ∧ RowV w4 g2 zerN ∧ RowV w4 g3 (nodV 49 none 0 0 none 0 0) ∧ g3 < w4.heap.size ∧ g2 < w4.heap.size ∧ w.heap.size ≤ g3 ∧ g2 ≠ g3 ∧ w.heap.size ≤ g2 from ⟨Wr.bl H3.out.1 hw H3.out.2.2.2.1, H3.out.2.1.wr hw H3.out.2.2.2.2, hr, hr.lt, (H3.out.2.1.wr hw H3.out.2.2.2.2).lt, H3.out.2.2.2.1, H3.out.2.2.2.2, H2.out.2.2⟩); clear hw hr))
  go_loopw [9] (fun i wr => ∃ (j : Nat), j ≤ n ∧ i = .int .i64 (j : Int) ∧ Hid (∃ Ah ch, RowV wr g3 (nodV 49 none 0 0 Ah j ch) ∧ HeldN w4 wr (.slice Ah j ch) (objsI (l.take j)) ∧ Below w.heap.size w wr ∧ w4.heap.size ≤ wr.heap.size ∧ RowV wr g2 zerN)) (fun i _ => n - (intOf i).toNat)
  case atStart => exact ⟨0, by omega, rfl, Lib.hid ⟨none, 0, H4.out.2.2.1, by rw [List.take_zero]; exact HeldN.start _ _, H4.out.1, Nat.le_refl _, H4.out.2.1⟩⟩
  case round =>
    obtain ⟨j, hj, rfl, HR0⟩ := hrel
    obtain ⟨Ah, ch, hR0⟩ := HR0.out
    have HR := Lib.hid hR0
    clear HR0 hR0
    by_cases hlt : j < n
    · have dj : decide ((j : Int) < (n : Int)) = true := by simp; omega
      obtain ⟨x, hx⟩ : ∃ x, l[j]? = some x := ⟨_, List.getElem?_eq_getElem (by rw [HN.out]; exact hlt)⟩
      obtain ⟨b, off, rfl, hb, hr⟩ := im_at HS.out hx
      have hr2 := fun cur (h : Below w.heap.size w cur) => rangeAt_on hr hb h
      have hobj := fun w0 (h : TabX w0) => p_info_obj x (HV.out x (List.mem_of_getElem? hx)) w0 h
      obtain ⟨us, hus⟩ : ∃ us, x.cs = us := ⟨_, rfl⟩
      have hu5 : us.length = 5 := by rw [← hus]; rfl
      have hu1 : ∀ u ∈ us, u.oneCell' = true := by rw [← hus]; exact x.cs_one
      rw [hus] at hr2 hobj
      have htk := objsI_take hx
      obtain ⟨fN, hfN⟩ : ∃ q, objsI (l.take j) = q := ⟨_, rfl⟩
      have hfl : fN.len = j := by rw [← hfN, objsI_len, List.length_take, HN.out]; omega
      rw [hfN] at HR htk
      have HU := Lib.hid (show _ ∧ _ ∧ _ from ⟨hr2, hobj, hu5⟩)
      have HU1 := Lib.hid hu1
      have HTK := Lib.hid htk
      clear hr hr2 hobj hu5 hu1 hus hx htk hfN hb
      go_wp2_with (first
        | ((with_reducible refine at_load_ (d := 12) ?_); refine wpList_load_mid rfl 44 (.tmp 11) rfl b (off + j * 5) rfl us _ (HU.out.1 _ HR.out.2.2.1) Tryd.underlying44 rfl (by rw [HU.out.2.2]; exact size_x) ?_)
        | ((with_reducible refine at_alloc_ (d := 5) ?_); refine wpList_alloc_v (op := ⟨some 5, _, _, _, _, _⟩) rfl 44 rfl zerX info_x ?_; intro g5 w5 hf hr; have H5 := Lib.hid (show _ ∧ _ from ⟨hf, hr⟩); clear hf hr)
        | ((with_reducible refine at_store_ (i := 5) ?_); refine wpList_store_v rfl 44 (.tmp 5) (.tmp 12) rfl g5 zerX us rfl rfl H5.out.2 HU.out.2.2 HU1.out (by rw [HU.out.2.2]; exact size_x) ?_; intro w6 hw hr; have hbw := H5.out.1.wr_bl hw; have HX5 := Lib.hid (show wr.heap.size ≤ g5 from Nat.le_of_eq H5.out.1.1.symm); have H6 := Lib.hid (show RowV w6 g3 (nodV 49 none 0 0 Ah j ch) ∧ HeldN w4 w6 (.slice Ah j ch) fN ∧ w4.heap.size ≤ w6.heap.size ∧ g3 < w4.heap.size ∧ Below w.heap.size w w6 ∧ RowV w6 g5 us ∧ RowV w6 g2 zerN from ⟨HR.out.1.on hbw, HR.out.2.1.on hbw, Nat.le_trans HR.out.2.2.2.1 hbw.size, H4.out.2.2.2.1, below_on HR.out.2.2.1 hbw, hr, HR.out.2.2.2.2.on hbw⟩); clear hw hr hbw))
      have HNE := Lib.hid (show (∀ g, (Value.slice Ah j ch).ownBlock = some g → g5 ≠ g) ∧ (∀ g, (Value.slice Ah j ch).ownBlock = some g → g2 ≠ g) from by
        obtain ⟨cs, hc1, _⟩ := HR.out.2.1
        refine ⟨fun g e => ?_, fun g e => ?_⟩
        · have := (own_lt3 hc1 g e).2
          have := HX5.out
          omega
        · have := (own_lt3 hc1 g e).1
          have := H4.out.2.2.2.2.1
          omega)
      have HN3 := Lib.hid (show ∀ g, (Value.slice Ah j ch).ownBlock = some g → g3 ≠ g from by
        obtain ⟨cs, hc1, _⟩ := HR.out.2.1
        intro g e
        have := (own_lt3 hc1 g e).1
        have := H4.out.2.2.2.1
        omega)
      have HW4 := Lib.hid (show w.heap.size ≤ w4.heap.size from H4.out.1.size)
      have HN5 := Lib.hid (show g5 ≠ g3 from by have := HX5.out; have := HR.out.2.2.2.1; have := H4.out.2.2.2.1; omega)
      refine region_factsK (by kernel_rfl) _ w6 (fun c => w6.heap.size ≤ c.heap.size ∧ Below w.heap.size w c ∧ RowV c g5 us ∧ RowV c g2 zerN ∧ ∃ A0 n0 c0, RowV c g3 (nodV 49 none 0 0 A0 n0 c0)) (fun k => decide (k = 5 ∨ k = 7)) (factL [fun u _ => u = .pointer (some ⟨g3, 2, none⟩), fun u _ => u = .slice Ah j ch, fun u _ => u = .agg us.toArray, InfF w6 x, InfS w6 x, HelF w4 (fN.app (.cons 48 [] (kidF x) .nil)), fun u _ => u = .pointer (some ⟨g3, 2, none⟩), fun _ c => ∃ A9 c9, RowV c g3 (nodV 49 none 0 0 A9 (j + 1) c9) ∧ HeldN w4 c (.slice A9 (j + 1) c9) (fN.app (.cons 48 [] (kidF x) .nil))]) (by kernel_rfl) (firm_list (by simp only [List.forall_mem_cons]; exact ⟨firm_eq _, firm_eq _, firm_eq _, InfF.firm _ _, InfS.firm _ _, HelF.firm _ _, firm_eq _, fun u c c2 h hb => (by obtain ⟨A9, c9, h1, h2⟩ := h; exact ⟨A9, c9, h1.on hb, h2.on hb⟩), fun X h => by cases h⟩)) (fun c c2 h hb => ⟨Nat.le_trans h.1 hb.size, below_on h.2.1 hb, h.2.2.1.on hb, h.2.2.2.1.on hb, (by obtain ⟨A0, n0, c0, h0⟩ := h.2.2.2.2; exact ⟨A0, n0, c0, h0.on hb⟩)⟩) (Below.refl _ _) ⟨Nat.le_refl _, H6.out.2.2.2.2.1, H6.out.2.2.2.2.2.1, H6.out.2.2.2.2.2.2, ⟨_, _, _, H6.out.1⟩⟩ ?_ ?_
      · refine ops_all (allI.cons ?_ (allI.cons ?_ (allI.cons ?_ (allI.cons ?_ (allI.cons ?_ (allI.cons ?_ (allI.cons ?_ (allI.cons ?_ allI.nil)))))))) <;> intro v S c a hI hw1 hX hSi hdep hS hC
        · exact o_fa _ (.tmp 3) 2 rfl (hS.old 3 rfl) (fa_d2 g3 _) (StepK.still rfl)
        · have h5 : S 5 = false := by
            rcases h : S 5 with _ | _
            · rfl
            · have := dep_at (hC 5 _ rfl h) 1 rfl; rw [hSi] at this; cases this
          have h7 : S 7 = false := by
            rcases h : S 7 with _ | _
            · rfl
            · have := dep_at (hC 7 _ rfl h) 5 rfl; rw [h5] at this; cases this
          have hB := hw1 (fun k hk => by
            have hk : k = 5 ∨ k = 7 := by simpa using hk
            rcases hk with rfl | rfl
            · exact h5
            · exact h7)
          exact o_ld _ (.tmp 13) rfl ((hS.get 0 (dep_at hdep 0 rfl) rfl rfl).trans (hX 0 (dep_at hdep 0 rfl))) (((H6.out.1.on hB).cell 2).trans rfl) ag_n (StepK.still rfl)
        · exact o_ldv 44 (.tmp 5) rfl g5 (hS.old 5 rfl) us _ hI.2.2.1 Tryd.underlying44 rfl (by rw [HU.out.2.2]; exact size_x) (StepK.still rfl)
        · refine o_callV (.func 48) 48 #[.tmp 15] _ rfl rfl (ev1 ((hS.get 2 (dep_at hdep 2 rfl) rfl rfl).trans (hX 2 (dep_at hdep 2 rfl)))) (by kernel_rfl) (HU.out.2.1 c (HT.out.on hI.2.1)) (fun e w9 h => ?_)
          obtain ⟨A2, c2, rfl, h2, h3, h4⟩ := h
          exact ⟨_, rfl, StepK.new ⟨A2, c2, rfl, h2, h3.imp fun b hb => newB_imp (w := w6) hb hI.1 (Nat.le_refl _)⟩ h4⟩
        · obtain ⟨A2, c2, e2, h2, h3⟩ := (hX 3 (dep_at hdep 3 rfl))
          refine o_bsl _ 54 1 _ rfl Tryd.underlying52 (pe1 ((hS.get 3 (dep_at hdep 3 rfl) rfl rfl).trans e2)) (bs1 _ _ _) ?_
          intro g w9 hf hr
          exact StepK.new ⟨A2, c2, g, rfl, ⟨by rw [hf.1]; exact hI.1, hr.lt⟩, hr, h2, h3.newOn hf.bw⟩ hf.bw
        · obtain ⟨A2, c2, g, e2, h0, hr, h2, h3⟩ := (hX 4 (dep_at hdep 4 rfl))
          obtain ⟨cs, hc1, hc2⟩ := H6.out.2.1
          have hold := own_lt3 hc1
          have h7 : S 7 = false := by
            rcases h : S 7 with _ | _
            · rfl
            · have := dep_at (hC 7 _ rfl h) 5 rfl; rw [hSi] at this; cases this
          have hB := hw1 (fun k hk => by
            have hk : k = 5 ∨ k = 7 := by simpa using hk
            rcases hk with rfl | rfl
            · exact hSi
            · exact h7)
          refine wp_append_lies _ (.tmp 14) (.tmp 17) 52 rfl w4.heap.size 54 i0 _ 3 56 Tryd.underlying52 hi hz0 hz1 hz2 rfl (by decide) (.slice Ah j ch) j cs ((hS.get 1 (dep_at hdep 1 rfl) rfl rfl).trans (hX 1 (dep_at hdep 1 rfl))) (by have h := own3_on hc1 hB; rw [hfl] at h; exact h) ⟨g, 0, none⟩ 1 1 (nodV 48 none 0 0 A2 (kidF x).len c2) ((hS.get 4 (dep_at hdep 4 rfl) rfl rfl).trans e2) rfl (RowV.src hr) (nodV_one _ _ _ _ _ _ _) (by decide) (by unfold maxLen; omega) (by omega) (Nat.le_trans H6.out.2.2.1 hI.1) _ rfl ?_
          intro g' cap' w' ho hg hl hlt
          refine StepK.turn (HeldN.snoc (wr := w6) (w1 := c) (wa := c) (x := []) (k := kidF x) hB (Below.refl _ _) ⟨fun _ => rfl, Nat.zero_le _, h2⟩ (.inl rfl) h3 H6.out.2.2.1 cs hc1 hc2 (by rw [hfl]) ho hg hl) rfl ⟨Nat.le_trans hI.1 hg.size, row_below hI.2.1 hg (fun k e => Nat.le_trans HW4.out (hold k e).1), hI.2.2.1.same (hg.block _ hI.2.2.1.lt fun e => HNE.out.1 _ e.symm rfl), hI.2.2.2.1.same (hg.block _ hI.2.2.2.1.lt fun e => HNE.out.2 _ e.symm rfl), (by obtain ⟨Aq, nq, cq, hq⟩ := hI.2.2.2.2; exact ⟨Aq, nq, cq, hq.same (hg.block _ hq.lt fun e => HN3.out _ e.symm rfl)⟩)⟩ ?_
          intro j hj
          match j, hj with
          | 0, hj => exact hX 0 hj
          | 1, hj => exact hX 1 hj
          | 2, hj => exact hX 2 hj
          | 3, hj => exact InfF.row (hX 3 hj) hg fun k e => (hold k e).2
          | 4, hj => exact InfS.row (hX 4 hj) hg fun k e => (hold k e).2
          | 5, hj => rw [hSi] at hj; cases hj
          | 6, hj => exact hX 6 hj
          | 7, hj => rw [h7] at hj; cases hj
          | _ + 8, _ => trivial
        · exact o_fa _ (.tmp 3) 2 rfl (hS.old 3 rfl) (fa_d2 g3 _) (StepK.still rfl)
        · have hx5 := (hX 5 (dep_at hdep 5 rfl))
          obtain ⟨Aq, nq, cq, hq⟩ := hI.2.2.2.2
          obtain ⟨A9, c9, e9, hl9, hs9⟩ := HeldN.slice hx5
          have hlen : (fN.app (.cons 48 [] (kidF x) .nil)).len = j + 1 := by rw [F.len_app, hfl]; rfl
          rw [hlen] at e9 hl9
          refine o_stA 52 (.tmp 19) (.tmp 18) rfl g3 2 (nodV 49 none 0 0 Aq nq cq) (v 5) ((hS.get 6 (dep_at hdep 6 rfl) rfl rfl).trans (hX 6 (dep_at hdep 6 rfl))) (hS.get 5 (dep_at hdep 5 rfl) rfl rfl) hq (show 2 < 3 by decide) (by rw [e9]; rfl) (by rw [e9]; rfl) size_ns ?_
          intro w9 hw hr
          have hne : g3 < w4.heap.size := H6.out.2.2.2.1
          have hld : HelF w4 (fN.app (.cons 48 [] (kidF x) .nil)) (v 5) w9 := by
            obtain ⟨cs, k1, k2⟩ := hx5
            refine ⟨cs, own3_keep k1 (fun k hk => hw.2.2.2.2 k (by omega)), HoldsN.imp (fun b hb => ⟨⟨hb.1.1, by rw [hw.2.2.2.1]; exact hb.1.2⟩, hb.2⟩) (HoldsN.keep (fun q hq => World.cell?_of_block (hw.2.2.2.2 _ (by have := hq.1.1; omega))) k2)⟩
          refine StepK.turn ⟨A9, c9, (by rw [e9] at hr; exact hr), (by rw [← e9]; exact hld)⟩ rfl ⟨by rw [hw.2.2.2.1]; exact hI.1, Wr.bl hI.2.1 hw H4.out.2.2.2.2.2.1, hI.2.2.1.wr hw HN5.out, hI.2.2.2.1.wr hw H4.out.2.2.2.2.2.2.1, ⟨_, _, _, (by rw [e9] at hr; exact hr)⟩⟩ ?_
          intro j hj
          match j, hj with
          | 0, hj => exact hX 0 hj
          | 1, hj => exact hX 1 hj
          | 2, hj => exact hX 2 hj
          | 3, hj => exact InfF.put (hX 3 hj) hw (Nat.lt_of_lt_of_le hne H6.out.2.2.1)
          | 4, hj => exact InfS.put (hX 4 hj) hw (Nat.lt_of_lt_of_le hne H6.out.2.2.1)
          | 5, hj => exact hld
          | 6, hj => exact hX 6 hj
          | 7, hj => rw [hSi] at hj; cases hj
          | _ + 8, _ => trivial
      · intro v c hI hX
        simp only [putAll, Act.put]
        simp
        have HE := Lib.hid (show ∃ A9 c9, RowV c g3 (nodV 49 none 0 0 A9 (j + 1) c9) ∧ HeldN w4 c (.slice A9 (j + 1) c9) (objsI (l.take (j + 1))) ∧ Below w.heap.size w c ∧ w4.heap.size ≤ c.heap.size ∧ RowV c g2 zerN from by
          obtain ⟨A9, c9, h1, h2⟩ := hX 7 (by decide)
          exact ⟨A9, c9, h1, by rw [HTK.out]; exact h2, hI.2.1, Nat.le_trans H6.out.2.2.1 hI.1, hI.2.2.2.1⟩)
        clear hI hX
        go_wp2
        go_roundw
        case rel => exact ⟨j + 1, by omega, by first | rfl | go_num, HE⟩
        case measure => simp [intOf]; omega
    · obtain rfl : j = n := by omega
      have dj : decide ((j : Int) < (j : Int)) = false := by simp
      have e6 : objsI (l.take j) = objsI l := by rw [List.take_of_length_le (by rw [HN.out]; exact Nat.le_refl _)]
      rw [e6] at HR
      have HH := Lib.hid (show SeesN wr (newB w4 wr) Ah (objsI l) ∧ j ≤ ch from by
        obtain ⟨A9, c9, e9, h1, h2⟩ := HR.out.2.1.slice
        injection e9 with e1 e2 e3
        subst e1 e3
        rw [objsI_len, HN.out] at h1
        exact ⟨h2, h1⟩)
      clear e6
      go_wp2_with (first
        | ((with_reducible refine at_load_ (d := 21) ?_); refine wpList_load_v rfl 54 (.tmp 3) rfl g3 rfl _ _ HR.out.1 Tryd.underlying54 rfl size_n ?_)
        | ((with_reducible refine at_store_ (i := 2) ?_); go_must (refine wpList_store_v rfl 54 (.tmp 2) (.tmp 21) rfl g2 zerN (nodV 49 none 0 0 Ah j ch) rfl rfl HR.out.2.2.2.2 rfl (nodV_one _ _ _ _ _ _ _) size_n ?_); intro w12 hw hr; have H12 := Lib.hid (show _ ∧ _ from ⟨hw, hr⟩); clear hw hr))
      exact bodyPost_ret (results_v rfl _ _ g2 (nodV 49 none 0 0 Ah j ch) _ rfl H12.out.2 Tryd.underlying54 rfl size_n) rfl ⟨_, ch, by rw [HN.out], by rw [HN.out]; exact HH.out.2, SeesN.put HH.out.1 H12.out.1 H4.out.2.2.2.2.1 H4.out.1.size, Wr.bl HR.out.2.2.1 H12.out.1 H4.out.2.2.2.2.2.2.2⟩
set_option maxRecDepth 8000
set_option linter.unusedVariables false
set_option linter.unusedSimpArgs false
theorem numF_size (x : Im) : ∀ l, (numF x l).size = l.length
  | [] => rfl
  | (t, s, c) :: r => by simp only [numF, F.size, List.length_cons]; rw [numF_size x r]; omega
theorem kidF_size (x : Im) : (kidF x).size ≤ 4 := by
  have := (numsI_len x.p).2
  simp only [kidF, F.size, numF_size]
  omega
theorem objsI_size : ∀ l : List Im, (objsI l).size ≤ 5 * l.length
  | [] => Nat.le_refl _
  | x :: r => by
    have h1 := objsI_size r
    have h2 := kidF_size x
    simp only [objsI, F.size, List.length_cons]
    omega
theorem setF_size (l : List Im) : (setF l).size ≤ 5 * l.length + 1 := by
  have := objsI_size l
  simp only [setF, F.size]
  omega
theorem numsI_mem {p : Int} {t : Int} {s c : Nat} (h : (t, s, c) ∈ numsI p) : (t = 2 ∨ t = 4) ∧ s ≤ 4 := by
  unfold numsI at h
  rcases List.mem_cons.1 h with h | h
  · simp at h; omega
  · split at h
    · simp at h; omega
    · split at h
      · simp at h; omega
      · cases h
theorem numF_ok (x : Im) : ∀ l, (∀ t s c, (t, s, c) ∈ l → (t = 2 ∨ t = 4) ∧ s ≤ 4) → (numF x l).ok
  | [], _ => trivial
  | (t, s, c) :: r, h => by
    obtain ⟨h1, h2⟩ := h t s c (List.mem_cons_self ..)
    exact ⟨by omega, by rw [octL_length]; omega, trivial, numF_ok x r fun t s c h3 => h t s c (List.mem_cons_of_mem _ h3)⟩
theorem kidF_ok (x : Im) : (kidF x).ok := ⟨by decide, by rw [idL_len]; decide, trivial, numF_ok x _ fun _ _ _ h => numsI_mem h⟩
theorem objsI_ok : ∀ l : List Im, (objsI l).ok
  | [] => trivial
  | x :: r => ⟨by decide, Nat.zero_le _, kidF_ok x, objsI_ok r⟩
theorem setF_ok (l : List Im) : (setF l).ok := ⟨by decide, Nat.zero_le _, objsI_ok l, trivial⟩
set_option maxHeartbeats 1600000 in
theorem p_encode (l : List Im) (n : Nat) (hn : l.length = n) (hm : n ≤ 140737488351232) (A : Option Addr) (c : Nat) (w : World) (hs : SeesP w (· < w.heap.size) A (Ics l)) (ht : TabX w) :
    Calls Tryd.prog 8 #[.slice A n c] w (GivesN w (seB l) (seE l)) := by
  have hc := p_valid l n hn hm A c w hs
  obtain ⟨v, hv⟩ : ∃ v, vaE l = v := ⟨_, rfl⟩
  rw [hv] at hc
  have HC := Lib.hid hc
  by_cases h0 : v = 0
  · subst h0
    obtain ⟨h1, h2⟩ := vaE_ok hv
    have HL := Lib.hid (fun w0 (h : SeesP w0 (· < w0.heap.size) A (Ics l)) (h3 : TabX w0) => p_set_obj l n hn (by omega) h2 A c w0 h h3)
    have HS := Lib.hid (show _ ∧ _ from ⟨hs, ht⟩)
    have hz := setF_size l
    have HF := Lib.hid (show seB l = encB (setF l) ∧ seE l = encE (setF l) ∧ l.length = n from ⟨by unfold seB; rw [if_pos hv], by unfold seE; rw [if_pos hv], hn⟩)
    have HE : Hid (∀ (A : Option Addr) (c : Nat) (w : World), SeesF w (· < w.heap.size) A (setF l) → Calls Tryd.prog 28 #[.slice A 1 c] w (GivesN w (encB (setF l)) (encE (setF l)))) := Lib.hid (fun A c w h => tlv_encode_n (setF l) A c w (by omega) (setF_ok l) h)
    clear hc hs hn hv h1 h2 ht hz
    go_enter Tryd.func8, Tryd.ntmps8
    go_wp2_with (first
      | (go_at_call 13; ((with_reducible refine HC.out.mono ?_); rintro e w1 ⟨rfl, hb⟩); have H1 := Lib.hid hb; clear hb)
      | (go_at_call 29; ((with_reducible refine (HL.out _ (SeesP.on2 HS.out.1 H1.out) (HS.out.2.on H1.out)).mono ?_); rintro e w2 ⟨A2, c2, rfl, h1, h2, hb⟩); rw [HF.out.2.2] at h1 ⊢; have H2 := Lib.hid (show _ ∧ _ ∧ _ from ⟨h1, h2, hb⟩); clear h1 h2 hb)
      | ((with_reducible refine at_any_ (d := 12) ?_); go_must (refine wpList_bslV rfl 52 54 1 _ rfl Tryd.underlying52 (pe1 rfl) (bs1 _ _ _) ?_); intro g5 w3 hf hr; have H3 := Lib.hid (show Below w.heap.size w w3 ∧ SeesF w3 (· < w3.heap.size) (some ⟨g5, 0, none⟩) (setF l) from by
          have hb := below_on (below_on H1.out H2.out.2.2) hf.bw
          obtain ⟨ks, k1, k2⟩ := H2.out.2.1.newOn hf.bw
          exact ⟨hb, ⟨_, .inr ⟨g5, 0, rfl, hr.lt, fun j hj => by rw [Nat.zero_add, hr.cell]⟩, none, 0, A2, c2, ks, [], (by rw [objsI_len, HF.out.2.2]; rfl), fun _ => rfl, .inl rfl, k1.imp fun b hb => hb.2, HoldsP.imp (fun b hb => hb.2) k2.holds, rfl⟩⟩); clear hf hr)
      | (go_at_call 28; ((with_reducible refine (HE.out _ _ _ H3.out.2).mono ?_); rintro e w4 ⟨A4, c4, rfl, h1, h2, h3⟩); have H4 := Lib.hid (show _ ∧ _ ∧ _ from ⟨h1, h2, h3⟩); clear h1 h2 h3))
    have HD := Lib.hid (show GivesN w (seB l) (seE l) (.returned (.tuple #[.slice A4 (encB (setF l)).length c4, .int .i64 (encE (setF l))])) w4 from by
      rw [HF.out.1, HF.out.2.1]
      exact ⟨A4, c4, rfl, H4.out.1.imp fun b hb => ⟨Nat.le_trans H3.out.1.size hb.1, hb.2⟩, below_on H3.out.1 H4.out.2.1, H4.out.2.2⟩)
    go_ret2
    exact HD.out
  · have d0 : (v != 0) = true := by simpa using h0
    have HF := Lib.hid (show seB l = [] ∧ seE l = v from ⟨by unfold seB; rw [if_neg (by rw [hv]; exact h0)], by unfold seE; rw [if_neg (by rw [hv]; exact h0)]; exact hv⟩)
    clear hc hs hn hv h0 ht
    go_enter Tryd.func8, Tryd.ntmps8
    go_wp2_with (go_at_call 13; ((with_reducible refine HC.out.mono ?_); rintro e w1 ⟨rfl, hb⟩); have H1 := Lib.hid hb; clear hb)
    have HD := Lib.hid (show GivesN w (seB l) (seE l) (.returned (.tuple #[.slice none 0 0, .int .i64 v])) w1 from by
      rw [HF.out.1, HF.out.2]
      exact ⟨none, 0, rfl, .inl rfl, H1.out, Nat.le_refl _⟩)
    go_ret2
    exact HD.out
end Go.Proofs.YtcapbojjceeapaaDoor
