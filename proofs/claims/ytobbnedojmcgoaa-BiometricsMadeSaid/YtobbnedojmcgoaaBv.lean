/-
  What is proved here: the law BiometricsMade as a function returns true, whatever numbers it is handed.
-/
import Derived.Test.YtobbnedojmcgoaaBs
import Derived.Test.YtobbnedojmcgoaaBu
import Derived.Test.YtobbnedojmcgoaaRs3
namespace Go.Proofs.Ytobbnedojmcgoaa
open Go.RowKit
set_option linter.unusedVariables false
set_option linter.unusedSimpArgs false

theorem listF_vb {l : List Tm} (h : ∀ x ∈ l, x.d.length ≤ 2000) : (listF l).vb 2000 := by
  have ho : ∀ n s : Nat, s ≤ 4 → (octL n s).length ≤ 2000 := fun n s hs => by rw [octL_length]; omega
  have g : (objsF l).vb 2000 := by
    induction l with
    | nil => trivial
    | cons y r ih =>
      refine ⟨by decide, Nat.zero_le _, ⟨by decide, Nat.zero_le _, ?_, by decide, h y (List.mem_cons_self ..), trivial, trivial⟩, ih fun x hx => h x (List.mem_cons_of_mem _ hx)⟩
      exact ⟨by decide, ho _ _ (by decide), trivial, by decide, ho _ _ (by decide), trivial, by decide, ho _ _ (by decide), trivial, by decide, ho _ _ (by decide), trivial, by decide, ho _ _ (by decide), trivial, by decide, ho _ _ (by decide), trivial, trivial⟩
  exact ⟨by decide, Nat.zero_le _, ⟨by decide, ho _ _ (by decide), trivial, g⟩, trivial⟩
theorem enc_vb (l : List Tm) : (encF l).vb 2000 := by
  unfold encF
  split
  · rename_i h
    obtain ⟨_, _, hv⟩ := encE_ok h
    exact listF_vb fun x hx => by
      have := (vT_bd (hv x hx)).2.2.2.2.2.2.2.2
      omega
  · trivial
/-- blocks that are there, but not the dice -/
def nd (w : World) (D : Nat) (b : Nat) : Prop := b < w.heap.size ∧ b ≠ D
section
variable {w w' : World} {D : Nat} {A : Option Addr}
theorem SeesT.diceD {l : List Tm} (h : SeesT w (nd w D) A l) (hg : w.grownBy w' (some D)) : SeesT w' (nd w' D) A l :=
  (h.keep fun q hq => World.cell?_of_block (hg.block _ hq.1 fun e => hq.2 (by injection e))).imp fun b hb => ⟨Nat.lt_of_lt_of_le hb.1 hg.size, hb.2⟩
theorem SeesN.diceD {f : F} (h : SeesN w (nd w D) A f) (hg : w.grownBy w' (some D)) : SeesN w' (nd w' D) A f :=
  (h.keep fun q hq => World.cell?_of_block (hg.block _ hq.1 fun e => hq.2 (by injection e))).imp fun b hb => ⟨Nat.lt_of_lt_of_le hb.1 hg.size, hb.2⟩
theorem SeesT.onD {l : List Tm} (h : SeesT w (nd w D) A l) (hb : Below w.heap.size w w') : SeesT w' (nd w' D) A l :=
  (h.keep fun q hq => hb.cell hq.1).imp fun b h => ⟨Nat.lt_of_lt_of_le h.1 hb.size, h.2⟩
theorem SeesN.onD {f : F} (h : SeesN w (nd w D) A f) (hb : Below w.heap.size w w') : SeesN w' (nd w' D) A f :=
  (h.keep fun q hq => hb.cell hq.1).imp fun b h => ⟨Nat.lt_of_lt_of_le h.1 hb.size, h.2⟩
end
theorem ix_tm0 (g n c : Nat) (hk : 1 ≤ n) (w : World) : (Instr.indexAt 22 (.slice (some ⟨g, 0, none⟩) n c) (.int .i64 0)).run Try.prog w = .ok (.pointer (some ⟨g, 0, none⟩)) w := by
  have h := ix_tm g 0 n c 0 (by omega) w
  rw [Nat.zero_mul, Nat.add_zero] at h
  exact h
/-- the row's own block, cell by cell -/
theorem HeldT.block {w wr : World} {g n cp : Nat} {L : List Tm} (h : HeldT w wr (.slice (some ⟨g, 0, none⟩) n cp) L) (hn : L.length = n) : ∃ vs, RowV wr g vs ∧ n * 7 ≤ vs.length ∧ w.heap.size ≤ g ∧ ∀ k z, L[k]? = some z → TmIn wr (fun b => newB w wr b ∧ b ≠ g) vs k z := by
  subst hn
  obtain ⟨cs, h1, h2⟩ := h
  rcases h1.2 with ⟨h0, _⟩ | ⟨g', cap, cur, hv, hb, hh, hn, hm, hs, ht⟩
  · cases h0
  · injection hv with hv _ hv2
    injection hv with hv
    injection hv with hv
    subst hv; subst hv2
    refine ⟨cur.toList, ⟨_, by rw [hh]⟩, (by have h1 : cur.toList.length = cp * 7 := hs; show L.length * 7 ≤ cur.toList.length; rw [h1]; exact Nat.mul_le_mul_right 7 hn), hb, fun k z hz => ?_⟩
    obtain ⟨Ad, cd, g0, g1, g2⟩ := h2.2 k z hz
    have hk := (List.getElem?_eq_some_iff.1 hz).1
    refine ⟨Ad, cd, g0, g1.imp fun b hb => ⟨hb.1, fun e => hb.2 (by rw [e]; rfl)⟩, fun j hj => ?_⟩
    rw [← g2 j hj, ← ht, List.getElem?_take, if_pos (by omega)]
theorem put_sees {w3 w5 w6 w7 : World} {D g n : Nat} {vs : List Value} {x y : Tm} {L' : List Tm} {A : Option Addr} {cd : Nat} (hD : D < w3.heap.size) (hg3 : w3.heap.size ≤ g) (h35 : w3.heap.size ≤ w5.heap.size) (hg5 : g < w5.heap.size) (hrow : RowV w7 g (spl vs 0 (y.cs A cd))) (hn : (x :: L').length = n) (hlen : n * 7 ≤ vs.length)
    (hvs : ∀ k z, (x :: L')[k]? = some z → TmIn w5 (fun b => newB w3 w5 b ∧ b ≠ g) vs k z) (hg : w5.grownBy w6 (some D)) (hw : Wr w6 w7 g) (h0 : (A = none → cd = 0) ∧ y.d.length ≤ cd)
    (hs : SeesP w6 (fun b => (newB w3 w5 b ∧ b ≠ g) ∨ newB w5 w6 b) A (Us y.d)) : SeesT w7 (nd w7 D) (some ⟨g, 0, none⟩) (y :: L') := by
  have h67 := hw.2.2.2.1
  have h56 := hg.size
  have e7 : (y.cs A cd).length = 7 := rfl
  have hsl : (spl vs 0 (y.cs A cd)).length = vs.length := spl_len (by rw [e7]; simp at hn; omega)
  have k6 : ∀ q : Addr, ((newB w3 w5 q.block ∧ q.block ≠ g) ∨ newB w5 w6 q.block) → w7.cell? q = w6.cell? q := fun q hq => World.cell?_of_block (hw.2.2.2.2 _ (by
    rcases hq with hq | hq
    · exact hq.2
    · have := hq.1; omega))
  have k5 : ∀ q : Addr, (newB w3 w5 q.block ∧ q.block ≠ g) → w7.cell? q = w5.cell? q := fun q hq => (k6 q (.inl hq)).trans (grown_cell hg hq.1.2 (by have := hq.1.1; omega))
  have i5 : ∀ b, (newB w3 w5 b ∧ b ≠ g) → nd w7 D b := fun b hb => ⟨by have := hb.1.2; omega, by have := hb.1.1; omega⟩
  have i6 : ∀ b, ((newB w3 w5 b ∧ b ≠ g) ∨ newB w5 w6 b) → nd w7 D b := fun b hb => by
    rcases hb with hb | hb
    · exact i5 b hb
    · exact ⟨by have := hb.2; omega, by have := hb.1; omega⟩
  refine ⟨(spl vs 0 (y.cs A cd)).take (n * 7), .inr ⟨g, 0, rfl, ⟨by omega, by omega⟩, fun j hj => ?_⟩, by rw [List.length_take, hsl, ← hn]; simp at hn ⊢; omega, fun k z hz => ?_⟩
  · rw [Nat.zero_add, hrow.cell, List.getElem?_take, if_pos (by rw [List.length_take] at hj; omega)]
  · have hk : k < n := by
      have := (List.getElem?_eq_some_iff.1 hz).1
      rw [← hn]; simpa using this
    rcases k with _ | k
    · obtain rfl : y = z := by simpa using hz
      refine ⟨A, cd, h0, (hs.keep k6).imp i6, fun j hj => ?_⟩
      rw [List.getElem?_take, if_pos (by omega)]
      unfold spl
      rw [List.take_zero, List.nil_append, List.getElem?_append, if_pos (by rw [e7]; omega)]
      congr 1
      omega
    · obtain ⟨Ad, c1, g0, g1, g2⟩ := hvs (k + 1) z hz
      refine ⟨Ad, c1, g0, (g1.keep k5).imp i5, fun j hj => ?_⟩
      rw [← g2 j hj, List.getElem?_take, if_pos (by omega)]
      unfold spl
      rw [List.take_zero, List.nil_append, List.getElem?_append, if_neg (by rw [e7]; omega), List.getElem?_drop, e7]
      congr 1
      omega
set_option maxHeartbeats 12800000 in
set_option maxRecDepth 20000 in
theorem law_made (A : Option Addr) (c : Nat) (ls : List Int) (w : World) (hl : ls.length ≤ 140737488351232) (hr : ∀ x ∈ ls, -9223372036854775808 ≤ x ∧ x ≤ 9223372036854775807) (hs : SeesP w (· < w.heap.size) A (ls.map (Value.int .i64))) :
    Calls Try.prog 5 #[.slice A ls.length c] w fun e w' => e = .returned (.bool true) ∧ Below w.heap.size w w' := by
  have HR := Lib.hid (made_roll A c ls w hl hr hs)
  have HL := Lib.hid (made_light A ls.length c w hl)
  obtain ⟨m, hm⟩ : ∃ z, ls.length = z := ⟨_, rfl⟩
  rw [hm] at HR HL ⊢
  obtain ⟨lg, hlg⟩ : ∃ z, decide (m ≤ 400) = z := ⟨_, rfl⟩
  rw [hlg] at HL
  clear hl hr hs hm hlg
  rcases lg with _ | _
  · go_enter Try.func5, Try.ntmps5
    go_wp2_with (first
      | (go_at_call 20; ((with_reducible refine HL.out.mono ?_); rintro e w1 ⟨rfl, hw1⟩); (have hw2 := hw1.symm; clear hw1; subst hw2))
      | (go_at_call 9; ((with_reducible refine (law_awake _).mono ?_); rintro e w2 ⟨rfl, hb⟩); have H2 := Lib.hid hb; clear hb))
    go_ret
    exact ⟨rfl, H2.out⟩
  obtain ⟨D, hD⟩ : ∃ z, w.heap.size = z := ⟨_, rfl⟩
  rw [hD] at HR
  have HBR := Lib.hid (show ∀ a b, Below w.heap.size w a → a.grownBy b (some D) → Below w.heap.size w b from fun a b h hg => below_row h (by rw [hD]; exact hg))
  have HBD := Lib.hid (show ∀ b, Below D w b → Below w.heap.size w b from fun b h => by rw [hD]; exact h)
  have HN := Lib.hid (show ∀ w, DiceOk w D → Calls Try.prog 23 #[.pointer (some ⟨D, 0, none⟩), .int .i64 3] w (NextIs w D 3) from fun w h => dice_next D 3 w (by decide) (by decide) h)
  have HO3 := Lib.hid (show ∀ w, DiceOk w D → Calls Try.prog 24 #[.pointer (some ⟨D, 0, none⟩), .int .i64 3] w (OneIs w D) from fun w h => dice_one D 3 w (by decide) (by decide) h)
  have HO2 := Lib.hid (show ∀ w, DiceOk w D → Calls Try.prog 24 #[.pointer (some ⟨D, 0, none⟩), .int .i64 2] w (OneIs w D) from fun w h => dice_one D 2 w (by decide) (by decide) h)
  have HTS := Lib.hid (show ∀ (r : Nat) (w : World), r < 3 → DiceOk w D → Calls Try.prog 22 #[.pointer (some ⟨D, 0, none⟩), .int .i64 (1 + (r : Int))] w (TmsIs w D) from fun r w hr h => dice_templates D _ (by omega) w h)
  have HB0 := Lib.hid (show w.heap.size = D from hD)
  clear hD
  go_enter Try.func5, Try.ntmps5
  go_wp2_with (first
    | (go_at_call 20; ((with_reducible refine HL.out.mono ?_); rintro e w1 ⟨rfl, hw1⟩); (have hw2 := hw1.symm; clear hw1; subst hw2))
    | (go_at_call 21; ((with_reducible refine HR.out.mono ?_); rintro e w2 ⟨rfl, hd, hb⟩); have H2 := Lib.hid (show Below w.heap.size w w2 ∧ DiceOk w2 D from ⟨HBD.out _ hb, hd⟩); clear hb hd)
    | (go_at_call 23; ((with_reducible refine (HN.out _ H2.out.2).mono ?_); rintro e w3 ⟨r, hr3, rfl, hg, hd⟩); have H3 := Lib.hid (show _ ∧ _ ∧ r < 3 from ⟨HBR.out _ _ H2.out.1 hg, hd, hr3⟩); clear hg hd)
    | (go_at_call 22; go_must (refine (HTS.out r _ H3.out.2.2 H3.out.2.1).mono ?_); (skip; rintro e w4 ⟨v, L, rfl, hl1, hl3, hval, hheld, hg, hd⟩); have H4 := Lib.hid (show Below w.heap.size w w4 ∧ 1 ≤ L.length ∧ L.length ≤ 3 ∧ (∀ x ∈ L, vT x = 0) ∧ HeldT w3 w4 v L ∧ DiceOk w4 D from ⟨HBR.out _ _ H3.out.1 hg, hl1, hl3, hval, hheld, hd⟩); clear hl1 hl3 hval hheld hg hd))
  obtain ⟨x, L', rfl⟩ : ∃ x L', L = x :: L' := by
    match L, H4.out.2.1 with
    | x :: L', _ => exact ⟨x, L', rfl⟩
  obtain ⟨g, cp, rfl, hcp, _⟩ := H4.out.2.2.2.2.1.slice2
  have hval := H4.out.2.2.2.1
  have hvx := hval x (List.mem_cons_self ..)
  obtain ⟨n, hn⟩ : ∃ z, (x :: L').length = z := ⟨_, rfl⟩
  have h13 := And.intro H4.out.2.1 H4.out.2.2.1
  have hheld := H4.out.2.2.2.2.1
  have hD3 := H3.out.2.1.lt
  rw [hn] at h13 hcp hheld ⊢
  refine (HO3.out _ H4.out.2.2.2.2.2).mono ?_
  rintro e w5 ⟨q, rfl, hg, hd⟩
  have hheld5 := hheld.dice hg hD3
  have H5 := Lib.hid (show Below w.heap.size w w5 ∧ DiceOk w5 D from ⟨HBR.out _ _ H4.out.1 hg, hd⟩)
  have h35 : w3.heap.size ≤ w5.heap.size := by
    obtain ⟨vs, hrow, _, hge, _⟩ := hheld5.block hn
    have := hrow.lt
    omega
  clear hheld hg hd
  rcases q with _ | _
  · obtain ⟨A9, c9, e9, hs9⟩ := hheld5.slice
    injection e9 with e9 e11 e10
    clear e11
    subst e9; subst e10
    have HT := Lib.hid (show Below w.heap.size w w5 ∧ DiceOk w5 D ∧ SeesT w5 (nd w5 D) (some ⟨g, 0, none⟩) (x :: L') from ⟨H5.out.1, H5.out.2, hs9.imp fun b hb => ⟨newB_lt hb, by have := hb.1; omega⟩⟩)
    obtain ⟨l2, hl2e⟩ : ∃ z, (x :: L') = z := ⟨_, rfl⟩
    rw [hl2e] at HT hn
    have hl2 := hn
    clear hheld5 hs9 hl2e hval hvx H4 H3 H2 HTS HO3 HBD HL HR H5 h35 hn
    have HLV := Lib.hid (fun (z1 z2 : Int) c (h1 : SeesT c (nd c D) (some ⟨g, 0, none⟩) l2) => law_valid l2 n hl2 (by omega) z1 z2 (some ⟨g, 0, none⟩) cp c (h1.imp fun b hb => hb.1))
    have HC2 := Lib.hid (show ∀ c, SeesT c (nd c D) (some ⟨g, 0, none⟩) l2 → ∃ z : Int, c.cell? ⟨g, 2, none⟩ = some (.int .i64 z) from fun c h => by
      obtain ⟨x2, hx2⟩ : ∃ x2, l2[0]? = some x2 := ⟨_, List.getElem?_eq_getElem (by omega)⟩
      obtain ⟨b, o, Ad, cd, e, _, hr, _⟩ := tm_at h hx2
      injection e with e
      injection e with e1 e2 _
      subst e1; subst e2
      exact ⟨x2.f, hr 2 _ rfl⟩)
    have hfl := enc_ok l2
    have hfv := enc_vb l2
    have hE := r_encode l2 n hl2 (some ⟨g, 0, none⟩) cp w5 (HT.out.2.2.imp fun b hb => hb.1)
    unfold EncIs at hE
    obtain ⟨fE, hfE⟩ : ∃ z, encF l2 = z := ⟨_, rfl⟩
    obtain ⟨ev, hev⟩ : ∃ z, encE l2 = z := ⟨_, rfl⟩
    rw [hfE, hev] at hE
    rw [hfE] at hfl hfv
    have HE := Lib.hid hE
    clear hE hfE hev
    go_wp2_with fail
    refine HE.out.mono ?_
    rintro e wa ⟨A5, c5, rfl, _, s5, hb⟩
    have HA := Lib.hid (show Below w.heap.size w wa ∧ DiceOk wa D ∧ SeesT wa (nd wa D) (some ⟨g, 0, none⟩) l2 ∧ SeesN wa (nd wa D) A5 fE from ⟨below_on HT.out.1 hb, HT.out.2.1.below hb, HT.out.2.2.onD hb, s5.imp fun b hb2 => ⟨newB_lt hb2, by have := hb2.1; have := HT.out.2.1.lt; omega⟩⟩)
    clear s5 hb HE HT
    go_wp2_with fail
    refine (HO2.out _ HA.out.2.1).mono ?_
    rintro e wb ⟨q2, rfl, hg, hd⟩
    have HD4 := Lib.hid (show Below w.heap.size w wb ∧ DiceOk wb D ∧ SeesT wb (nd wb D) (some ⟨g, 0, none⟩) l2 ∧ SeesN wb (nd wb D) A5 fE from ⟨HBR.out _ _ HA.out.1 hg, hd, HA.out.2.2.1.diceD hg, HA.out.2.2.2.diceD hg⟩)
    clear hg hd HA
    rcases q2 with _ | _
    · obtain ⟨f2, hf2e⟩ : ∃ z, fE = z := ⟨_, rfl⟩
      obtain ⟨B, hB⟩ : ∃ z, A5 = z := ⟨_, rfl⟩
      obtain ⟨d, hd⟩ : ∃ z, c5 = z := ⟨_, rfl⟩
      subst hf2e; subst hB; subst hd
      have hf2 := hfl.1
      have hfs := hfl.2
      go_wp2_with fail
      have hfk := F.k0_size fE
      have HLE := Lib.hid (fun c (h1 : SeesT c (nd c D) (some ⟨g, 0, none⟩) l2) (h2 : SeesN c (nd c D) A5 fE) => law_exact l2 n hl2 (some ⟨g, 0, none⟩) cp fE fE.len rfl hf2 (by omega) A5 c5 c (h1.imp fun b hb => hb.1) (h2.imp fun b hb => hb.1))
      refine region_guarded (by kernel_rfl) _ (fun c => Below w.heap.size w c ∧ DiceOk c D ∧ SeesT c (nd c D) (some ⟨g, 0, none⟩) l2 ∧ SeesN c (nd c D) A5 fE) (factL [fun u _ => u = .slice (some ⟨g, 0, none⟩) n cp, fun u _ => u = .pointer (some ⟨D, 0, none⟩), fun u _ => ∃ r : Nat, r < 3 ∧ u = .int .i64 (r : Int), fun u _ => ∃ z : Int, u = .int .i64 z, fun u _ => u = .slice (some ⟨g, 0, none⟩) n cp, fun u _ => u = .pointer (some ⟨g, 0, none⟩), fun u _ => u = .pointer (some ⟨g, 2, none⟩), fun u _ => ∃ z : Int, u = .int .i64 z, fun u _ => u = .bool true, fun u _ => u = .bool true, fun u _ => u = .slice (some ⟨g, 0, none⟩) n cp, fun u _ => u = .slice A5 fE.len c5, fun u _ => u = .bool true, fun u _ => u = .bool true, fun u _ => u = .bool true]) (by kernel_rfl) (firm_list (by simp only [List.forall_mem_cons]; exact ⟨firm_eq _, firm_eq _, fun u c c' h _ => h, fun u c c' h _ => h, firm_eq _, firm_eq _, firm_eq _, fun u c c' h _ => h, firm_eq _, firm_eq _, firm_eq _, firm_eq _, firm_eq _, firm_eq _, firm_eq _, fun X h => by cases h⟩)) (fun c c' h hb => ⟨below_on h.1 hb, h.2.1.below hb, h.2.2.1.onD hb, h.2.2.2.onD hb⟩) HD4.out ?_ ?_
      · refine ops_all (allI.cons ?_ (allI.cons ?_ (allI.cons ?_ (allI.cons ?_ (allI.cons ?_ (allI.cons ?_ (allI.cons ?_ (allI.cons ?_ (allI.cons ?_ (allI.cons ?_ (allI.cons ?_ (allI.cons ?_ (allI.cons ?_ (allI.cons ?_ (allI.cons ?_ allI.nil))))))))))))))) <;> intro v S c a hI hX hSi hdep hS
        · refine ⟨rfl, ?_⟩
          exact o_mv _ rfl (hS.old 4 rfl) (StepG.still rfl)
        · refine ⟨rfl, ?_⟩
          exact o_mv _ rfl (hS.old 3 rfl) (StepG.still rfl)
        · refine ⟨rfl, ?_⟩
          refine o_callV (.func 23) 23 #[.tmp 38, .const (.int .i64 3)] _ rfl rfl (ev2 ((hS.get 1 (dep_at hdep 1 rfl) rfl rfl).trans (hX 1 (dep_at hdep 1 rfl))) rfl) (by kernel_rfl) (HN.out c hI.2.1) (fun e w9 h => ?_)
          obtain ⟨r, hr, rfl, hg, hd⟩ := h
          refine ⟨_, rfl, StepG.turn ⟨r, hr, rfl⟩ ⟨HBR.out _ _ hI.1 hg, hd, hI.2.2.1.diceD hg, hI.2.2.2.diceD hg⟩ fun j hj => ?_⟩
          match j, hj with
          | 0, hj => exact hX 0 hj
          | 1, hj => exact hX 1 hj
          | 2, hj => exact hX 2 hj
          | 3, hj => exact hX 3 hj
          | 4, hj => exact hX 4 hj
          | 5, hj => exact hX 5 hj
          | 6, hj => exact hX 6 hj
          | 7, hj => exact hX 7 hj
          | 8, hj => exact hX 8 hj
          | 9, hj => exact hX 9 hj
          | 10, hj => exact hX 10 hj
          | 11, hj => exact hX 11 hj
          | 12, hj => exact hX 12 hj
          | 13, hj => exact hX 13 hj
          | 14, hj => exact hX 14 hj
          | _ + 15, _ => trivial
        · refine ⟨rfl, ?_⟩
          obtain ⟨r, _, e2⟩ := (hX 2 (dep_at hdep 2 rfl))
          exact o_bin .add _ _ (.const (.int .i64 1)) (.tmp 39) rfl rfl ((hS.get 2 (dep_at hdep 2 rfl) rfl rfl).trans e2) (add_any 1 (r : Int) _ _ _) (StepG.still ⟨_, rfl⟩)
        · refine ⟨rfl, ?_⟩
          exact o_mv _ rfl (hS.old 4 rfl) (StepG.still rfl)
        · refine ⟨rfl, ?_⟩
          exact o_ix _ (.tmp 41) (.const (.int .i64 0)) rfl ((hS.get 4 (dep_at hdep 4 rfl) rfl rfl).trans (hX 4 (dep_at hdep 4 rfl))) rfl (ix_tm0 g n cp h13.1 _) (StepG.still rfl)
        · refine ⟨rfl, ?_⟩
          exact o_fa _ (.tmp 42) 2 rfl ((hS.get 5 (dep_at hdep 5 rfl) rfl rfl).trans (hX 5 (dep_at hdep 5 rfl))) (fa_t2 g _) (StepG.still rfl)
        · refine ⟨rfl, ?_⟩
          obtain ⟨z, hz⟩ := HC2.out c hI.2.2.1
          exact o_ld _ (.tmp 43) rfl ((hS.get 6 (dep_at hdep 6 rfl) rfl rfl).trans (hX 6 (dep_at hdep 6 rfl))) hz ag_i (StepG.still ⟨z, rfl⟩)
        · refine ⟨rfl, ?_⟩
          obtain ⟨z1, e3⟩ := (hX 3 (dep_at hdep 3 rfl))
          obtain ⟨z2, e7⟩ := (hX 7 (dep_at hdep 7 rfl))
          refine o_callV (.func 3) 3 #[.tmp 37, .tmp 40, .tmp 44] _ rfl rfl (ev3 ((hS.get 0 (dep_at hdep 0 rfl) rfl rfl).trans (hX 0 (dep_at hdep 0 rfl))) ((hS.get 3 (dep_at hdep 3 rfl) rfl rfl).trans e3) ((hS.get 7 (dep_at hdep 7 rfl) rfl rfl).trans e7)) (by kernel_rfl) (HLV.out z1 z2 c hI.2.2.1) (fun e w9 h => ?_)
          obtain ⟨rfl, hb⟩ := h
          exact ⟨_, rfl, StepG.new rfl hb⟩
        · refine ⟨rfl, ?_⟩
          exact o_mv _ rfl ((hS.get 8 (dep_at hdep 8 rfl) rfl rfl).trans (hX 8 (dep_at hdep 8 rfl))) (StepG.still rfl)
        · refine ⟨want_tmp rfl rfl rfl (((hS.get 9 (dep_at hdep 9 rfl) rfl rfl).trans (hX 9 (dep_at hdep 9 rfl)))), ?_⟩
          exact o_mv _ rfl (hS.old 4 rfl) (StepG.still rfl)
        · refine ⟨want_tmp rfl rfl rfl (((hS.get 9 (dep_at hdep 9 rfl) rfl rfl).trans (hX 9 (dep_at hdep 9 rfl)))), ?_⟩
          exact o_mv _ rfl (hS.old 5 rfl) (StepG.still rfl)
        · refine ⟨want_tmp rfl rfl rfl (((hS.get 9 (dep_at hdep 9 rfl) rfl rfl).trans (hX 9 (dep_at hdep 9 rfl)))), ?_⟩
          refine o_callV (.func 4) 4 #[.tmp 47, .tmp 48] _ rfl rfl (ev2 ((hS.get 10 (dep_at hdep 10 rfl) rfl rfl).trans (hX 10 (dep_at hdep 10 rfl))) ((hS.get 11 (dep_at hdep 11 rfl) rfl rfl).trans (hX 11 (dep_at hdep 11 rfl)))) (by kernel_rfl) (HLE.out c hI.2.2.1 hI.2.2.2) (fun e w9 h => ?_)
          obtain ⟨rfl, hb⟩ := h
          exact ⟨_, rfl, StepG.new rfl hb⟩
        · refine ⟨rfl, ?_⟩
          exact o_pick (.tmp 46) (.tmp 49) _ rfl ((hS.get 9 (dep_at hdep 9 rfl) rfl rfl).trans (hX 9 (dep_at hdep 9 rfl))) ((hS.get 12 (dep_at hdep 12 rfl) rfl rfl).trans (hX 12 (dep_at hdep 12 rfl))) (StepG.still rfl)
        · refine ⟨rfl, ?_⟩
          exact o_as _ rfl ((hS.get 13 (dep_at hdep 13 rfl) rfl rfl).trans (hX 13 (dep_at hdep 13 rfl))) (StepG.still rfl)
      · intro v wz hI hX
        have e14 : v 14 = .bool true := hX 14 (by decide)
        have HZ := Lib.hid hI.1
        clear hI hX
        simp only [putAll, Act.put]
        simp
        rw [e14]
        clear e14
        go_wp2_with fail
        go_ret
        exact ⟨rfl, HZ.out⟩
    · go_wp2_with fail
      refine (dice_odd 5000 (Nat.le_refl _) fE A5 c5 D wb (nd wb D) (by have := hfl.2; omega) hfv (fun b hb => hb) HD4.out.2.2.2 HD4.out.2.1).mono ?_
      rintro e wc ⟨f2, B, d, rfl, hvb, _, hsz, hsee, hg, hd⟩
      have hf2 := F.vb_ok (by decide) hvb
      have hfs : f2.size ≤ 75 := by have := hfl.2; omega
      have hwb := hg.size
      replace HD4 := Lib.hid (show Below w.heap.size w wc ∧ DiceOk wc D ∧ SeesT wc (nd wc D) (some ⟨g, 0, none⟩) l2 ∧ SeesN wc (nd wc D) B f2 from ⟨HBR.out _ _ HD4.out.1 hg, hd, HD4.out.2.2.1.diceD hg, hsee.imp fun b hb => by
        rcases hb with hb | hb
        · exact ⟨Nat.lt_of_lt_of_le hb.1 hwb, hb.2⟩
        · exact ⟨hb.2, by have := hb.1; have := HD4.out.2.1.lt; omega⟩⟩)
      clear hg hd hsee hvb hsz hwb
      go_wp2_with fail
      have hfk := F.k0_size f2
      have HLE := Lib.hid (fun c (h1 : SeesT c (nd c D) (some ⟨g, 0, none⟩) l2) (h2 : SeesN c (nd c D) B f2) => law_exact l2 n hl2 (some ⟨g, 0, none⟩) cp f2 f2.len rfl hf2 (by omega) B d c (h1.imp fun b hb => hb.1) (h2.imp fun b hb => hb.1))
      refine region_guarded (by kernel_rfl) _ (fun c => Below w.heap.size w c ∧ DiceOk c D ∧ SeesT c (nd c D) (some ⟨g, 0, none⟩) l2 ∧ SeesN c (nd c D) B f2) (factL [fun u _ => u = .slice (some ⟨g, 0, none⟩) n cp, fun u _ => u = .pointer (some ⟨D, 0, none⟩), fun u _ => ∃ r : Nat, r < 3 ∧ u = .int .i64 (r : Int), fun u _ => ∃ z : Int, u = .int .i64 z, fun u _ => u = .slice (some ⟨g, 0, none⟩) n cp, fun u _ => u = .pointer (some ⟨g, 0, none⟩), fun u _ => u = .pointer (some ⟨g, 2, none⟩), fun u _ => ∃ z : Int, u = .int .i64 z, fun u _ => u = .bool true, fun u _ => u = .bool true, fun u _ => u = .slice (some ⟨g, 0, none⟩) n cp, fun u _ => u = .slice B f2.len d, fun u _ => u = .bool true, fun u _ => u = .bool true, fun u _ => u = .bool true]) (by kernel_rfl) (firm_list (by simp only [List.forall_mem_cons]; exact ⟨firm_eq _, firm_eq _, fun u c c' h _ => h, fun u c c' h _ => h, firm_eq _, firm_eq _, firm_eq _, fun u c c' h _ => h, firm_eq _, firm_eq _, firm_eq _, firm_eq _, firm_eq _, firm_eq _, firm_eq _, fun X h => by cases h⟩)) (fun c c' h hb => ⟨below_on h.1 hb, h.2.1.below hb, h.2.2.1.onD hb, h.2.2.2.onD hb⟩) HD4.out ?_ ?_
      · refine ops_all (allI.cons ?_ (allI.cons ?_ (allI.cons ?_ (allI.cons ?_ (allI.cons ?_ (allI.cons ?_ (allI.cons ?_ (allI.cons ?_ (allI.cons ?_ (allI.cons ?_ (allI.cons ?_ (allI.cons ?_ (allI.cons ?_ (allI.cons ?_ (allI.cons ?_ allI.nil))))))))))))))) <;> intro v S c a hI hX hSi hdep hS
        · refine ⟨rfl, ?_⟩
          exact o_mv _ rfl (hS.old 4 rfl) (StepG.still rfl)
        · refine ⟨rfl, ?_⟩
          exact o_mv _ rfl (hS.old 3 rfl) (StepG.still rfl)
        · refine ⟨rfl, ?_⟩
          refine o_callV (.func 23) 23 #[.tmp 38, .const (.int .i64 3)] _ rfl rfl (ev2 ((hS.get 1 (dep_at hdep 1 rfl) rfl rfl).trans (hX 1 (dep_at hdep 1 rfl))) rfl) (by kernel_rfl) (HN.out c hI.2.1) (fun e w9 h => ?_)
          obtain ⟨r, hr, rfl, hg, hd⟩ := h
          refine ⟨_, rfl, StepG.turn ⟨r, hr, rfl⟩ ⟨HBR.out _ _ hI.1 hg, hd, hI.2.2.1.diceD hg, hI.2.2.2.diceD hg⟩ fun j hj => ?_⟩
          match j, hj with
          | 0, hj => exact hX 0 hj
          | 1, hj => exact hX 1 hj
          | 2, hj => exact hX 2 hj
          | 3, hj => exact hX 3 hj
          | 4, hj => exact hX 4 hj
          | 5, hj => exact hX 5 hj
          | 6, hj => exact hX 6 hj
          | 7, hj => exact hX 7 hj
          | 8, hj => exact hX 8 hj
          | 9, hj => exact hX 9 hj
          | 10, hj => exact hX 10 hj
          | 11, hj => exact hX 11 hj
          | 12, hj => exact hX 12 hj
          | 13, hj => exact hX 13 hj
          | 14, hj => exact hX 14 hj
          | _ + 15, _ => trivial
        · refine ⟨rfl, ?_⟩
          obtain ⟨r, _, e2⟩ := (hX 2 (dep_at hdep 2 rfl))
          exact o_bin .add _ _ (.const (.int .i64 1)) (.tmp 39) rfl rfl ((hS.get 2 (dep_at hdep 2 rfl) rfl rfl).trans e2) (add_any 1 (r : Int) _ _ _) (StepG.still ⟨_, rfl⟩)
        · refine ⟨rfl, ?_⟩
          exact o_mv _ rfl (hS.old 4 rfl) (StepG.still rfl)
        · refine ⟨rfl, ?_⟩
          exact o_ix _ (.tmp 41) (.const (.int .i64 0)) rfl ((hS.get 4 (dep_at hdep 4 rfl) rfl rfl).trans (hX 4 (dep_at hdep 4 rfl))) rfl (ix_tm0 g n cp h13.1 _) (StepG.still rfl)
        · refine ⟨rfl, ?_⟩
          exact o_fa _ (.tmp 42) 2 rfl ((hS.get 5 (dep_at hdep 5 rfl) rfl rfl).trans (hX 5 (dep_at hdep 5 rfl))) (fa_t2 g _) (StepG.still rfl)
        · refine ⟨rfl, ?_⟩
          obtain ⟨z, hz⟩ := HC2.out c hI.2.2.1
          exact o_ld _ (.tmp 43) rfl ((hS.get 6 (dep_at hdep 6 rfl) rfl rfl).trans (hX 6 (dep_at hdep 6 rfl))) hz ag_i (StepG.still ⟨z, rfl⟩)
        · refine ⟨rfl, ?_⟩
          obtain ⟨z1, e3⟩ := (hX 3 (dep_at hdep 3 rfl))
          obtain ⟨z2, e7⟩ := (hX 7 (dep_at hdep 7 rfl))
          refine o_callV (.func 3) 3 #[.tmp 37, .tmp 40, .tmp 44] _ rfl rfl (ev3 ((hS.get 0 (dep_at hdep 0 rfl) rfl rfl).trans (hX 0 (dep_at hdep 0 rfl))) ((hS.get 3 (dep_at hdep 3 rfl) rfl rfl).trans e3) ((hS.get 7 (dep_at hdep 7 rfl) rfl rfl).trans e7)) (by kernel_rfl) (HLV.out z1 z2 c hI.2.2.1) (fun e w9 h => ?_)
          obtain ⟨rfl, hb⟩ := h
          exact ⟨_, rfl, StepG.new rfl hb⟩
        · refine ⟨rfl, ?_⟩
          exact o_mv _ rfl ((hS.get 8 (dep_at hdep 8 rfl) rfl rfl).trans (hX 8 (dep_at hdep 8 rfl))) (StepG.still rfl)
        · refine ⟨want_tmp rfl rfl rfl (((hS.get 9 (dep_at hdep 9 rfl) rfl rfl).trans (hX 9 (dep_at hdep 9 rfl)))), ?_⟩
          exact o_mv _ rfl (hS.old 4 rfl) (StepG.still rfl)
        · refine ⟨want_tmp rfl rfl rfl (((hS.get 9 (dep_at hdep 9 rfl) rfl rfl).trans (hX 9 (dep_at hdep 9 rfl)))), ?_⟩
          exact o_mv _ rfl (hS.old 5 rfl) (StepG.still rfl)
        · refine ⟨want_tmp rfl rfl rfl (((hS.get 9 (dep_at hdep 9 rfl) rfl rfl).trans (hX 9 (dep_at hdep 9 rfl)))), ?_⟩
          refine o_callV (.func 4) 4 #[.tmp 47, .tmp 48] _ rfl rfl (ev2 ((hS.get 10 (dep_at hdep 10 rfl) rfl rfl).trans (hX 10 (dep_at hdep 10 rfl))) ((hS.get 11 (dep_at hdep 11 rfl) rfl rfl).trans (hX 11 (dep_at hdep 11 rfl)))) (by kernel_rfl) (HLE.out c hI.2.2.1 hI.2.2.2) (fun e w9 h => ?_)
          obtain ⟨rfl, hb⟩ := h
          exact ⟨_, rfl, StepG.new rfl hb⟩
        · refine ⟨rfl, ?_⟩
          exact o_pick (.tmp 46) (.tmp 49) _ rfl ((hS.get 9 (dep_at hdep 9 rfl) rfl rfl).trans (hX 9 (dep_at hdep 9 rfl))) ((hS.get 12 (dep_at hdep 12 rfl) rfl rfl).trans (hX 12 (dep_at hdep 12 rfl))) (StepG.still rfl)
        · refine ⟨rfl, ?_⟩
          exact o_as _ rfl ((hS.get 13 (dep_at hdep 13 rfl) rfl rfl).trans (hX 13 (dep_at hdep 13 rfl))) (StepG.still rfl)
      · intro v wz hI hX
        have e14 : v 14 = .bool true := hX 14 (by decide)
        have HZ := Lib.hid hI.1
        clear hI hX
        simp only [putAll, Act.put]
        simp
        rw [e14]
        clear e14
        go_wp2_with fail
        go_ret
        exact ⟨rfl, HZ.out⟩
  · obtain ⟨vs, hrow, hlen, hge, hvs⟩ := hheld5.block hn
    obtain ⟨Ad, cd, h0, hsd, hcells⟩ := hvs 0 x rfl
    have hrng : w5.rangeAt g 0 (x.cs Ad cd) := fun j u hu => by
      have hj : j < 7 := by
        have := (List.getElem?_eq_some_iff.1 hu).1
        simpa [Tm.cs] using this
      have h := hcells j hj
      rw [Nat.zero_mul, Nat.zero_add] at h
      rw [hrow.cell, Nat.zero_add, h, hu]
    have hg5 := hrow.lt
    have hodd := dice_odd_template D x (fun b => newB w3 w5 b ∧ b ≠ g) Ad cd w5 (vT_bd hvx).2.2.2.2.2.2.2.2 h0 (fun b hb => ⟨hb.1.2, by have := hb.1.1; omega⟩) hsd H5.out.2
    have hsz : (Try.prog.info? 27).map (·.size) = some (x.cs Ad cd).length := size_t
    obtain ⟨us, hus⟩ : ∃ z, x.cs Ad cd = z := ⟨_, rfl⟩
    rw [hus] at hrng hodd hsz
    have HS := Lib.hid (show _ ∧ _ ∧ _ ∧ _ ∧ _ from ⟨hrng, hodd, hsz, hrow, hvs⟩)
    have hv7 : 0 + 7 ≤ vs.length := by omega
    have hgD : g ≠ D := by omega
    clear hrng hodd hsz hus hcells h0 hsd hrow hvs hheld5 hval hvx H4 H3 H2 HTS HO3 HBD HL HR
    go_wp2_with (first
      | ((with_reducible refine at_load_ (d := 24) ?_); go_must (refine wpList_load_mid rfl 27 (.tmp 23) rfl g 0 rfl us _ HS.out.1 Try.underlying27 rfl HS.out.2.2.1 ?_))
      | (go_at_call 25; ((with_reducible refine HS.out.2.1.mono ?_); rintro e w6 ⟨y, A6, c6, rfl, _, h06, hs6, hg6, hd6⟩); have H6 := Lib.hid (show _ ∧ _ ∧ _ ∧ _ ∧ _ from ⟨h06, hs6, hg6, hd6, HS.out.2.2.2.1.dice hg6 hgD⟩); clear h06 hs6 hg6 hd6)
      | ((with_reducible refine at_store_ (i := 26) ?_); go_must (refine wpList_store_part rfl 27 (.tmp 26) (.tmp 25) rfl g 0 vs (y.cs A6 c6) rfl rfl H6.out.2.2.2.2 hv7 (cs_one _ _ _) size_t ?_); intro w7 hw hr; have H7 := Lib.hid (show _ ∧ _ from ⟨hw, hr⟩); clear hw hr))
    have HT := Lib.hid (show Below w.heap.size w w7 ∧ DiceOk w7 D ∧ SeesT w7 (nd w7 D) (some ⟨g, 0, none⟩) (y :: L') from ⟨Wr.bl (HBR.out _ _ H5.out.1 H6.out.2.2.1) H7.out.1 (by have := HB0.out; omega), H6.out.2.2.2.1.wrote H7.out.1 (by omega), put_sees hD3 hge h35 hg5 H7.out.2 hn hlen HS.out.2.2.2.2 H6.out.2.2.1 H7.out.1 H6.out.1 H6.out.2.1⟩)
    have hl2 : (y :: L').length = n := hn
    obtain ⟨l2, hl2e⟩ : ∃ z, (y :: L') = z := ⟨_, rfl⟩
    rw [hl2e] at HT hl2
    clear hl2e HS H6 H7 H5 hn hlen hge h35 hg5 hv7 hgD
    have HLV := Lib.hid (fun (z1 z2 : Int) c (h1 : SeesT c (nd c D) (some ⟨g, 0, none⟩) l2) => law_valid l2 n hl2 (by omega) z1 z2 (some ⟨g, 0, none⟩) cp c (h1.imp fun b hb => hb.1))
    have HC2 := Lib.hid (show ∀ c, SeesT c (nd c D) (some ⟨g, 0, none⟩) l2 → ∃ z : Int, c.cell? ⟨g, 2, none⟩ = some (.int .i64 z) from fun c h => by
      obtain ⟨x2, hx2⟩ : ∃ x2, l2[0]? = some x2 := ⟨_, List.getElem?_eq_getElem (by omega)⟩
      obtain ⟨b, o, Ad, cd, e, _, hr, _⟩ := tm_at h hx2
      injection e with e
      injection e with e1 e2 _
      subst e1; subst e2
      exact ⟨x2.f, hr 2 _ rfl⟩)
    have hfl := enc_ok l2
    have hfv := enc_vb l2
    have hE := r_encode l2 n hl2 (some ⟨g, 0, none⟩) cp w7 (HT.out.2.2.imp fun b hb => hb.1)
    unfold EncIs at hE
    obtain ⟨fE, hfE⟩ : ∃ z, encF l2 = z := ⟨_, rfl⟩
    obtain ⟨ev, hev⟩ : ∃ z, encE l2 = z := ⟨_, rfl⟩
    rw [hfE, hev] at hE
    rw [hfE] at hfl hfv
    have HE := Lib.hid hE
    clear hE hfE hev
    go_wp2_with fail
    refine HE.out.mono ?_
    rintro e wa ⟨A5, c5, rfl, _, s5, hb⟩
    have HA := Lib.hid (show Below w.heap.size w wa ∧ DiceOk wa D ∧ SeesT wa (nd wa D) (some ⟨g, 0, none⟩) l2 ∧ SeesN wa (nd wa D) A5 fE from ⟨below_on HT.out.1 hb, HT.out.2.1.below hb, HT.out.2.2.onD hb, s5.imp fun b hb2 => ⟨newB_lt hb2, by have := hb2.1; have := HT.out.2.1.lt; omega⟩⟩)
    clear s5 hb HE HT
    go_wp2_with fail
    refine (HO2.out _ HA.out.2.1).mono ?_
    rintro e wb ⟨q2, rfl, hg, hd⟩
    have HD4 := Lib.hid (show Below w.heap.size w wb ∧ DiceOk wb D ∧ SeesT wb (nd wb D) (some ⟨g, 0, none⟩) l2 ∧ SeesN wb (nd wb D) A5 fE from ⟨HBR.out _ _ HA.out.1 hg, hd, HA.out.2.2.1.diceD hg, HA.out.2.2.2.diceD hg⟩)
    clear hg hd HA
    rcases q2 with _ | _
    · obtain ⟨f2, hf2e⟩ : ∃ z, fE = z := ⟨_, rfl⟩
      obtain ⟨B, hB⟩ : ∃ z, A5 = z := ⟨_, rfl⟩
      obtain ⟨d, hd⟩ : ∃ z, c5 = z := ⟨_, rfl⟩
      subst hf2e; subst hB; subst hd
      have hf2 := hfl.1
      have hfs := hfl.2
      go_wp2_with fail
      have hfk := F.k0_size fE
      have HLE := Lib.hid (fun c (h1 : SeesT c (nd c D) (some ⟨g, 0, none⟩) l2) (h2 : SeesN c (nd c D) A5 fE) => law_exact l2 n hl2 (some ⟨g, 0, none⟩) cp fE fE.len rfl hf2 (by omega) A5 c5 c (h1.imp fun b hb => hb.1) (h2.imp fun b hb => hb.1))
      refine region_guarded (by kernel_rfl) _ (fun c => Below w.heap.size w c ∧ DiceOk c D ∧ SeesT c (nd c D) (some ⟨g, 0, none⟩) l2 ∧ SeesN c (nd c D) A5 fE) (factL [fun u _ => u = .slice (some ⟨g, 0, none⟩) n cp, fun u _ => u = .pointer (some ⟨D, 0, none⟩), fun u _ => ∃ r : Nat, r < 3 ∧ u = .int .i64 (r : Int), fun u _ => ∃ z : Int, u = .int .i64 z, fun u _ => u = .slice (some ⟨g, 0, none⟩) n cp, fun u _ => u = .pointer (some ⟨g, 0, none⟩), fun u _ => u = .pointer (some ⟨g, 2, none⟩), fun u _ => ∃ z : Int, u = .int .i64 z, fun u _ => u = .bool true, fun u _ => u = .bool true, fun u _ => u = .slice (some ⟨g, 0, none⟩) n cp, fun u _ => u = .slice A5 fE.len c5, fun u _ => u = .bool true, fun u _ => u = .bool true, fun u _ => u = .bool true]) (by kernel_rfl) (firm_list (by simp only [List.forall_mem_cons]; exact ⟨firm_eq _, firm_eq _, fun u c c' h _ => h, fun u c c' h _ => h, firm_eq _, firm_eq _, firm_eq _, fun u c c' h _ => h, firm_eq _, firm_eq _, firm_eq _, firm_eq _, firm_eq _, firm_eq _, firm_eq _, fun X h => by cases h⟩)) (fun c c' h hb => ⟨below_on h.1 hb, h.2.1.below hb, h.2.2.1.onD hb, h.2.2.2.onD hb⟩) HD4.out ?_ ?_
      · refine ops_all (allI.cons ?_ (allI.cons ?_ (allI.cons ?_ (allI.cons ?_ (allI.cons ?_ (allI.cons ?_ (allI.cons ?_ (allI.cons ?_ (allI.cons ?_ (allI.cons ?_ (allI.cons ?_ (allI.cons ?_ (allI.cons ?_ (allI.cons ?_ (allI.cons ?_ allI.nil))))))))))))))) <;> intro v S c a hI hX hSi hdep hS
        · refine ⟨rfl, ?_⟩
          exact o_mv _ rfl (hS.old 4 rfl) (StepG.still rfl)
        · refine ⟨rfl, ?_⟩
          exact o_mv _ rfl (hS.old 3 rfl) (StepG.still rfl)
        · refine ⟨rfl, ?_⟩
          refine o_callV (.func 23) 23 #[.tmp 38, .const (.int .i64 3)] _ rfl rfl (ev2 ((hS.get 1 (dep_at hdep 1 rfl) rfl rfl).trans (hX 1 (dep_at hdep 1 rfl))) rfl) (by kernel_rfl) (HN.out c hI.2.1) (fun e w9 h => ?_)
          obtain ⟨r, hr, rfl, hg, hd⟩ := h
          refine ⟨_, rfl, StepG.turn ⟨r, hr, rfl⟩ ⟨HBR.out _ _ hI.1 hg, hd, hI.2.2.1.diceD hg, hI.2.2.2.diceD hg⟩ fun j hj => ?_⟩
          match j, hj with
          | 0, hj => exact hX 0 hj
          | 1, hj => exact hX 1 hj
          | 2, hj => exact hX 2 hj
          | 3, hj => exact hX 3 hj
          | 4, hj => exact hX 4 hj
          | 5, hj => exact hX 5 hj
          | 6, hj => exact hX 6 hj
          | 7, hj => exact hX 7 hj
          | 8, hj => exact hX 8 hj
          | 9, hj => exact hX 9 hj
          | 10, hj => exact hX 10 hj
          | 11, hj => exact hX 11 hj
          | 12, hj => exact hX 12 hj
          | 13, hj => exact hX 13 hj
          | 14, hj => exact hX 14 hj
          | _ + 15, _ => trivial
        · refine ⟨rfl, ?_⟩
          obtain ⟨r, _, e2⟩ := (hX 2 (dep_at hdep 2 rfl))
          exact o_bin .add _ _ (.const (.int .i64 1)) (.tmp 39) rfl rfl ((hS.get 2 (dep_at hdep 2 rfl) rfl rfl).trans e2) (add_any 1 (r : Int) _ _ _) (StepG.still ⟨_, rfl⟩)
        · refine ⟨rfl, ?_⟩
          exact o_mv _ rfl (hS.old 4 rfl) (StepG.still rfl)
        · refine ⟨rfl, ?_⟩
          exact o_ix _ (.tmp 41) (.const (.int .i64 0)) rfl ((hS.get 4 (dep_at hdep 4 rfl) rfl rfl).trans (hX 4 (dep_at hdep 4 rfl))) rfl (ix_tm0 g n cp h13.1 _) (StepG.still rfl)
        · refine ⟨rfl, ?_⟩
          exact o_fa _ (.tmp 42) 2 rfl ((hS.get 5 (dep_at hdep 5 rfl) rfl rfl).trans (hX 5 (dep_at hdep 5 rfl))) (fa_t2 g _) (StepG.still rfl)
        · refine ⟨rfl, ?_⟩
          obtain ⟨z, hz⟩ := HC2.out c hI.2.2.1
          exact o_ld _ (.tmp 43) rfl ((hS.get 6 (dep_at hdep 6 rfl) rfl rfl).trans (hX 6 (dep_at hdep 6 rfl))) hz ag_i (StepG.still ⟨z, rfl⟩)
        · refine ⟨rfl, ?_⟩
          obtain ⟨z1, e3⟩ := (hX 3 (dep_at hdep 3 rfl))
          obtain ⟨z2, e7⟩ := (hX 7 (dep_at hdep 7 rfl))
          refine o_callV (.func 3) 3 #[.tmp 37, .tmp 40, .tmp 44] _ rfl rfl (ev3 ((hS.get 0 (dep_at hdep 0 rfl) rfl rfl).trans (hX 0 (dep_at hdep 0 rfl))) ((hS.get 3 (dep_at hdep 3 rfl) rfl rfl).trans e3) ((hS.get 7 (dep_at hdep 7 rfl) rfl rfl).trans e7)) (by kernel_rfl) (HLV.out z1 z2 c hI.2.2.1) (fun e w9 h => ?_)
          obtain ⟨rfl, hb⟩ := h
          exact ⟨_, rfl, StepG.new rfl hb⟩
        · refine ⟨rfl, ?_⟩
          exact o_mv _ rfl ((hS.get 8 (dep_at hdep 8 rfl) rfl rfl).trans (hX 8 (dep_at hdep 8 rfl))) (StepG.still rfl)
        · refine ⟨want_tmp rfl rfl rfl (((hS.get 9 (dep_at hdep 9 rfl) rfl rfl).trans (hX 9 (dep_at hdep 9 rfl)))), ?_⟩
          exact o_mv _ rfl (hS.old 4 rfl) (StepG.still rfl)
        · refine ⟨want_tmp rfl rfl rfl (((hS.get 9 (dep_at hdep 9 rfl) rfl rfl).trans (hX 9 (dep_at hdep 9 rfl)))), ?_⟩
          exact o_mv _ rfl (hS.old 5 rfl) (StepG.still rfl)
        · refine ⟨want_tmp rfl rfl rfl (((hS.get 9 (dep_at hdep 9 rfl) rfl rfl).trans (hX 9 (dep_at hdep 9 rfl)))), ?_⟩
          refine o_callV (.func 4) 4 #[.tmp 47, .tmp 48] _ rfl rfl (ev2 ((hS.get 10 (dep_at hdep 10 rfl) rfl rfl).trans (hX 10 (dep_at hdep 10 rfl))) ((hS.get 11 (dep_at hdep 11 rfl) rfl rfl).trans (hX 11 (dep_at hdep 11 rfl)))) (by kernel_rfl) (HLE.out c hI.2.2.1 hI.2.2.2) (fun e w9 h => ?_)
          obtain ⟨rfl, hb⟩ := h
          exact ⟨_, rfl, StepG.new rfl hb⟩
        · refine ⟨rfl, ?_⟩
          exact o_pick (.tmp 46) (.tmp 49) _ rfl ((hS.get 9 (dep_at hdep 9 rfl) rfl rfl).trans (hX 9 (dep_at hdep 9 rfl))) ((hS.get 12 (dep_at hdep 12 rfl) rfl rfl).trans (hX 12 (dep_at hdep 12 rfl))) (StepG.still rfl)
        · refine ⟨rfl, ?_⟩
          exact o_as _ rfl ((hS.get 13 (dep_at hdep 13 rfl) rfl rfl).trans (hX 13 (dep_at hdep 13 rfl))) (StepG.still rfl)
      · intro v wz hI hX
        have e14 : v 14 = .bool true := hX 14 (by decide)
        have HZ := Lib.hid hI.1
        clear hI hX
        simp only [putAll, Act.put]
        simp
        rw [e14]
        clear e14
        go_wp2_with fail
        go_ret
        exact ⟨rfl, HZ.out⟩
    · go_wp2_with fail
      refine (dice_odd 5000 (Nat.le_refl _) fE A5 c5 D wb (nd wb D) (by have := hfl.2; omega) hfv (fun b hb => hb) HD4.out.2.2.2 HD4.out.2.1).mono ?_
      rintro e wc ⟨f2, B, d, rfl, hvb, _, hsz, hsee, hg, hd⟩
      have hf2 := F.vb_ok (by decide) hvb
      have hfs : f2.size ≤ 75 := by have := hfl.2; omega
      have hwb := hg.size
      replace HD4 := Lib.hid (show Below w.heap.size w wc ∧ DiceOk wc D ∧ SeesT wc (nd wc D) (some ⟨g, 0, none⟩) l2 ∧ SeesN wc (nd wc D) B f2 from ⟨HBR.out _ _ HD4.out.1 hg, hd, HD4.out.2.2.1.diceD hg, hsee.imp fun b hb => by
        rcases hb with hb | hb
        · exact ⟨Nat.lt_of_lt_of_le hb.1 hwb, hb.2⟩
        · exact ⟨hb.2, by have := hb.1; have := HD4.out.2.1.lt; omega⟩⟩)
      clear hg hd hsee hvb hsz hwb
      go_wp2_with fail
      have hfk := F.k0_size f2
      have HLE := Lib.hid (fun c (h1 : SeesT c (nd c D) (some ⟨g, 0, none⟩) l2) (h2 : SeesN c (nd c D) B f2) => law_exact l2 n hl2 (some ⟨g, 0, none⟩) cp f2 f2.len rfl hf2 (by omega) B d c (h1.imp fun b hb => hb.1) (h2.imp fun b hb => hb.1))
      refine region_guarded (by kernel_rfl) _ (fun c => Below w.heap.size w c ∧ DiceOk c D ∧ SeesT c (nd c D) (some ⟨g, 0, none⟩) l2 ∧ SeesN c (nd c D) B f2) (factL [fun u _ => u = .slice (some ⟨g, 0, none⟩) n cp, fun u _ => u = .pointer (some ⟨D, 0, none⟩), fun u _ => ∃ r : Nat, r < 3 ∧ u = .int .i64 (r : Int), fun u _ => ∃ z : Int, u = .int .i64 z, fun u _ => u = .slice (some ⟨g, 0, none⟩) n cp, fun u _ => u = .pointer (some ⟨g, 0, none⟩), fun u _ => u = .pointer (some ⟨g, 2, none⟩), fun u _ => ∃ z : Int, u = .int .i64 z, fun u _ => u = .bool true, fun u _ => u = .bool true, fun u _ => u = .slice (some ⟨g, 0, none⟩) n cp, fun u _ => u = .slice B f2.len d, fun u _ => u = .bool true, fun u _ => u = .bool true, fun u _ => u = .bool true]) (by kernel_rfl) (firm_list (by simp only [List.forall_mem_cons]; exact ⟨firm_eq _, firm_eq _, fun u c c' h _ => h, fun u c c' h _ => h, firm_eq _, firm_eq _, firm_eq _, fun u c c' h _ => h, firm_eq _, firm_eq _, firm_eq _, firm_eq _, firm_eq _, firm_eq _, firm_eq _, fun X h => by cases h⟩)) (fun c c' h hb => ⟨below_on h.1 hb, h.2.1.below hb, h.2.2.1.onD hb, h.2.2.2.onD hb⟩) HD4.out ?_ ?_
      · refine ops_all (allI.cons ?_ (allI.cons ?_ (allI.cons ?_ (allI.cons ?_ (allI.cons ?_ (allI.cons ?_ (allI.cons ?_ (allI.cons ?_ (allI.cons ?_ (allI.cons ?_ (allI.cons ?_ (allI.cons ?_ (allI.cons ?_ (allI.cons ?_ (allI.cons ?_ allI.nil))))))))))))))) <;> intro v S c a hI hX hSi hdep hS
        · refine ⟨rfl, ?_⟩
          exact o_mv _ rfl (hS.old 4 rfl) (StepG.still rfl)
        · refine ⟨rfl, ?_⟩
          exact o_mv _ rfl (hS.old 3 rfl) (StepG.still rfl)
        · refine ⟨rfl, ?_⟩
          refine o_callV (.func 23) 23 #[.tmp 38, .const (.int .i64 3)] _ rfl rfl (ev2 ((hS.get 1 (dep_at hdep 1 rfl) rfl rfl).trans (hX 1 (dep_at hdep 1 rfl))) rfl) (by kernel_rfl) (HN.out c hI.2.1) (fun e w9 h => ?_)
          obtain ⟨r, hr, rfl, hg, hd⟩ := h
          refine ⟨_, rfl, StepG.turn ⟨r, hr, rfl⟩ ⟨HBR.out _ _ hI.1 hg, hd, hI.2.2.1.diceD hg, hI.2.2.2.diceD hg⟩ fun j hj => ?_⟩
          match j, hj with
          | 0, hj => exact hX 0 hj
          | 1, hj => exact hX 1 hj
          | 2, hj => exact hX 2 hj
          | 3, hj => exact hX 3 hj
          | 4, hj => exact hX 4 hj
          | 5, hj => exact hX 5 hj
          | 6, hj => exact hX 6 hj
          | 7, hj => exact hX 7 hj
          | 8, hj => exact hX 8 hj
          | 9, hj => exact hX 9 hj
          | 10, hj => exact hX 10 hj
          | 11, hj => exact hX 11 hj
          | 12, hj => exact hX 12 hj
          | 13, hj => exact hX 13 hj
          | 14, hj => exact hX 14 hj
          | _ + 15, _ => trivial
        · refine ⟨rfl, ?_⟩
          obtain ⟨r, _, e2⟩ := (hX 2 (dep_at hdep 2 rfl))
          exact o_bin .add _ _ (.const (.int .i64 1)) (.tmp 39) rfl rfl ((hS.get 2 (dep_at hdep 2 rfl) rfl rfl).trans e2) (add_any 1 (r : Int) _ _ _) (StepG.still ⟨_, rfl⟩)
        · refine ⟨rfl, ?_⟩
          exact o_mv _ rfl (hS.old 4 rfl) (StepG.still rfl)
        · refine ⟨rfl, ?_⟩
          exact o_ix _ (.tmp 41) (.const (.int .i64 0)) rfl ((hS.get 4 (dep_at hdep 4 rfl) rfl rfl).trans (hX 4 (dep_at hdep 4 rfl))) rfl (ix_tm0 g n cp h13.1 _) (StepG.still rfl)
        · refine ⟨rfl, ?_⟩
          exact o_fa _ (.tmp 42) 2 rfl ((hS.get 5 (dep_at hdep 5 rfl) rfl rfl).trans (hX 5 (dep_at hdep 5 rfl))) (fa_t2 g _) (StepG.still rfl)
        · refine ⟨rfl, ?_⟩
          obtain ⟨z, hz⟩ := HC2.out c hI.2.2.1
          exact o_ld _ (.tmp 43) rfl ((hS.get 6 (dep_at hdep 6 rfl) rfl rfl).trans (hX 6 (dep_at hdep 6 rfl))) hz ag_i (StepG.still ⟨z, rfl⟩)
        · refine ⟨rfl, ?_⟩
          obtain ⟨z1, e3⟩ := (hX 3 (dep_at hdep 3 rfl))
          obtain ⟨z2, e7⟩ := (hX 7 (dep_at hdep 7 rfl))
          refine o_callV (.func 3) 3 #[.tmp 37, .tmp 40, .tmp 44] _ rfl rfl (ev3 ((hS.get 0 (dep_at hdep 0 rfl) rfl rfl).trans (hX 0 (dep_at hdep 0 rfl))) ((hS.get 3 (dep_at hdep 3 rfl) rfl rfl).trans e3) ((hS.get 7 (dep_at hdep 7 rfl) rfl rfl).trans e7)) (by kernel_rfl) (HLV.out z1 z2 c hI.2.2.1) (fun e w9 h => ?_)
          obtain ⟨rfl, hb⟩ := h
          exact ⟨_, rfl, StepG.new rfl hb⟩
        · refine ⟨rfl, ?_⟩
          exact o_mv _ rfl ((hS.get 8 (dep_at hdep 8 rfl) rfl rfl).trans (hX 8 (dep_at hdep 8 rfl))) (StepG.still rfl)
        · refine ⟨want_tmp rfl rfl rfl (((hS.get 9 (dep_at hdep 9 rfl) rfl rfl).trans (hX 9 (dep_at hdep 9 rfl)))), ?_⟩
          exact o_mv _ rfl (hS.old 4 rfl) (StepG.still rfl)
        · refine ⟨want_tmp rfl rfl rfl (((hS.get 9 (dep_at hdep 9 rfl) rfl rfl).trans (hX 9 (dep_at hdep 9 rfl)))), ?_⟩
          exact o_mv _ rfl (hS.old 5 rfl) (StepG.still rfl)
        · refine ⟨want_tmp rfl rfl rfl (((hS.get 9 (dep_at hdep 9 rfl) rfl rfl).trans (hX 9 (dep_at hdep 9 rfl)))), ?_⟩
          refine o_callV (.func 4) 4 #[.tmp 47, .tmp 48] _ rfl rfl (ev2 ((hS.get 10 (dep_at hdep 10 rfl) rfl rfl).trans (hX 10 (dep_at hdep 10 rfl))) ((hS.get 11 (dep_at hdep 11 rfl) rfl rfl).trans (hX 11 (dep_at hdep 11 rfl)))) (by kernel_rfl) (HLE.out c hI.2.2.1 hI.2.2.2) (fun e w9 h => ?_)
          obtain ⟨rfl, hb⟩ := h
          exact ⟨_, rfl, StepG.new rfl hb⟩
        · refine ⟨rfl, ?_⟩
          exact o_pick (.tmp 46) (.tmp 49) _ rfl ((hS.get 9 (dep_at hdep 9 rfl) rfl rfl).trans (hX 9 (dep_at hdep 9 rfl))) ((hS.get 12 (dep_at hdep 12 rfl) rfl rfl).trans (hX 12 (dep_at hdep 12 rfl))) (StepG.still rfl)
        · refine ⟨rfl, ?_⟩
          exact o_as _ rfl ((hS.get 13 (dep_at hdep 13 rfl) rfl rfl).trans (hX 13 (dep_at hdep 13 rfl))) (StepG.still rfl)
      · intro v wz hI hX
        have e14 : v 14 = .bool true := hX 14 (by decide)
        have HZ := Lib.hid hI.1
        clear hI hX
        simp only [putAll, Act.put]
        simp
        rw [e14]
        clear e14
        go_wp2_with fail
        go_ret
        exact ⟨rfl, HZ.out⟩
end Go.Proofs.Ytobbnedojmcgoaa
