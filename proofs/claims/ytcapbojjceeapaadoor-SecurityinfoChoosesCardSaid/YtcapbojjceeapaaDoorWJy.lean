/-
  What is proved here: the maker of infos makes valid ones.
-/
import Derived.Test.YtcapbojjceeapaaDoorWG16
import Derived.Test.YtcapbojjceeapaaDoorWG5
import Derived.Test.YtcapbojjceeapaaDoorWG6
namespace Go.Proofs.YtcapbojjceeapaaDoor
open Go.RowKit
set_option maxRecDepth 8000
set_option linter.unusedVariables false
set_option linter.unusedSimpArgs false
theorem Fresh.grown {w w' : World} {g : Nat} (hf : Fresh w w' g) (row : Option Nat) : w.grownBy w' row := by
  obtain ⟨_, o, rfl⟩ := hf
  exact grown_alloc _ _ _
theorem wr_grown {w w' : World} {g : Nat} (hw : Wr w w' g) : w.grownBy w' (some g) := ⟨hw.1, hw.2.1, hw.2.2.1, by rw [hw.2.2.2.1]; exact Nat.le_refl _, fun k _ hn => hw.2.2.2.2 k fun e => hn (by rw [e])⟩
theorem _root_.Go.World.grownBy.on {w a b : World} {row : Option Nat} (h : w.grownBy a row) (hb : Below a.heap.size a b) : w.grownBy b row :=
  ⟨hb.os.trans h.os, hb.tape.trans h.tape, hb.output.trans h.output, Nat.le_trans h.size hb.size, fun k hk hn => (hb.block k (Nat.lt_of_lt_of_le hk h.size)).trans (h.block k hk hn)⟩
theorem _root_.Go.World.grownBy.wrote {w a b : World} {D g : Nat} (h : w.grownBy a (some D)) (hw : Wr a b g) (hg : w.heap.size ≤ g) : w.grownBy b (some D) :=
  grown_row h (wr_grown hw) fun k e => by injection e with e; omega
theorem DiceOk.wrote {a b : World} {D g : Nat} (h : DiceOk a D) (hw : Wr a b g) (hg : D < g) : DiceOk b D := h.grown (wr_grown hw) fun k e => by injection e with e; omega
theorem RowV.dice {w w' : World} {g D : Nat} {vs : List Value} (h : RowV w g vs) (hg : w.grownBy w' (some D)) (hne : g ≠ D) : RowV w' g vs := h.same (hg.block g h.lt fun e => hne (by injection e))
theorem SeesP.dice {w0 w w' : World} {D : Nat} {A : Option Addr} {cs : List Value} (h : SeesP w (newB w0 w) A cs) (hg : w.grownBy w' (some D)) (hD : D < w0.heap.size) : SeesP w' (newB w0 w') A cs :=
  (h.keep fun q hq => World.cell?_of_block (hg.block _ hq.2 fun e => by injection e with e; have := hq.1; omega)).imp fun b hb => ⟨hb.1, Nat.lt_of_lt_of_le hb.2 hg.size⟩
theorem SeesP.wrote {w0 w w' : World} {g : Nat} {A : Option Addr} {cs : List Value} (h : SeesP w (newB w0 w) A cs) (hw : Wr w w' g) (hg : g < w0.heap.size) : SeesP w' (newB w0 w') A cs :=
  (h.keep fun q hq => World.cell?_of_block (hw.2.2.2.2 _ fun e => by have := hq.1; omega)).imp fun b hb => ⟨hb.1, by rw [hw.2.2.2.1]; exact hb.2⟩
theorem HeldI.dice {w a b : World} {v : Value} {L : List Im} {D : Nat} (h : HeldI w a v L) (hg : a.grownBy b (some D)) (hD : D < w.heap.size) : HeldI w b v L := by
  unfold HeldI at h ⊢
  refine own_far h hg fun e => ?_
  have := (own_lt3 h D e).1
  omega
theorem HeldI.below {w a b : World} {v : Value} {L : List Im} (h : HeldI w a v L) (hb : Below a.heap.size a b) : HeldI w b v L := own3_on h hb
theorem HeldI.wrote {w a b : World} {v : Value} {L : List Im} {g : Nat} (h : HeldI w a v L) (hw : Wr a b g) (hne : v.ownBlock ≠ some g) : HeldI w b v L := by
  unfold HeldI at h ⊢
  exact own_far h (wr_grown hw) hne
theorem chk_snoc : ∀ {L : List Im} {q : Option Im} {x : Im}, chkI q L = 0 → oneI x = 0 → (∀ y ∈ L, behB x y = true) → (∀ y, q = some y → behB x y = true) → chkI q (L ++ [x]) = 0
  | [], q, x, _, h1, _, h3 => by
    show (if oneI x ≠ 0 then oneI x else if ordB x q = false then 17 else chkI (some x) []) = 0
    rw [if_neg (by rw [h1]; decide)]
    have : ordB x q = true := by
      cases q with
      | none => rfl
      | some y => exact h3 y rfl
    rw [if_neg (by rw [this]; decide)]
    rfl
  | y :: r, q, x, h, h1, h2, h3 => by
    unfold chkI at h
    show (if oneI y ≠ 0 then oneI y else if ordB y q = false then 17 else chkI (some y) (r ++ [x])) = 0
    split at h
    · rename_i e; exact absurd h e
    · rename_i e
      rw [if_neg e]
      split at h
      · cases h
      · rename_i e2
        rw [if_neg e2]
        exact chk_snoc h h1 (fun z hz => h2 z (List.mem_cons_of_mem _ hz)) (fun z hz => by injection hz with hz; subst hz; exact h2 _ (List.mem_cons_self ..))
theorem beh_p {x y : Im} (h : y.p < x.p) : behB x y = true := by simp [behB, h]
theorem beh_i {x y : Im} (h : y.p = x.p) (h2 : y.i < x.i) : behB x y = true := by simp [behB, h, h2]
theorem one_pw {p v a : Int} (hp : p = 2 ∨ p = 3) (h1 : 1 ≤ v) (h2 : v ≤ 255) (h3 : 0 ≤ a) (h4 : a ≤ 31) : oneI ⟨p, v, a, 0, 0⟩ = 0 := by
  rcases hp with rfl | rfl <;> simp [oneI, rngI, parB, kidB, keyB, pwB, h1, h2, h3, h4]
theorem one_plain {p v : Int} (hp : p = 5 ∨ p = 6) (h1 : 1 ≤ v) (h2 : v ≤ 255) : oneI ⟨p, v, 0, 0, 0⟩ = 0 := by
  rcases hp with rfl | rfl <;> simp [oneI, rngI, parB, kidB, keyB, pwB, h1, h2]
theorem one_chip {v k i : Int} (h1 : 1 ≤ v) (h2 : v ≤ 255) (h3 : 0 ≤ i) (h4 : i ≤ 255) (hk : elB k = true) : oneI ⟨4, v, 0, k, i⟩ = 0 := by
  simp [oneI, rngI, parB, kidB, keyB, pwB, h1, h2, h3, h4, hk]
theorem bldI2g (a b : Int) : Tryd.prog.built 44 [(0, .int .i64 a), (1, .int .i64 b)] = some (⟨a, b, 0, 0, 0⟩ : Im).cs.toArray := by kernel_rfl
theorem point_el (n : Int) : elB (pointZ n) = true := pt_el (near_bd n).1 (by have := (near_bd n).2; omega)
def InfsIs (w : World) (D : Nat) (e : Ending) (w' : World) : Prop := ∃ v L, e = .returned v ∧ vaE L = 0 ∧ L.length ≤ 15 ∧ HeldI w w' v L ∧ w.grownBy w' (some D) ∧ DiceOk w' D
set_option maxHeartbeats 12800000 in
set_option maxRecDepth 20000 in
theorem dice_infos (D : Nat) (w : World) (h : DiceOk w D) :
    Calls Tryd.prog 19 #[.pointer (some ⟨D, 0, none⟩)] w (InfsIs w D) := by
  obtain ⟨i0, hi, hz0, hz1, hz2⟩ := info_parts info_inf
  have HD := Lib.hid h
  have HDw := Lib.hid h.lt
  have HON := Lib.hid (show ∀ w, DiceOk w D → Calls Tryd.prog 20 #[.pointer (some ⟨D, 0, none⟩), .int .i64 2] w (OneIs w D) from fun w h => dice_one D 2 w (by decide) (by decide) h)
  have HNX := Lib.hid (show ∀ (n : Nat) (w : World), 0 < n → n ≤ 4611686018427387903 → DiceOk w D → Calls Tryd.prog 40 #[.pointer (some ⟨D, 0, none⟩), .int .i64 (n : Int)] w (NextIs w D n) from fun n w h1 h2 h => dice_next D n w h1 h2 h)
  have N255 := Lib.hid (show ∀ (w : World), DiceOk w D → Calls Tryd.prog 40 #[.pointer (some ⟨D, 0, none⟩), .int .i64 255] w (NextIs w D 255) from fun w h => HNX.out 255 w (by decide) (by decide) h)
  have N32 := Lib.hid (show ∀ (w : World), DiceOk w D → Calls Tryd.prog 40 #[.pointer (some ⟨D, 0, none⟩), .int .i64 32] w (NextIs w D 32) from fun w h => HNX.out 32 w (by decide) (by decide) h)
  have N3 := Lib.hid (show ∀ (w : World), DiceOk w D → Calls Tryd.prog 40 #[.pointer (some ⟨D, 0, none⟩), .int .i64 3] w (NextIs w D 3) from fun w h => HNX.out 3 w (by decide) (by decide) h)
  have N40 := Lib.hid (show ∀ (w : World), DiceOk w D → Calls Tryd.prog 40 #[.pointer (some ⟨D, 0, none⟩), .int .i64 40] w (NextIs w D 40) from fun w h => HNX.out 40 w (by decide) (by decide) h)
  have N30 := Lib.hid (show ∀ (w : World), DiceOk w D → Calls Tryd.prog 40 #[.pointer (some ⟨D, 0, none⟩), .int .i64 1073741824] w (NextIs w D 1073741824) from fun w h => HNX.out 1073741824 w (by decide) (by decide) h)
  clear h HNX
  go_enter Tryd.func19, Tryd.ntmps19
  go_wp2
  go_loopw [3, 4] (fun v i wr => ∃ p : Int, 2 ≤ p ∧ p ≤ 7 ∧ i = .int .i64 p ∧ Hid (∃ L, HeldI w wr v L ∧ chkI none L = 0 ∧ (∀ y ∈ L, y.p < p) ∧ (L.length : Int) ≤ 3 * (p - 2) ∧ w.grownBy wr (some D) ∧ DiceOk wr D)) (fun _ i _ => (7 - intOf i).toNat)
  case atStart => exact ⟨2, by omega, by omega, rfl, Lib.hid ⟨[], HeldI.start _ _, rfl, fun y h => (by cases h), by decide, grown_below (Below.refl _ _), HD.out⟩⟩
  case round =>
    obtain ⟨p, hp2, hp7, rfl, HRx⟩ := hrel
    obtain ⟨L, hR⟩ := HRx.out
    have HR := Lib.hid hR
    clear HRx hR
    obtain ⟨jl, hjl⟩ : ∃ z, L.length = z := ⟨_, rfl⟩
    have HJL := Lib.hid hjl
    have hjlb : jl ≤ 100 := by have h := HR.out.2.2.2.1; omega
    clear hjl
    by_cases hlt : p < 7
    · have hps : p = 2 ∨ p = 3 ∨ p = 4 ∨ p = 5 ∨ p = 6 := by omega
      clear hp2 hp7 hlt
      rcases hps with rfl | rfl | rfl | rfl | rfl
      · go_wp2_with (first
        | (go_at_call 20; ((with_reducible refine (HON.out _ HR.out.2.2.2.2.2).mono ?_); rintro e w1 ⟨q1, rfl, hg, hd⟩); have H1 := Lib.hid (show HeldI w w1 u3 L ∧ w.grownBy w1 (some D) ∧ DiceOk w1 D from ⟨HR.out.1.dice hg HDw.out, grown_trans HR.out.2.2.2.2.1 hg, hd⟩); clear hg hd; rcases q1 with _ | _)
        | (go_at_call 40; ((with_reducible refine (N255.out _ H1.out.2.2).mono ?_); rintro e w2 ⟨r, hr, rfl, hg, hd⟩); have H2 := Lib.hid (show HeldI w w2 u3 L ∧ w.grownBy w2 (some D) ∧ DiceOk w2 D from ⟨H1.out.1.dice hg HDw.out, grown_trans H1.out.2.1 hg, hd⟩); have er : wrap64 (1 + (r : Int)) = 1 + (r : Int) := (by unfold wrap64; omega); have HVR := Lib.hid (show 1 ≤ 1 + (r : Int) ∧ 1 + (r : Int) ≤ 255 from (by omega)); clear hr; clear hg hd)
        | ((with_reducible refine at_any_ (d := 18) ?_); go_must (refine wpList_bldI rfl 44 _ rfl (peb2 rfl rfl) (bldI2g _ _) ?_))
        | ((with_reducible refine at_alloc_ (d := 5) ?_); refine wpList_alloc_v (op := ⟨some 5, _, _, _, _, _⟩) rfl 44 rfl zerX info_x ?_; intro g5 w3 hf hr; have H5N := Lib.hid (show D < g5 ∧ g5 ≠ D ∧ w.heap.size ≤ g5 from (by have h1 := hf.1; have h2 := H2.out.2.1.size; have h3 := HDw.out; omega)); have HNB := Lib.hid (show u3.ownBlock ≠ some g5 from fun e => (by have h1 := (own_lt3 H2.out.1 g5 e).2; have h2 := hf.1; omega)); have H3 := Lib.hid (show HeldI w w3 u3 L ∧ w.grownBy w3 (some D) ∧ DiceOk w3 D ∧ RowV w3 g5 zerX from ⟨H2.out.1.below hf.bw, H2.out.2.1.on hf.bw, H2.out.2.2.below hf.bw, hr⟩); clear hf hr)
        | ((with_reducible refine at_store_ (i := 5) ?_); refine wpList_store_v rfl 44 (.tmp 5) (.tmp 18) rfl g5 zerX (⟨2, 1 + (r : Int), 0, 0, 0⟩ : Im).cs rfl (by first | rfl | exact congrArg (fun z : Int => Value.agg (⟨2, z, 0, 0, 0⟩ : Im).cs.toArray) er) H3.out.2.2.2 rfl (Im.cs_one _) size_x ?_; intro w4 hw hr; have H4 := Lib.hid (show HeldI w w4 u3 L ∧ w.grownBy w4 (some D) ∧ DiceOk w4 D ∧ RowV w4 g5 (⟨2, 1 + (r : Int), 0, 0, 0⟩ : Im).cs from ⟨H3.out.1.wrote hw HNB.out, H3.out.2.1.wrote hw H5N.out.2.2, H3.out.2.2.1.wrote hw H5N.out.1, hr⟩); clear hw hr)
        | (go_at_call 40; ((with_reducible refine (N32.out _ H4.out.2.2.1).mono ?_); rintro e w5 ⟨a, ha, rfl, hg, hd⟩); have H6 := Lib.hid (show HeldI w w5 u3 L ∧ w.grownBy w5 (some D) ∧ DiceOk w5 D ∧ RowV w5 g5 (⟨2, 1 + (r : Int), 0, 0, 0⟩ : Im).cs from ⟨H4.out.1.dice hg HDw.out, grown_trans H4.out.2.1 hg, hd, H4.out.2.2.2.dice hg H5N.out.2.1⟩); have HVA := Lib.hid ha; clear ha; clear hg hd)
        | ((with_reducible refine at_store_ (i := 25) ?_); go_must (refine wpList_store_at rfl 3 (.tmp 25) (.tmp 24) rfl g5 2 (⟨2, 1 + (r : Int), 0, 0, 0⟩ : Im).cs (.int .i64 ((a : Int))) rfl rfl H6.out.2.2.2 (by rw [Im.cs_len]; decide) rfl rfl size_i ?_); intro w6 hw hr; have H7 := Lib.hid (show HeldI w w6 u3 L ∧ w.grownBy w6 (some D) ∧ DiceOk w6 D ∧ RowV w6 g5 (⟨2, 1 + (r : Int), (a : Int), 0, 0⟩ : Im).cs from ⟨H6.out.1.wrote hw (HNB.out ), H6.out.2.1.wrote hw H5N.out.2.2, H6.out.2.2.1.wrote hw H5N.out.1, hr⟩); clear hw hr)
        | ((with_reducible refine at_load_ (d := 51) ?_); refine wpList_load_v rfl 44 (.tmp 5) rfl g5 rfl (⟨2, 1 + (r : Int), (a : Int), 0, 0⟩ : Im).cs _ H7.out.2.2.2 Tryd.underlying44 rfl (by rw [Im.cs_len]; exact size_x) ?_)
        | ((with_reducible refine at_any_ (d := 52) ?_); go_must (refine wpList_bslV rfl 22 44 1 _ rfl Tryd.underlying22 (pe1 rfl) (bsx (⟨2, 1 + (r : Int), (a : Int), 0, 0⟩ : Im)) ?_); intro g9 wf hf hr; have H9 := Lib.hid (show HeldI w wf u3 L ∧ w.grownBy wf (some D) ∧ DiceOk wf D ∧ RowV wf g5 (⟨2, 1 + (r : Int), (a : Int), 0, 0⟩ : Im).cs ∧ RowV wf g9 (⟨2, 1 + (r : Int), (a : Int), 0, 0⟩ : Im).cs from ⟨H7.out.1.below hf.bw, H7.out.2.1.on hf.bw, H7.out.2.2.1.below hf.bw, H7.out.2.2.2.fresh hf, hr⟩); clear hf hr)
        | ((with_reducible refine at_call_ (d := 53) ?_); have HO := H9.out.1; unfold HeldI at HO; rw [HJL.out] at HO; go_must (refine wpList_append_lies _ rfl (.tmp 50) (.tmp 52) 22 rfl w.heap.size 44 i0 _ 5 40 Tryd.underlying22 hi hz0 hz1 hz2 rfl (by decide) u3 jl (Ics L) rfl HO ⟨g9, 0, none⟩ 1 1 (⟨2, 1 + (r : Int), (a : Int), 0, 0⟩ : Im).cs rfl rfl (RowV.src H9.out.2.2.2.2) (Im.cs_one _) (by decide) (by unfold maxLen; omega) (by omega) H9.out.2.1.size _ rfl ?_); intro g10 c10 wg ho hg hl hltg; have H10 := Lib.hid (show HeldI w wg (.slice (some ⟨g10, 0, none⟩) (jl + 1) c10) (L ++ [(⟨2, 1 + (r : Int), (a : Int), 0, 0⟩ : Im)]) ∧ w.grownBy wg (some D) ∧ DiceOk wg D ∧ (u3.ownBlock ≠ some g5 → RowV wg g5 (⟨2, 1 + (r : Int), (a : Int), 0, 0⟩ : Im).cs) from ⟨by unfold HeldI; rw [Ics_snoc, List.length_append, HJL.out]; exact ho, grown_row H9.out.2.1 hg (fun k e => (own_lt3 HO k e).1), H9.out.2.2.1.grown hg (fun k e => Nat.lt_of_lt_of_le HDw.out (own_lt3 HO k e).1), fun hne => H9.out.2.2.2.1.same (hg.block _ H9.out.2.2.2.1.lt fun e => hne e.symm)⟩); have H10N := Lib.hid (show u3.ownBlock ≠ some g5 → g10 ≠ g5 from fun hne e => hl.elim (fun h => hne (by rw [h, e])) (fun h => by have := H9.out.2.2.2.1.lt; omega)); clear ho hg hl hltg HO))
        · go_roundw
          case rel => exact ⟨3, by omega, by omega, by first | rfl | go_num, Lib.hid ⟨L, H1.out.1, HR.out.2.1, fun y hy => Int.lt_trans (HR.out.2.2.1 y hy) (by decide), by have h := HR.out.2.2.2.1; omega, H1.out.2.1, H1.out.2.2⟩⟩
          case measure => simp [intOf]
        · go_roundw
          case rel => exact ⟨3, by omega, by omega, by first | rfl | go_num, Lib.hid ⟨L ++ [(⟨2, 1 + (r : Int), (a : Int), 0, 0⟩ : Im)], H10.out.1, chk_snoc HR.out.2.1 (one_pw (by decide) HVR.out.1 HVR.out.2 (by omega) (by have := HVA.out; omega)) (fun y hy => beh_p (HR.out.2.2.1 y hy)) (fun y h => by cases h), fun y hy => by
              rcases List.mem_append.1 hy with hy | hy
              · exact Int.lt_trans (HR.out.2.2.1 y hy) (by decide)
              · rw [List.mem_singleton.1 hy]; show (2 : Int) < 2 + 1; decide, by have h := HR.out.2.2.2.1; rw [List.length_append]; simp only [List.length_singleton, Int.natCast_add]; omega, H10.out.2.1, H10.out.2.2.1⟩⟩
          case measure => simp [intOf]
      · go_wp2_with (first
        | (go_at_call 20; ((with_reducible refine (HON.out _ HR.out.2.2.2.2.2).mono ?_); rintro e w1 ⟨q1, rfl, hg, hd⟩); have H1 := Lib.hid (show HeldI w w1 u3 L ∧ w.grownBy w1 (some D) ∧ DiceOk w1 D from ⟨HR.out.1.dice hg HDw.out, grown_trans HR.out.2.2.2.2.1 hg, hd⟩); clear hg hd; rcases q1 with _ | _)
        | (go_at_call 40; ((with_reducible refine (N255.out _ H1.out.2.2).mono ?_); rintro e w2 ⟨r, hr, rfl, hg, hd⟩); have H2 := Lib.hid (show HeldI w w2 u3 L ∧ w.grownBy w2 (some D) ∧ DiceOk w2 D from ⟨H1.out.1.dice hg HDw.out, grown_trans H1.out.2.1 hg, hd⟩); have er : wrap64 (1 + (r : Int)) = 1 + (r : Int) := (by unfold wrap64; omega); have HVR := Lib.hid (show 1 ≤ 1 + (r : Int) ∧ 1 + (r : Int) ≤ 255 from (by omega)); clear hr; clear hg hd)
        | ((with_reducible refine at_any_ (d := 18) ?_); go_must (refine wpList_bldI rfl 44 _ rfl (peb2 rfl rfl) (bldI2g _ _) ?_))
        | ((with_reducible refine at_alloc_ (d := 5) ?_); refine wpList_alloc_v (op := ⟨some 5, _, _, _, _, _⟩) rfl 44 rfl zerX info_x ?_; intro g5 w3 hf hr; have H5N := Lib.hid (show D < g5 ∧ g5 ≠ D ∧ w.heap.size ≤ g5 from (by have h1 := hf.1; have h2 := H2.out.2.1.size; have h3 := HDw.out; omega)); have HNB := Lib.hid (show u3.ownBlock ≠ some g5 from fun e => (by have h1 := (own_lt3 H2.out.1 g5 e).2; have h2 := hf.1; omega)); have H3 := Lib.hid (show HeldI w w3 u3 L ∧ w.grownBy w3 (some D) ∧ DiceOk w3 D ∧ RowV w3 g5 zerX from ⟨H2.out.1.below hf.bw, H2.out.2.1.on hf.bw, H2.out.2.2.below hf.bw, hr⟩); clear hf hr)
        | ((with_reducible refine at_store_ (i := 5) ?_); refine wpList_store_v rfl 44 (.tmp 5) (.tmp 18) rfl g5 zerX (⟨3, 1 + (r : Int), 0, 0, 0⟩ : Im).cs rfl (by first | rfl | exact congrArg (fun z : Int => Value.agg (⟨3, z, 0, 0, 0⟩ : Im).cs.toArray) er) H3.out.2.2.2 rfl (Im.cs_one _) size_x ?_; intro w4 hw hr; have H4 := Lib.hid (show HeldI w w4 u3 L ∧ w.grownBy w4 (some D) ∧ DiceOk w4 D ∧ RowV w4 g5 (⟨3, 1 + (r : Int), 0, 0, 0⟩ : Im).cs from ⟨H3.out.1.wrote hw HNB.out, H3.out.2.1.wrote hw H5N.out.2.2, H3.out.2.2.1.wrote hw H5N.out.1, hr⟩); clear hw hr)
        | (go_at_call 40; ((with_reducible refine (N32.out _ H4.out.2.2.1).mono ?_); rintro e w5 ⟨a, ha, rfl, hg, hd⟩); have H6 := Lib.hid (show HeldI w w5 u3 L ∧ w.grownBy w5 (some D) ∧ DiceOk w5 D ∧ RowV w5 g5 (⟨3, 1 + (r : Int), 0, 0, 0⟩ : Im).cs from ⟨H4.out.1.dice hg HDw.out, grown_trans H4.out.2.1 hg, hd, H4.out.2.2.2.dice hg H5N.out.2.1⟩); have HVA := Lib.hid ha; clear ha; clear hg hd)
        | ((with_reducible refine at_store_ (i := 25) ?_); go_must (refine wpList_store_at rfl 3 (.tmp 25) (.tmp 24) rfl g5 2 (⟨3, 1 + (r : Int), 0, 0, 0⟩ : Im).cs (.int .i64 ((a : Int))) rfl rfl H6.out.2.2.2 (by rw [Im.cs_len]; decide) rfl rfl size_i ?_); intro w6 hw hr; have H7 := Lib.hid (show HeldI w w6 u3 L ∧ w.grownBy w6 (some D) ∧ DiceOk w6 D ∧ RowV w6 g5 (⟨3, 1 + (r : Int), (a : Int), 0, 0⟩ : Im).cs from ⟨H6.out.1.wrote hw (HNB.out ), H6.out.2.1.wrote hw H5N.out.2.2, H6.out.2.2.1.wrote hw H5N.out.1, hr⟩); clear hw hr)
        | ((with_reducible refine at_load_ (d := 51) ?_); refine wpList_load_v rfl 44 (.tmp 5) rfl g5 rfl (⟨3, 1 + (r : Int), (a : Int), 0, 0⟩ : Im).cs _ H7.out.2.2.2 Tryd.underlying44 rfl (by rw [Im.cs_len]; exact size_x) ?_)
        | ((with_reducible refine at_any_ (d := 52) ?_); go_must (refine wpList_bslV rfl 22 44 1 _ rfl Tryd.underlying22 (pe1 rfl) (bsx (⟨3, 1 + (r : Int), (a : Int), 0, 0⟩ : Im)) ?_); intro g9 wf hf hr; have H9 := Lib.hid (show HeldI w wf u3 L ∧ w.grownBy wf (some D) ∧ DiceOk wf D ∧ RowV wf g5 (⟨3, 1 + (r : Int), (a : Int), 0, 0⟩ : Im).cs ∧ RowV wf g9 (⟨3, 1 + (r : Int), (a : Int), 0, 0⟩ : Im).cs from ⟨H7.out.1.below hf.bw, H7.out.2.1.on hf.bw, H7.out.2.2.1.below hf.bw, H7.out.2.2.2.fresh hf, hr⟩); clear hf hr)
        | ((with_reducible refine at_call_ (d := 53) ?_); have HO := H9.out.1; unfold HeldI at HO; rw [HJL.out] at HO; go_must (refine wpList_append_lies _ rfl (.tmp 50) (.tmp 52) 22 rfl w.heap.size 44 i0 _ 5 40 Tryd.underlying22 hi hz0 hz1 hz2 rfl (by decide) u3 jl (Ics L) rfl HO ⟨g9, 0, none⟩ 1 1 (⟨3, 1 + (r : Int), (a : Int), 0, 0⟩ : Im).cs rfl rfl (RowV.src H9.out.2.2.2.2) (Im.cs_one _) (by decide) (by unfold maxLen; omega) (by omega) H9.out.2.1.size _ rfl ?_); intro g10 c10 wg ho hg hl hltg; have H10 := Lib.hid (show HeldI w wg (.slice (some ⟨g10, 0, none⟩) (jl + 1) c10) (L ++ [(⟨3, 1 + (r : Int), (a : Int), 0, 0⟩ : Im)]) ∧ w.grownBy wg (some D) ∧ DiceOk wg D ∧ (u3.ownBlock ≠ some g5 → RowV wg g5 (⟨3, 1 + (r : Int), (a : Int), 0, 0⟩ : Im).cs) from ⟨by unfold HeldI; rw [Ics_snoc, List.length_append, HJL.out]; exact ho, grown_row H9.out.2.1 hg (fun k e => (own_lt3 HO k e).1), H9.out.2.2.1.grown hg (fun k e => Nat.lt_of_lt_of_le HDw.out (own_lt3 HO k e).1), fun hne => H9.out.2.2.2.1.same (hg.block _ H9.out.2.2.2.1.lt fun e => hne e.symm)⟩); have H10N := Lib.hid (show u3.ownBlock ≠ some g5 → g10 ≠ g5 from fun hne e => hl.elim (fun h => hne (by rw [h, e])) (fun h => by have := H9.out.2.2.2.1.lt; omega)); clear ho hg hl hltg HO))
        · go_roundw
          case rel => exact ⟨4, by omega, by omega, by first | rfl | go_num, Lib.hid ⟨L, H1.out.1, HR.out.2.1, fun y hy => Int.lt_trans (HR.out.2.2.1 y hy) (by decide), by have h := HR.out.2.2.2.1; omega, H1.out.2.1, H1.out.2.2⟩⟩
          case measure => simp [intOf]
        · go_roundw
          case rel => exact ⟨4, by omega, by omega, by first | rfl | go_num, Lib.hid ⟨L ++ [(⟨3, 1 + (r : Int), (a : Int), 0, 0⟩ : Im)], H10.out.1, chk_snoc HR.out.2.1 (one_pw (by decide) HVR.out.1 HVR.out.2 (by omega) (by have := HVA.out; omega)) (fun y hy => beh_p (HR.out.2.2.1 y hy)) (fun y h => by cases h), fun y hy => by
              rcases List.mem_append.1 hy with hy | hy
              · exact Int.lt_trans (HR.out.2.2.1 y hy) (by decide)
              · rw [List.mem_singleton.1 hy]; show (3 : Int) < 3 + 1; decide, by have h := HR.out.2.2.2.1; rw [List.length_append]; simp only [List.length_singleton, Int.natCast_add]; omega, H10.out.2.1, H10.out.2.2.1⟩⟩
          case measure => simp [intOf]
      · go_wp2_with (first
        | (go_at_call 20; ((with_reducible refine (HON.out _ HR.out.2.2.2.2.2).mono ?_); rintro e w1 ⟨q1, rfl, hg, hd⟩); have H1 := Lib.hid (show HeldI w w1 u3 L ∧ w.grownBy w1 (some D) ∧ DiceOk w1 D from ⟨HR.out.1.dice hg HDw.out, grown_trans HR.out.2.2.2.2.1 hg, hd⟩); clear hg hd; rcases q1 with _ | _)
        | (go_at_call 40; ((with_reducible refine (N255.out _ H1.out.2.2).mono ?_); rintro e w2 ⟨r, hr, rfl, hg, hd⟩); have H2 := Lib.hid (show HeldI w w2 u3 L ∧ w.grownBy w2 (some D) ∧ DiceOk w2 D from ⟨H1.out.1.dice hg HDw.out, grown_trans H1.out.2.1 hg, hd⟩); have er : wrap64 (1 + (r : Int)) = 1 + (r : Int) := (by unfold wrap64; omega); have HVR := Lib.hid (show 1 ≤ 1 + (r : Int) ∧ 1 + (r : Int) ≤ 255 from (by omega)); clear hr; clear hg hd)
        | ((with_reducible refine at_any_ (d := 18) ?_); go_must (refine wpList_bldI rfl 44 _ rfl (peb2 rfl rfl) (bldI2g _ _) ?_))
        | ((with_reducible refine at_alloc_ (d := 5) ?_); refine wpList_alloc_v (op := ⟨some 5, _, _, _, _, _⟩) rfl 44 rfl zerX info_x ?_; intro g5 w3 hf hr; have H5N := Lib.hid (show D < g5 ∧ g5 ≠ D ∧ w.heap.size ≤ g5 from (by have h1 := hf.1; have h2 := H2.out.2.1.size; have h3 := HDw.out; omega)); have HNB := Lib.hid (show u3.ownBlock ≠ some g5 from fun e => (by have h1 := (own_lt3 H2.out.1 g5 e).2; have h2 := hf.1; omega)); have H3 := Lib.hid (show HeldI w w3 u3 L ∧ w.grownBy w3 (some D) ∧ DiceOk w3 D ∧ RowV w3 g5 zerX from ⟨H2.out.1.below hf.bw, H2.out.2.1.on hf.bw, H2.out.2.2.below hf.bw, hr⟩); clear hf hr)
        | ((with_reducible refine at_store_ (i := 5) ?_); refine wpList_store_v rfl 44 (.tmp 5) (.tmp 18) rfl g5 zerX (⟨4, 1 + (r : Int), 0, 0, 0⟩ : Im).cs rfl (by first | rfl | exact congrArg (fun z : Int => Value.agg (⟨4, z, 0, 0, 0⟩ : Im).cs.toArray) er) H3.out.2.2.2 rfl (Im.cs_one _) size_x ?_; intro w4 hw hr; have H4 := Lib.hid (show HeldI w w4 u3 L ∧ w.grownBy w4 (some D) ∧ DiceOk w4 D ∧ RowV w4 g5 (⟨4, 1 + (r : Int), 0, 0, 0⟩ : Im).cs from ⟨H3.out.1.wrote hw HNB.out, H3.out.2.1.wrote hw H5N.out.2.2, H3.out.2.2.1.wrote hw H5N.out.1, hr⟩); clear hw hr)
        | (go_at_call 40; ((with_reducible refine (N3.out _ H4.out.2.2.1).mono ?_); rintro e w5 ⟨b, hb, rfl, hg, hd⟩); have H6 := Lib.hid (show HeldI w w5 u3 L ∧ w.grownBy w5 (some D) ∧ DiceOk w5 D ∧ RowV w5 g5 (⟨4, 1 + (r : Int), 0, 0, 0⟩ : Im).cs from ⟨H4.out.1.dice hg HDw.out, grown_trans H4.out.2.1 hg, hd, H4.out.2.2.2.dice hg H5N.out.2.1⟩); clear hg hd))
        · go_roundw
          case rel => exact ⟨5, by omega, by omega, by first | rfl | go_num, Lib.hid ⟨L, H1.out.1, HR.out.2.1, fun y hy => Int.lt_trans (HR.out.2.2.1 y hy) (by decide), by have h := HR.out.2.2.2.1; omega, H1.out.2.1, H1.out.2.2⟩⟩
          case measure => simp [intOf]
        · go_loopw [3, 6] (fun v i wq => ∃ id : Nat, id ≤ 3 ∧ i = .int .i64 (id : Int) ∧ Hid (∃ L2 k i2, HeldI w wq v L2 ∧ w.grownBy wq (some D) ∧ DiceOk wq D ∧ RowV wq g5 (⟨4, 1 + (r : Int), 0, k, i2⟩ : Im).cs ∧ chkI none L2 = 0 ∧ L2.length ≤ jl + id ∧ L2.length ≤ jl + 2 ∧ v.ownBlock ≠ some g5 ∧ (id < 3 → ∀ y ∈ L2, y.p < 4 ∨ (y.p = 4 ∧ y.i < 40 * (id : Int))) ∧ (id = 3 → elB k = true ∧ 80 ≤ i2 ∧ i2 < 120 ∧ ∀ y ∈ L2, y.p < 4 ∨ (y.p = 4 ∧ y.i < 80)))) (fun _ i _ => 3 - (intOf i).toNat)
          case atStart => exact ⟨b, by omega, rfl, Lib.hid ⟨L, 0, 0, H6.out.1, H6.out.2.1, H6.out.2.2.1, H6.out.2.2.2, HR.out.2.1, by rw [HJL.out]; omega, by rw [HJL.out]; omega, HNB.out, fun _ y hy => .inl (HR.out.2.2.1 y hy), fun h => by omega⟩⟩
          case round =>
            obtain ⟨id, hid3, rfl, HQx⟩ := hrel
            obtain ⟨L2, k, i2, hQ⟩ := HQx.out
            have HQ := Lib.hid hQ
            clear HQx hQ HNB
            have HNB := Lib.hid HQ.out.2.2.2.2.2.2.2.1
            obtain ⟨j2, hj2⟩ : ∃ z, L2.length = z := ⟨_, rfl⟩
            have HJ2 := Lib.hid hj2
            have hjb : j2 ≤ 100 := by have h1 := HQ.out.2.2.2.2.2.2.1; have h2 := HR.out.2.2.2.1; have h3 := HJL.out; omega
            clear hj2
            by_cases hl3 : id < 3
            · have d3 : decide ((id : Int) < 3) = true := by simp; omega
              have e40 : wrap64 (40 * (id : Int)) = 40 * (id : Int) := by unfold wrap64; omega
              have HQ4 := Lib.hid (show HeldI w wr u3 L2 ∧ w.grownBy wr (some D) ∧ DiceOk wr D ∧ RowV wr g5 (⟨4, 1 + (r : Int), 0, k, i2⟩ : Im).cs from ⟨HQ.out.1, HQ.out.2.1, HQ.out.2.2.1, HQ.out.2.2.2.1⟩)
              by_cases hl2 : id < 2
              · have d2 : decide ((id : Int) < 2) = true := by simp; omega
                go_wp2_with (first
                  | (go_at_call 40; ((with_reducible refine (N30.out _ HQ.out.2.2.1).mono ?_); rintro e w7 ⟨m, hm, rfl, hg, hd⟩); have H7 := Lib.hid (show HeldI w w7 u3 L2 ∧ w.grownBy w7 (some D) ∧ DiceOk w7 D ∧ RowV w7 g5 (⟨4, 1 + (r : Int), 0, k, i2⟩ : Im).cs from ⟨HQ4.out.1.dice hg HDw.out, grown_trans HQ4.out.2.1 hg, hd, HQ4.out.2.2.2.dice hg H5N.out.2.1⟩); clear hm; clear hg hd)
                  | (go_at_call 41; ((with_reducible refine (ref_point (m : Int) _).mono ?_); rintro e wp ⟨rfl, rfl⟩))
                  | (go_at_call 40; ((with_reducible refine (N40.out _ H7.out.2.2.1).mono ?_); rintro e w8 ⟨s, hs, rfl, hg, hd⟩); have H8 := Lib.hid (show HeldI w w8 u3 L2 ∧ w.grownBy w8 (some D) ∧ DiceOk w8 D ∧ RowV w8 g5 (⟨4, 1 + (r : Int), 0, k, i2⟩ : Im).cs from ⟨H7.out.1.dice hg HDw.out, grown_trans H7.out.2.1 hg, hd, H7.out.2.2.2.dice hg H5N.out.2.1⟩); have es : wrap64 (40 * (id : Int) + (s : Int)) = 40 * (id : Int) + (s : Int) := (by unfold wrap64; omega); have HVS := Lib.hid hs; clear hs; clear hg hd)
                  | ((with_reducible refine at_store_ (i := 42) ?_); go_must (refine wpList_store_at rfl 3 (.tmp 42) (.tmp 36) rfl g5 3 (⟨4, 1 + (r : Int), 0, k, i2⟩ : Im).cs (.int .i64 (pointZ (m : Int))) rfl rfl H8.out.2.2.2 (by rw [Im.cs_len]; decide) rfl rfl size_i ?_); intro w9 hw hr; have H11 := Lib.hid (show HeldI w w9 u3 L2 ∧ w.grownBy w9 (some D) ∧ DiceOk w9 D ∧ RowV w9 g5 (⟨4, 1 + (r : Int), 0, pointZ (m : Int), i2⟩ : Im).cs from ⟨H8.out.1.wrote hw (HNB.out ), H8.out.2.1.wrote hw H5N.out.2.2, H8.out.2.2.1.wrote hw H5N.out.1, hr⟩); clear hw hr)
                  | ((with_reducible refine at_store_ (i := 43) ?_); go_must (refine wpList_store_at rfl 3 (.tmp 43) (.tmp 41) rfl g5 4 (⟨4, 1 + (r : Int), 0, pointZ (m : Int), i2⟩ : Im).cs (.int .i64 (40 * (id : Int) + (s : Int))) rfl (by first | rfl | exact congrArg (Value.int .i64) es) H11.out.2.2.2 (by rw [Im.cs_len]; decide) rfl rfl size_i ?_); intro w10 hw hr; have H12 := Lib.hid (show HeldI w w10 u3 L2 ∧ w.grownBy w10 (some D) ∧ DiceOk w10 D ∧ RowV w10 g5 (⟨4, 1 + (r : Int), 0, pointZ (m : Int), 40 * (id : Int) + (s : Int)⟩ : Im).cs from ⟨H11.out.1.wrote hw (HNB.out ), H11.out.2.1.wrote hw H5N.out.2.2, H11.out.2.2.1.wrote hw H5N.out.1, hr⟩); clear hw hr)
                  | ((with_reducible refine at_load_ (d := 47) ?_); refine wpList_load_v rfl 44 (.tmp 5) rfl g5 rfl (⟨4, 1 + (r : Int), 0, pointZ (m : Int), 40 * (id : Int) + (s : Int)⟩ : Im).cs _ H12.out.2.2.2 Tryd.underlying44 rfl (by rw [Im.cs_len]; exact size_x) ?_)
                  | ((with_reducible refine at_any_ (d := 48) ?_); go_must (refine wpList_bslV rfl 22 44 1 _ rfl Tryd.underlying22 (pe1 rfl) (bsx (⟨4, 1 + (r : Int), 0, pointZ (m : Int), 40 * (id : Int) + (s : Int)⟩ : Im)) ?_); intro g9 wf hf hr; have H9 := Lib.hid (show HeldI w wf u3 L2 ∧ w.grownBy wf (some D) ∧ DiceOk wf D ∧ RowV wf g5 (⟨4, 1 + (r : Int), 0, pointZ (m : Int), 40 * (id : Int) + (s : Int)⟩ : Im).cs ∧ RowV wf g9 (⟨4, 1 + (r : Int), 0, pointZ (m : Int), 40 * (id : Int) + (s : Int)⟩ : Im).cs from ⟨H12.out.1.below hf.bw, H12.out.2.1.on hf.bw, H12.out.2.2.1.below hf.bw, H12.out.2.2.2.fresh hf, hr⟩); clear hf hr)
                  | ((with_reducible refine at_call_ (d := 49) ?_); have HO := H9.out.1; unfold HeldI at HO; rw [HJ2.out] at HO; go_must (refine wpList_append_lies _ rfl (.tmp 46) (.tmp 48) 22 rfl w.heap.size 44 i0 _ 5 40 Tryd.underlying22 hi hz0 hz1 hz2 rfl (by decide) u3 j2 (Ics L2) rfl HO ⟨g9, 0, none⟩ 1 1 (⟨4, 1 + (r : Int), 0, pointZ (m : Int), 40 * (id : Int) + (s : Int)⟩ : Im).cs rfl rfl (RowV.src H9.out.2.2.2.2) (Im.cs_one _) (by decide) (by unfold maxLen; omega) (by omega) H9.out.2.1.size _ rfl ?_); intro g10 c10 wg ho hg hl hltg; have H10 := Lib.hid (show HeldI w wg (.slice (some ⟨g10, 0, none⟩) (j2 + 1) c10) (L2 ++ [(⟨4, 1 + (r : Int), 0, pointZ (m : Int), 40 * (id : Int) + (s : Int)⟩ : Im)]) ∧ w.grownBy wg (some D) ∧ DiceOk wg D ∧ (u3.ownBlock ≠ some g5 → RowV wg g5 (⟨4, 1 + (r : Int), 0, pointZ (m : Int), 40 * (id : Int) + (s : Int)⟩ : Im).cs) from ⟨by unfold HeldI; rw [Ics_snoc, List.length_append, HJ2.out]; exact ho, grown_row H9.out.2.1 hg (fun k e => (own_lt3 HO k e).1), H9.out.2.2.1.grown hg (fun k e => Nat.lt_of_lt_of_le HDw.out (own_lt3 HO k e).1), fun hne => H9.out.2.2.2.1.same (hg.block _ H9.out.2.2.2.1.lt fun e => hne e.symm)⟩); have H10N := Lib.hid (show u3.ownBlock ≠ some g5 → g10 ≠ g5 from fun hne e => hl.elim (fun h => hne (by rw [h, e])) (fun h => by have := H9.out.2.2.2.1.lt; omega)); clear ho hg hl hltg HO))
                go_roundw
                case rel => exact ⟨id + 1, by omega, by first | rfl | go_num, Lib.hid ⟨L2 ++ [(⟨4, 1 + (r : Int), 0, pointZ (m : Int), 40 * (id : Int) + (s : Int)⟩ : Im)], pointZ (m : Int), 40 * (id : Int) + (s : Int), H10.out.1, H10.out.2.1, H10.out.2.2.1, H10.out.2.2.2 HNB.out, chk_snoc HQ.out.2.2.2.2.1 (one_chip HVR.out.1 HVR.out.2 (by omega) (by have := HVS.out; omega) (point_el _)) (fun y hy => by
                    rcases HQ.out.2.2.2.2.2.2.2.2.1 hl3 y hy with h | ⟨h, h2⟩
                    · exact beh_p h
                    · exact beh_i h (by show y.i < 40 * (id : Int) + (s : Int); omega)) (fun y h => by cases h), by rw [List.length_append]; have := HQ.out.2.2.2.2.2.1; simp only [List.length_singleton]; omega, by rw [List.length_append]; have := HQ.out.2.2.2.2.2.1; simp only [List.length_singleton]; omega, fun e => by
                    have e2 : g10 = g5 := by simpa [Value.ownBlock] using e
                    exact H10N.out HNB.out e2, fun _ y hy => by
                    rcases List.mem_append.1 hy with hy | hy
                    · rcases HQ.out.2.2.2.2.2.2.2.2.1 hl3 y hy with h | ⟨h, h2⟩
                      · exact .inl h
                      · exact .inr ⟨h, by omega⟩
                    · rw [List.mem_singleton.1 hy]
                      exact .inr ⟨rfl, by show 40 * (id : Int) + (s : Int) < _; have := HVS.out; omega⟩, fun h => by omega⟩⟩
                case measure => simp [intOf]; omega
              · have d2 : decide ((id : Int) < 2) = false := by simp; omega
                go_wp2_with (first
                  | (go_at_call 40; ((with_reducible refine (N30.out _ HQ.out.2.2.1).mono ?_); rintro e w7 ⟨m, hm, rfl, hg, hd⟩); have H7 := Lib.hid (show HeldI w w7 u3 L2 ∧ w.grownBy w7 (some D) ∧ DiceOk w7 D ∧ RowV w7 g5 (⟨4, 1 + (r : Int), 0, k, i2⟩ : Im).cs from ⟨HQ4.out.1.dice hg HDw.out, grown_trans HQ4.out.2.1 hg, hd, HQ4.out.2.2.2.dice hg H5N.out.2.1⟩); clear hm; clear hg hd)
                  | (go_at_call 41; ((with_reducible refine (ref_point (m : Int) _).mono ?_); rintro e wp ⟨rfl, rfl⟩))
                  | (go_at_call 40; ((with_reducible refine (N40.out _ H7.out.2.2.1).mono ?_); rintro e w8 ⟨s, hs, rfl, hg, hd⟩); have H8 := Lib.hid (show HeldI w w8 u3 L2 ∧ w.grownBy w8 (some D) ∧ DiceOk w8 D ∧ RowV w8 g5 (⟨4, 1 + (r : Int), 0, k, i2⟩ : Im).cs from ⟨H7.out.1.dice hg HDw.out, grown_trans H7.out.2.1 hg, hd, H7.out.2.2.2.dice hg H5N.out.2.1⟩); have es : wrap64 (40 * (id : Int) + (s : Int)) = 40 * (id : Int) + (s : Int) := (by unfold wrap64; omega); have HVS := Lib.hid hs; clear hs; clear hg hd)
                  | ((with_reducible refine at_store_ (i := 42) ?_); go_must (refine wpList_store_at rfl 3 (.tmp 42) (.tmp 36) rfl g5 3 (⟨4, 1 + (r : Int), 0, k, i2⟩ : Im).cs (.int .i64 (pointZ (m : Int))) rfl rfl H8.out.2.2.2 (by rw [Im.cs_len]; decide) rfl rfl size_i ?_); intro w9 hw hr; have H11 := Lib.hid (show HeldI w w9 u3 L2 ∧ w.grownBy w9 (some D) ∧ DiceOk w9 D ∧ RowV w9 g5 (⟨4, 1 + (r : Int), 0, pointZ (m : Int), i2⟩ : Im).cs from ⟨H8.out.1.wrote hw (HNB.out ), H8.out.2.1.wrote hw H5N.out.2.2, H8.out.2.2.1.wrote hw H5N.out.1, hr⟩); clear hw hr)
                  | ((with_reducible refine at_store_ (i := 43) ?_); go_must (refine wpList_store_at rfl 3 (.tmp 43) (.tmp 41) rfl g5 4 (⟨4, 1 + (r : Int), 0, pointZ (m : Int), i2⟩ : Im).cs (.int .i64 (40 * (id : Int) + (s : Int))) rfl (by first | rfl | exact congrArg (Value.int .i64) es) H11.out.2.2.2 (by rw [Im.cs_len]; decide) rfl rfl size_i ?_); intro w10 hw hr; have H12 := Lib.hid (show HeldI w w10 u3 L2 ∧ w.grownBy w10 (some D) ∧ DiceOk w10 D ∧ RowV w10 g5 (⟨4, 1 + (r : Int), 0, pointZ (m : Int), 40 * (id : Int) + (s : Int)⟩ : Im).cs from ⟨H11.out.1.wrote hw (HNB.out ), H11.out.2.1.wrote hw H5N.out.2.2, H11.out.2.2.1.wrote hw H5N.out.1, hr⟩); clear hw hr))
                go_roundw
                case rel => exact ⟨id + 1, by omega, by first | rfl | go_num, Lib.hid ⟨L2, pointZ (m : Int), 40 * (id : Int) + (s : Int), H12.out.1, H12.out.2.1, H12.out.2.2.1, H12.out.2.2.2, HQ.out.2.2.2.2.1, by have := HQ.out.2.2.2.2.2.1; omega, HQ.out.2.2.2.2.2.2.1, HNB.out, fun h => by omega, fun _ => ⟨point_el _, by omega, by have := HVS.out; omega, fun y hy => by
                    rcases HQ.out.2.2.2.2.2.2.2.2.1 hl3 y hy with h | ⟨h, h2⟩
                    · exact .inl h
                    · exact .inr ⟨h, by omega⟩⟩⟩⟩
                case measure => simp [intOf]; omega
            · obtain rfl : id = 3 := by omega
              have d3 : decide (((3 : Nat) : Int) < 3) = false := by decide
              obtain ⟨hk, h80, h120, hall⟩ := HQ.out.2.2.2.2.2.2.2.2.2 rfl
              have HF := Lib.hid (show _ ∧ _ ∧ _ ∧ _ from ⟨hk, h80, h120, hall⟩)
              have HQ4 := Lib.hid (show HeldI w wr u3 L2 ∧ w.grownBy wr (some D) ∧ DiceOk wr D ∧ RowV wr g5 (⟨4, 1 + (r : Int), 0, k, i2⟩ : Im).cs from ⟨HQ.out.1, HQ.out.2.1, HQ.out.2.2.1, HQ.out.2.2.2.1⟩)
              clear hk h80 h120 hall
              go_wp2_with (first
                | ((with_reducible refine at_load_ (d := 51) ?_); refine wpList_load_v rfl 44 (.tmp 5) rfl g5 rfl (⟨4, 1 + (r : Int), 0, k, i2⟩ : Im).cs _ HQ4.out.2.2.2 Tryd.underlying44 rfl (by rw [Im.cs_len]; exact size_x) ?_)
                | ((with_reducible refine at_any_ (d := 52) ?_); go_must (refine wpList_bslV rfl 22 44 1 _ rfl Tryd.underlying22 (pe1 rfl) (bsx (⟨4, 1 + (r : Int), 0, k, i2⟩ : Im)) ?_); intro g9 wf hf hr; have H9 := Lib.hid (show HeldI w wf u3 L2 ∧ w.grownBy wf (some D) ∧ DiceOk wf D ∧ RowV wf g5 (⟨4, 1 + (r : Int), 0, k, i2⟩ : Im).cs ∧ RowV wf g9 (⟨4, 1 + (r : Int), 0, k, i2⟩ : Im).cs from ⟨HQ4.out.1.below hf.bw, HQ4.out.2.1.on hf.bw, HQ4.out.2.2.1.below hf.bw, HQ4.out.2.2.2.fresh hf, hr⟩); clear hf hr)
                | ((with_reducible refine at_call_ (d := 53) ?_); have HO := H9.out.1; unfold HeldI at HO; rw [HJ2.out] at HO; go_must (refine wpList_append_lies _ rfl (.tmp 50) (.tmp 52) 22 rfl w.heap.size 44 i0 _ 5 40 Tryd.underlying22 hi hz0 hz1 hz2 rfl (by decide) u3 j2 (Ics L2) rfl HO ⟨g9, 0, none⟩ 1 1 (⟨4, 1 + (r : Int), 0, k, i2⟩ : Im).cs rfl rfl (RowV.src H9.out.2.2.2.2) (Im.cs_one _) (by decide) (by unfold maxLen; omega) (by omega) H9.out.2.1.size _ rfl ?_); intro g10 c10 wg ho hg hl hltg; have H10 := Lib.hid (show HeldI w wg (.slice (some ⟨g10, 0, none⟩) (j2 + 1) c10) (L2 ++ [(⟨4, 1 + (r : Int), 0, k, i2⟩ : Im)]) ∧ w.grownBy wg (some D) ∧ DiceOk wg D ∧ (u3.ownBlock ≠ some g5 → RowV wg g5 (⟨4, 1 + (r : Int), 0, k, i2⟩ : Im).cs) from ⟨by unfold HeldI; rw [Ics_snoc, List.length_append, HJ2.out]; exact ho, grown_row H9.out.2.1 hg (fun k e => (own_lt3 HO k e).1), H9.out.2.2.1.grown hg (fun k e => Nat.lt_of_lt_of_le HDw.out (own_lt3 HO k e).1), fun hne => H9.out.2.2.2.1.same (hg.block _ H9.out.2.2.2.1.lt fun e => hne e.symm)⟩); have H10N := Lib.hid (show u3.ownBlock ≠ some g5 → g10 ≠ g5 from fun hne e => hl.elim (fun h => hne (by rw [h, e])) (fun h => by have := H9.out.2.2.2.1.lt; omega)); clear ho hg hl hltg HO))
              go_roundw
              case rel => exact ⟨5, by omega, by omega, by first | rfl | go_num, Lib.hid ⟨L2 ++ [(⟨4, 1 + (r : Int), 0, k, i2⟩ : Im)], H10.out.1, chk_snoc HQ.out.2.2.2.2.1 (one_chip HVR.out.1 HVR.out.2 (by have := HF.out.2.1; omega) (by have := HF.out.2.2.1; omega) HF.out.1) (fun y hy => by
                  rcases HF.out.2.2.2 y hy with h | ⟨h, h2⟩
                  · exact beh_p h
                  · exact beh_i h (by have := HF.out.2.1; show y.i < i2; omega)) (fun y h => by cases h), fun y hy => by
                  rcases List.mem_append.1 hy with hy | hy
                  · rcases HF.out.2.2.2 y hy with h | ⟨h, h2⟩
                    · exact Int.lt_trans h (by decide)
                    · rw [h]; decide
                  · rw [List.mem_singleton.1 hy]; show (4 : Int) < 5; decide, by have h := HR.out.2.2.2.1; have h2 := HQ.out.2.2.2.2.2.2.1; have h3 := HJL.out; rw [List.length_append]; simp only [List.length_singleton, Int.natCast_add]; omega, H10.out.2.1, H10.out.2.2.1⟩⟩
              case measure => simp [intOf]
      · go_wp2_with (first
        | (go_at_call 20; ((with_reducible refine (HON.out _ HR.out.2.2.2.2.2).mono ?_); rintro e w1 ⟨q1, rfl, hg, hd⟩); have H1 := Lib.hid (show HeldI w w1 u3 L ∧ w.grownBy w1 (some D) ∧ DiceOk w1 D from ⟨HR.out.1.dice hg HDw.out, grown_trans HR.out.2.2.2.2.1 hg, hd⟩); clear hg hd; rcases q1 with _ | _)
        | (go_at_call 40; ((with_reducible refine (N255.out _ H1.out.2.2).mono ?_); rintro e w2 ⟨r, hr, rfl, hg, hd⟩); have H2 := Lib.hid (show HeldI w w2 u3 L ∧ w.grownBy w2 (some D) ∧ DiceOk w2 D from ⟨H1.out.1.dice hg HDw.out, grown_trans H1.out.2.1 hg, hd⟩); have er : wrap64 (1 + (r : Int)) = 1 + (r : Int) := (by unfold wrap64; omega); have HVR := Lib.hid (show 1 ≤ 1 + (r : Int) ∧ 1 + (r : Int) ≤ 255 from (by omega)); clear hr; clear hg hd)
        | ((with_reducible refine at_any_ (d := 18) ?_); go_must (refine wpList_bldI rfl 44 _ rfl (peb2 rfl rfl) (bldI2g _ _) ?_))
        | ((with_reducible refine at_alloc_ (d := 5) ?_); refine wpList_alloc_v (op := ⟨some 5, _, _, _, _, _⟩) rfl 44 rfl zerX info_x ?_; intro g5 w3 hf hr; have H5N := Lib.hid (show D < g5 ∧ g5 ≠ D ∧ w.heap.size ≤ g5 from (by have h1 := hf.1; have h2 := H2.out.2.1.size; have h3 := HDw.out; omega)); have HNB := Lib.hid (show u3.ownBlock ≠ some g5 from fun e => (by have h1 := (own_lt3 H2.out.1 g5 e).2; have h2 := hf.1; omega)); have H3 := Lib.hid (show HeldI w w3 u3 L ∧ w.grownBy w3 (some D) ∧ DiceOk w3 D ∧ RowV w3 g5 zerX from ⟨H2.out.1.below hf.bw, H2.out.2.1.on hf.bw, H2.out.2.2.below hf.bw, hr⟩); clear hf hr)
        | ((with_reducible refine at_store_ (i := 5) ?_); refine wpList_store_v rfl 44 (.tmp 5) (.tmp 18) rfl g5 zerX (⟨5, 1 + (r : Int), 0, 0, 0⟩ : Im).cs rfl (by first | rfl | exact congrArg (fun z : Int => Value.agg (⟨5, z, 0, 0, 0⟩ : Im).cs.toArray) er) H3.out.2.2.2 rfl (Im.cs_one _) size_x ?_; intro w4 hw hr; have H4 := Lib.hid (show HeldI w w4 u3 L ∧ w.grownBy w4 (some D) ∧ DiceOk w4 D ∧ RowV w4 g5 (⟨5, 1 + (r : Int), 0, 0, 0⟩ : Im).cs from ⟨H3.out.1.wrote hw HNB.out, H3.out.2.1.wrote hw H5N.out.2.2, H3.out.2.2.1.wrote hw H5N.out.1, hr⟩); clear hw hr)
        | ((with_reducible refine at_load_ (d := 51) ?_); refine wpList_load_v rfl 44 (.tmp 5) rfl g5 rfl (⟨5, 1 + (r : Int), 0, 0, 0⟩ : Im).cs _ H4.out.2.2.2 Tryd.underlying44 rfl (by rw [Im.cs_len]; exact size_x) ?_)
        | ((with_reducible refine at_any_ (d := 52) ?_); go_must (refine wpList_bslV rfl 22 44 1 _ rfl Tryd.underlying22 (pe1 rfl) (bsx (⟨5, 1 + (r : Int), 0, 0, 0⟩ : Im)) ?_); intro g9 wf hf hr; have H9 := Lib.hid (show HeldI w wf u3 L ∧ w.grownBy wf (some D) ∧ DiceOk wf D ∧ RowV wf g5 (⟨5, 1 + (r : Int), 0, 0, 0⟩ : Im).cs ∧ RowV wf g9 (⟨5, 1 + (r : Int), 0, 0, 0⟩ : Im).cs from ⟨H4.out.1.below hf.bw, H4.out.2.1.on hf.bw, H4.out.2.2.1.below hf.bw, H4.out.2.2.2.fresh hf, hr⟩); clear hf hr)
        | ((with_reducible refine at_call_ (d := 53) ?_); have HO := H9.out.1; unfold HeldI at HO; rw [HJL.out] at HO; go_must (refine wpList_append_lies _ rfl (.tmp 50) (.tmp 52) 22 rfl w.heap.size 44 i0 _ 5 40 Tryd.underlying22 hi hz0 hz1 hz2 rfl (by decide) u3 jl (Ics L) rfl HO ⟨g9, 0, none⟩ 1 1 (⟨5, 1 + (r : Int), 0, 0, 0⟩ : Im).cs rfl rfl (RowV.src H9.out.2.2.2.2) (Im.cs_one _) (by decide) (by unfold maxLen; omega) (by omega) H9.out.2.1.size _ rfl ?_); intro g10 c10 wg ho hg hl hltg; have H10 := Lib.hid (show HeldI w wg (.slice (some ⟨g10, 0, none⟩) (jl + 1) c10) (L ++ [(⟨5, 1 + (r : Int), 0, 0, 0⟩ : Im)]) ∧ w.grownBy wg (some D) ∧ DiceOk wg D ∧ (u3.ownBlock ≠ some g5 → RowV wg g5 (⟨5, 1 + (r : Int), 0, 0, 0⟩ : Im).cs) from ⟨by unfold HeldI; rw [Ics_snoc, List.length_append, HJL.out]; exact ho, grown_row H9.out.2.1 hg (fun k e => (own_lt3 HO k e).1), H9.out.2.2.1.grown hg (fun k e => Nat.lt_of_lt_of_le HDw.out (own_lt3 HO k e).1), fun hne => H9.out.2.2.2.1.same (hg.block _ H9.out.2.2.2.1.lt fun e => hne e.symm)⟩); have H10N := Lib.hid (show u3.ownBlock ≠ some g5 → g10 ≠ g5 from fun hne e => hl.elim (fun h => hne (by rw [h, e])) (fun h => by have := H9.out.2.2.2.1.lt; omega)); clear ho hg hl hltg HO))
        · go_roundw
          case rel => exact ⟨6, by omega, by omega, by first | rfl | go_num, Lib.hid ⟨L, H1.out.1, HR.out.2.1, fun y hy => Int.lt_trans (HR.out.2.2.1 y hy) (by decide), by have h := HR.out.2.2.2.1; omega, H1.out.2.1, H1.out.2.2⟩⟩
          case measure => simp [intOf]
        · go_roundw
          case rel => exact ⟨6, by omega, by omega, by first | rfl | go_num, Lib.hid ⟨L ++ [(⟨5, 1 + (r : Int), 0, 0, 0⟩ : Im)], H10.out.1, chk_snoc HR.out.2.1 (one_plain (by decide) HVR.out.1 HVR.out.2) (fun y hy => beh_p (HR.out.2.2.1 y hy)) (fun y h => by cases h), fun y hy => by
              rcases List.mem_append.1 hy with hy | hy
              · exact Int.lt_trans (HR.out.2.2.1 y hy) (by decide)
              · rw [List.mem_singleton.1 hy]; show (5 : Int) < 5 + 1; decide, by have h := HR.out.2.2.2.1; rw [List.length_append]; simp only [List.length_singleton, Int.natCast_add]; omega, H10.out.2.1, H10.out.2.2.1⟩⟩
          case measure => simp [intOf]
      · go_wp2_with (first
        | (go_at_call 20; ((with_reducible refine (HON.out _ HR.out.2.2.2.2.2).mono ?_); rintro e w1 ⟨q1, rfl, hg, hd⟩); have H1 := Lib.hid (show HeldI w w1 u3 L ∧ w.grownBy w1 (some D) ∧ DiceOk w1 D from ⟨HR.out.1.dice hg HDw.out, grown_trans HR.out.2.2.2.2.1 hg, hd⟩); clear hg hd; rcases q1 with _ | _)
        | (go_at_call 40; ((with_reducible refine (N255.out _ H1.out.2.2).mono ?_); rintro e w2 ⟨r, hr, rfl, hg, hd⟩); have H2 := Lib.hid (show HeldI w w2 u3 L ∧ w.grownBy w2 (some D) ∧ DiceOk w2 D from ⟨H1.out.1.dice hg HDw.out, grown_trans H1.out.2.1 hg, hd⟩); have er : wrap64 (1 + (r : Int)) = 1 + (r : Int) := (by unfold wrap64; omega); have HVR := Lib.hid (show 1 ≤ 1 + (r : Int) ∧ 1 + (r : Int) ≤ 255 from (by omega)); clear hr; clear hg hd)
        | ((with_reducible refine at_any_ (d := 18) ?_); go_must (refine wpList_bldI rfl 44 _ rfl (peb2 rfl rfl) (bldI2g _ _) ?_))
        | ((with_reducible refine at_alloc_ (d := 5) ?_); refine wpList_alloc_v (op := ⟨some 5, _, _, _, _, _⟩) rfl 44 rfl zerX info_x ?_; intro g5 w3 hf hr; have H5N := Lib.hid (show D < g5 ∧ g5 ≠ D ∧ w.heap.size ≤ g5 from (by have h1 := hf.1; have h2 := H2.out.2.1.size; have h3 := HDw.out; omega)); have HNB := Lib.hid (show u3.ownBlock ≠ some g5 from fun e => (by have h1 := (own_lt3 H2.out.1 g5 e).2; have h2 := hf.1; omega)); have H3 := Lib.hid (show HeldI w w3 u3 L ∧ w.grownBy w3 (some D) ∧ DiceOk w3 D ∧ RowV w3 g5 zerX from ⟨H2.out.1.below hf.bw, H2.out.2.1.on hf.bw, H2.out.2.2.below hf.bw, hr⟩); clear hf hr)
        | ((with_reducible refine at_store_ (i := 5) ?_); refine wpList_store_v rfl 44 (.tmp 5) (.tmp 18) rfl g5 zerX (⟨6, 1 + (r : Int), 0, 0, 0⟩ : Im).cs rfl (by first | rfl | exact congrArg (fun z : Int => Value.agg (⟨6, z, 0, 0, 0⟩ : Im).cs.toArray) er) H3.out.2.2.2 rfl (Im.cs_one _) size_x ?_; intro w4 hw hr; have H4 := Lib.hid (show HeldI w w4 u3 L ∧ w.grownBy w4 (some D) ∧ DiceOk w4 D ∧ RowV w4 g5 (⟨6, 1 + (r : Int), 0, 0, 0⟩ : Im).cs from ⟨H3.out.1.wrote hw HNB.out, H3.out.2.1.wrote hw H5N.out.2.2, H3.out.2.2.1.wrote hw H5N.out.1, hr⟩); clear hw hr)
        | ((with_reducible refine at_load_ (d := 51) ?_); refine wpList_load_v rfl 44 (.tmp 5) rfl g5 rfl (⟨6, 1 + (r : Int), 0, 0, 0⟩ : Im).cs _ H4.out.2.2.2 Tryd.underlying44 rfl (by rw [Im.cs_len]; exact size_x) ?_)
        | ((with_reducible refine at_any_ (d := 52) ?_); go_must (refine wpList_bslV rfl 22 44 1 _ rfl Tryd.underlying22 (pe1 rfl) (bsx (⟨6, 1 + (r : Int), 0, 0, 0⟩ : Im)) ?_); intro g9 wf hf hr; have H9 := Lib.hid (show HeldI w wf u3 L ∧ w.grownBy wf (some D) ∧ DiceOk wf D ∧ RowV wf g5 (⟨6, 1 + (r : Int), 0, 0, 0⟩ : Im).cs ∧ RowV wf g9 (⟨6, 1 + (r : Int), 0, 0, 0⟩ : Im).cs from ⟨H4.out.1.below hf.bw, H4.out.2.1.on hf.bw, H4.out.2.2.1.below hf.bw, H4.out.2.2.2.fresh hf, hr⟩); clear hf hr)
        | ((with_reducible refine at_call_ (d := 53) ?_); have HO := H9.out.1; unfold HeldI at HO; rw [HJL.out] at HO; go_must (refine wpList_append_lies _ rfl (.tmp 50) (.tmp 52) 22 rfl w.heap.size 44 i0 _ 5 40 Tryd.underlying22 hi hz0 hz1 hz2 rfl (by decide) u3 jl (Ics L) rfl HO ⟨g9, 0, none⟩ 1 1 (⟨6, 1 + (r : Int), 0, 0, 0⟩ : Im).cs rfl rfl (RowV.src H9.out.2.2.2.2) (Im.cs_one _) (by decide) (by unfold maxLen; omega) (by omega) H9.out.2.1.size _ rfl ?_); intro g10 c10 wg ho hg hl hltg; have H10 := Lib.hid (show HeldI w wg (.slice (some ⟨g10, 0, none⟩) (jl + 1) c10) (L ++ [(⟨6, 1 + (r : Int), 0, 0, 0⟩ : Im)]) ∧ w.grownBy wg (some D) ∧ DiceOk wg D ∧ (u3.ownBlock ≠ some g5 → RowV wg g5 (⟨6, 1 + (r : Int), 0, 0, 0⟩ : Im).cs) from ⟨by unfold HeldI; rw [Ics_snoc, List.length_append, HJL.out]; exact ho, grown_row H9.out.2.1 hg (fun k e => (own_lt3 HO k e).1), H9.out.2.2.1.grown hg (fun k e => Nat.lt_of_lt_of_le HDw.out (own_lt3 HO k e).1), fun hne => H9.out.2.2.2.1.same (hg.block _ H9.out.2.2.2.1.lt fun e => hne e.symm)⟩); have H10N := Lib.hid (show u3.ownBlock ≠ some g5 → g10 ≠ g5 from fun hne e => hl.elim (fun h => hne (by rw [h, e])) (fun h => by have := H9.out.2.2.2.1.lt; omega)); clear ho hg hl hltg HO))
        · go_roundw
          case rel => exact ⟨7, by omega, by omega, by first | rfl | go_num, Lib.hid ⟨L, H1.out.1, HR.out.2.1, fun y hy => Int.lt_trans (HR.out.2.2.1 y hy) (by decide), by have h := HR.out.2.2.2.1; omega, H1.out.2.1, H1.out.2.2⟩⟩
          case measure => simp [intOf]
        · go_roundw
          case rel => exact ⟨7, by omega, by omega, by first | rfl | go_num, Lib.hid ⟨L ++ [(⟨6, 1 + (r : Int), 0, 0, 0⟩ : Im)], H10.out.1, chk_snoc HR.out.2.1 (one_plain (by decide) HVR.out.1 HVR.out.2) (fun y hy => beh_p (HR.out.2.2.1 y hy)) (fun y h => by cases h), fun y hy => by
              rcases List.mem_append.1 hy with hy | hy
              · exact Int.lt_trans (HR.out.2.2.1 y hy) (by decide)
              · rw [List.mem_singleton.1 hy]; show (6 : Int) < 6 + 1; decide, by have h := HR.out.2.2.2.1; rw [List.length_append]; simp only [List.length_singleton, Int.natCast_add]; omega, H10.out.2.1, H10.out.2.2.1⟩⟩
          case measure => simp [intOf]
    · obtain rfl : p = 7 := by omega
      have HE := Lib.hid (show InfsIs w D (.returned u3) wr from ⟨u3, L, rfl, by
        unfold vaE
        have h := HR.out.2.2.2.1
        rw [if_neg (by omega)]
        exact HR.out.2.1, by have h := HR.out.2.2.2.1; omega, HR.out.1, HR.out.2.2.2.2.1, HR.out.2.2.2.2.2⟩)
      clear HR HJL hlt hp2 hp7
      go_wp2
      go_ret
      exact HE.out
end Go.Proofs.YtcapbojjceeapaaDoor
