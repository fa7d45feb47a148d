/-
  What is proved here: the maker OddTemplate.
-/
import Derived.Test.YtobbnedojmcgoaaBt
namespace Go.Proofs.Ytobbnedojmcgoaa
open Go.RowKit
set_option linter.unusedVariables false
set_option linter.unusedSimpArgs false

theorem ix_int (g n c k : Nat) (hk : k < n) (w : World) : (Instr.indexAt 30 (.slice (some ⟨g, 0, none⟩) n c) (.int .i64 (k : Int))).run Try.prog w = .ok (.pointer (some ⟨g, k, none⟩)) w := by
  have h0 : (k : Int) < (n : Int) := by omega
  have h1 : (0 : Int) ≤ (k : Int) := by omega
  simp [go_sem, Addr.add, h0, h1]
  intro h; exact h.symm
theorem ints_atA (zs : List Int) {r : Nat} (h : r < zs.length) : ∃ z, (Is zs).toArray[r]? = some (.int .i64 z) := ⟨zs[r], by simp [Is, h]⟩
theorem ints_at (zs : List Int) {r : Nat} (h : r < zs.length) : ∃ z, (Is zs)[r]? = some (.int .i64 z) := ⟨zs[r], by simp [Is, h]⟩
theorem size_at {r : Nat} (h : r < 4) : ∃ zn : Nat, zn ≤ 1025 ∧ (Is [0, 1, 1024, 1025]).toArray[r]? = some (.int .i64 (zn : Int)) := by
  have : r = 0 ∨ r = 1 ∨ r = 2 ∨ r = 3 := by omega
  rcases this with rfl | rfl | rfl | rfl
  · exact ⟨0, by decide, rfl⟩
  · exact ⟨1, by decide, rfl⟩
  · exact ⟨1024, by decide, rfl⟩
  · exact ⟨1025, by decide, rfl⟩
theorem add_any (x y : Int) (p q : Operand) (w : World) : (do eqGuard .add 3 p q (.int .i64 x) (.int .i64 y); binOp .add 3 (.int .i64 x) (.int .i64 y)).run Try.prog w = .ok (.int .i64 (wrap64 (x + y))) w := by
  simp [eqGuard, binOp, go_sem]
  rw [IntKind.wrap_i64]
  unfold wrap64
  rfl
theorem pe5i {a : Act} {x0 x1 x2 x3 x4 : Operand} {u0 u1 u2 u3 u4 : Value} (h0 : a.eval x0 = u0) (h1 : a.eval x1 = u1) (h2 : a.eval x2 = u2) (h3 : a.eval x3 = u3) (h4 : a.eval x4 = u4) :
    ((#[(0, x0), (1, x1), (2, x2), (3, x3), (4, x4)] : Array (Nat × Operand)).map fun (i, x) => (i, a.eval x)).toList = [(0, u0), (1, u1), (2, u2), (3, u3), (4, u4)] := by simp [h0, h1, h2, h3, h4]
theorem pe4i {a : Act} {x0 x1 x2 x3 : Operand} {u0 u1 u2 u3 : Value} (h0 : a.eval x0 = u0) (h1 : a.eval x1 = u1) (h2 : a.eval x2 = u2) (h3 : a.eval x3 = u3) :
    ((#[(0, x0), (1, x1), (2, x2), (3, x3)] : Array (Nat × Operand)).map fun (i, x) => (i, a.eval x)).toList = [(0, u0), (1, u1), (2, u2), (3, u3)] := by simp [h0, h1, h2, h3]
theorem pe3i {a : Act} {x0 x1 x2 : Operand} {u0 u1 u2 : Value} (h0 : a.eval x0 = u0) (h1 : a.eval x1 = u1) (h2 : a.eval x2 = u2) :
    ((#[(0, x0), (1, x1), (2, x2)] : Array (Nat × Operand)).map fun (i, x) => (i, a.eval x)).toList = [(0, u0), (1, u1), (2, u2)] := by simp [h0, h1, h2]
theorem bsl5 (z : Int) : Try.prog.builtSlice 3 5 [(0, .int .i64 (-1)), (1, .int .i64 0), (2, .int .i64 73048), (3, .int .i64 73049), (4, .int .i64 z)] = some (Is [-1, 0, 73048, 73049, z]).toArray := by kernel_rfl
theorem bsl3 : Try.prog.builtSlice 3 3 [(0, .int .i64 (-1)), (1, .int .i64 65535), (2, .int .i64 65536)] = some (Is [-1, 65535, 65536]).toArray := by kernel_rfl
theorem bsl4 : Try.prog.builtSlice 3 4 [(0, .int .i64 0), (1, .int .i64 100), (2, .int .i64 101), (3, .int .i64 (-1))] = some (Is [0, 100, 101, -1]).toArray := by kernel_rfl
theorem ne_gt {a b : Nat} (h : a < b) : b ≠ a := by omega
theorem zer_cs (n : Nat) (A : Option Addr) {k p f t fo q : Int} : (⟨k, p, f, t, fo, q, List.replicate n 0⟩ : Tm).cs A n = [.int .i64 k, .int .i64 p, .int .i64 f, .int .i64 t, .int .i64 fo, .int .i64 q, .slice A n n] := by
  simp [Tm.cs]
def OtIs (w : World) (D : Nat) (p : Nat → Prop) (e : Ending) (w' : World) : Prop := ∃ (y : Tm) (A : Option Addr) (c : Nat), e = .returned (.agg (y.cs A c).toArray) ∧ y.d.length ≤ 1025 ∧ ((A = none → c = 0) ∧ y.d.length ≤ c) ∧ SeesP w' (fun b => p b ∨ newB w w' b) A (Us y.d) ∧ w.grownBy w' (some D) ∧ DiceOk w' D
set_option maxHeartbeats 12800000 in
set_option maxRecDepth 20000 in
theorem dice_odd_template (D : Nat) (x : Tm) (p : Nat → Prop) (Ad : Option Addr) (cd : Nat) (w : World) (hx : x.d.length ≤ 1024) (h0 : (Ad = none → cd = 0) ∧ x.d.length ≤ cd) (hp : ∀ b, p b → b < w.heap.size ∧ b ≠ D) (hs : SeesP w p Ad (Us x.d)) (h : DiceOk w D) :
    Calls Try.prog 25 #[.pointer (some ⟨D, 0, none⟩), .agg (x.cs Ad cd).toArray] w (OtIs w D p) := by
  obtain ⟨i0, hi, hz0, hz1, hz2⟩ := info_parts info_u8b
  have hDw := h.lt
  obtain ⟨xk, xp, xf, xt, xo, xq, xd⟩ := x
  have HX := Lib.hid hx
  have H00 := Lib.hid h0
  have HSD := Lib.hid (show ∀ u, w.grownBy u (some D) → SeesP u p Ad (Us xd) from fun u hu => hs.keep fun q hq => grown_cell hu (hp _ hq).1 (hp _ hq).2)
  have N6 := Lib.hid (show ∀ w, DiceOk w D → Calls Try.prog 23 #[.pointer (some ⟨D, 0, none⟩), .int .i64 6] w (NextIs w D 6) from fun w h => dice_next D 6 w (by decide) (by decide) h)
  have N5 := Lib.hid (show ∀ w, DiceOk w D → Calls Try.prog 23 #[.pointer (some ⟨D, 0, none⟩), .int .i64 5] w (NextIs w D 5) from fun w h => dice_next D 5 w (by decide) (by decide) h)
  have N8 := Lib.hid (show ∀ w, DiceOk w D → Calls Try.prog 23 #[.pointer (some ⟨D, 0, none⟩), .int .i64 8] w (NextIs w D 8) from fun w h => dice_next D 8 w (by decide) (by decide) h)
  have N3 := Lib.hid (show ∀ w, DiceOk w D → Calls Try.prog 23 #[.pointer (some ⟨D, 0, none⟩), .int .i64 3] w (NextIs w D 3) from fun w h => dice_next D 3 w (by decide) (by decide) h)
  have N4 := Lib.hid (show ∀ w, DiceOk w D → Calls Try.prog 23 #[.pointer (some ⟨D, 0, none⟩), .int .i64 4] w (NextIs w D 4) from fun w h => dice_next D 4 w (by decide) (by decide) h)
  have H0 := Lib.hid h
  clear hx h0 hp hs h
  go_enter Try.func25, Try.ntmps25
  go_wp2_with (first
    | ((with_reducible refine at_box_ (d := 3) ?_); refine wpList_box_v (op := ⟨some 3, _, _, _, _, _⟩) rfl 27 _ rfl ((⟨xk, xp, xf, xt, xo, xq, xd⟩ : Tm).cs Ad cd) rfl ?_; intro g3 w1 hf hr; have H1 := Lib.hid (show w.grownBy w1 (some D) ∧ DiceOk w1 D ∧ RowV w1 g3 ((⟨xk, xp, xf, xt, xo, xq, xd⟩ : Tm).cs Ad cd) ∧ w.heap.size ≤ g3 from ⟨hf.grown _, H0.out.below hf.bw, hr, by rw [hf.1]; exact Nat.le_refl _⟩); clear hf hr)
    | ((with_reducible refine at_alloc_ (d := 4) ?_); refine wpList_alloc_v (op := ⟨some 4, _, _, _, _, _⟩) rfl 27 rfl zerT info_t ?_; intro g4 w2 hf hr; have H2 := Lib.hid (show w.grownBy w2 (some D) ∧ DiceOk w2 D ∧ RowV w2 g4 zerT ∧ RowV w2 g3 ((⟨xk, xp, xf, xt, xo, xq, xd⟩ : Tm).cs Ad cd) ∧ g3 < g4 from ⟨H1.out.1.on hf.bw, H1.out.2.1.below hf.bw, hr, H1.out.2.2.1.fresh hf, Nat.lt_of_lt_of_eq H1.out.2.2.1.lt hf.1.symm⟩); clear hf hr))
  have HG3 := Lib.hid H1.out.2.2.2
  have HG34l := Lib.hid H2.out.2.2.2.2
  have HG34 := Lib.hid (show g3 ≠ g4 from Nat.ne_of_lt H2.out.2.2.2.2)
  have HG4 := Lib.hid (show w.heap.size ≤ g4 from Nat.le_trans HG3.out (Nat.le_of_lt HG34l.out))
  have HD3 := Lib.hid (ne_dice HG3.out hDw)
  have HD4 := Lib.hid (ne_dice HG4.out hDw)
  have HDg3 := Lib.hid (show D < g3 from Nat.lt_of_lt_of_le hDw HG3.out)
  have HDg4 := Lib.hid (show D < g4 from Nat.lt_of_lt_of_le hDw HG4.out)
  refine (N6.out _ H2.out.2.1).mono ?_
  rintro e w3 ⟨q, hq, rfl, hg, hd⟩
  have H3 := Lib.hid (show w.grownBy w3 (some D) ∧ DiceOk w3 D ∧ RowV w3 g4 zerT ∧ RowV w3 g3 ((⟨xk, xp, xf, xt, xo, xq, xd⟩ : Tm).cs Ad cd) from ⟨grown_trans H2.out.1 hg, hd, H2.out.2.2.1.dice hg HD4.out, H2.out.2.2.2.1.dice hg HD3.out⟩)
  have HDw3 := Lib.hid (show D < w3.heap.size from hd.lt)
  clear hg hd H1 H2 N6
  have hqs : q = 0 ∨ q = 1 ∨ q = 2 ∨ q = 3 ∨ q = 4 ∨ q = 5 := by omega
  clear hq
  rcases hqs with rfl | rfl | rfl | rfl | rfl | rfl
  · go_wp2_with fail
    refine (N5.out _ H3.out.2.1).mono ?_
    rintro e w4 ⟨r, hr, rfl, hg4, hd4⟩
    have G4 := Lib.hid (show w.grownBy w4 (some D) ∧ DiceOk w4 D ∧ RowV w4 g4 zerT ∧ RowV w4 g3 ((⟨xk, xp, xf, xt, xo, xq, xd⟩ : Tm).cs Ad cd) from ⟨grown_trans H3.out.1 hg4, hd4, H3.out.2.2.1.dice hg4 HD4.out, H3.out.2.2.2.dice hg4 HD3.out⟩)
    clear hg4 hd4
    go_wp2_with (first
      | ((with_reducible refine at_store_ (i := 18) ?_); go_must (refine wpList_store_at rfl 3 (.tmp 18) (.tmp 17) rfl g3 0 ((⟨xk, xp, xf, xt, xo, xq, xd⟩ : Tm).cs Ad cd) (.int .i64 (r : Int)) rfl rfl G4.out.2.2.2 (by decide : 0 < 7) rfl rfl size_i ?_); intro w5 hw hr; have H5 := Lib.hid (show w.grownBy w5 (some D) ∧ DiceOk w5 D ∧ RowV w5 g4 zerT ∧ RowV w5 g3 ((⟨(r : Int), xp, xf, xt, xo, xq, xd⟩ : Tm).cs Ad cd) from ⟨G4.out.1.wrote hw HG3.out, G4.out.2.1.wrote hw HDg3.out, G4.out.2.2.1.wr hw HG34.out.symm, hr⟩); clear hw hr)
      | ((with_reducible refine at_load_ (d := 60) ?_); go_must (refine wpList_load_v rfl 27 (.tmp 3) rfl g3 rfl ((⟨(r : Int), xp, xf, xt, xo, xq, xd⟩ : Tm).cs Ad cd) _ H5.out.2.2.2 Try.underlying27 rfl size_t ?_))
      | ((with_reducible refine at_store_ (i := 4) ?_); go_must (refine wpList_store_v rfl 27 (.tmp 4) (.tmp 60) rfl g4 zerT ((⟨(r : Int), xp, xf, xt, xo, xq, xd⟩ : Tm).cs Ad cd) rfl rfl H5.out.2.2.1 rfl (cs_one _ _ _) size_t ?_); intro w14 hw hr; have H14 := Lib.hid (show w.grownBy w14 (some D) ∧ DiceOk w14 D ∧ RowV w14 g4 ((⟨(r : Int), xp, xf, xt, xo, xq, xd⟩ : Tm).cs Ad cd) from ⟨H5.out.1.wrote hw HG4.out, H5.out.2.1.wrote hw HDg4.out, hr⟩); have HW14 := Lib.hid hw; clear hw hr))
    exact bodyPost_ret (results_v rfl _ _ g4 ((⟨(r : Int), xp, xf, xt, xo, xq, xd⟩ : Tm).cs Ad cd) _ rfl H14.out.2.2 Try.underlying27 rfl size_t) rfl ⟨⟨(r : Int), xp, xf, xt, xo, xq, xd⟩, Ad, cd, rfl, Nat.le_trans HX.out (by decide), H00.out, (HSD.out _ H14.out.1).imp fun b hb => .inl hb, H14.out.1, H14.out.2.1⟩
  · go_wp2_with fail
    refine (N8.out _ (H3.out.2.1.below ((Below.refl _ _).alloc (Nat.le_refl _) _))).mono ?_
    rintro e w4 ⟨r, hr, rfl, hg4, hd4⟩
    obtain ⟨z, hz⟩ := ints_atA [-1, 0, 1, 2, 3, 10, 11, 256] hr
    have G4 := Lib.hid (show w.grownBy w4 (some D) ∧ DiceOk w4 D ∧ RowV w4 g4 zerT ∧ RowV w4 g3 ((⟨xk, xp, xf, xt, xo, xq, xd⟩ : Tm).cs Ad cd) from ⟨grown_trans (grown_trans H3.out.1 (grown_alloc _ _ _)) hg4, hd4, (H3.out.2.2.1.on ((Below.refl _ _).alloc (Nat.le_refl _) _)).dice hg4 HD4.out, (H3.out.2.2.2.on ((Below.refl _ _).alloc (Nat.le_refl _) _)).dice hg4 HD3.out⟩)
    have c4 : w4.cell? ⟨w3.heap.size, r, none⟩ = some (.int .i64 z) := (grown_cell hg4 (by simp) (by have := HDw3.out; simp; omega)).trans ((cell_of_row _ w3.heap.size r _ _ (0, 0) (heap_alloc_new w3 _)).trans hz)
    clear hg4 hd4 hz
    go_wp2_with (first
      | ((with_reducible refine at_store_ (i := 26) ?_); go_must (refine wpList_store_at rfl 3 (.tmp 26) (.tmp 25) rfl g3 1 ((⟨xk, xp, xf, xt, xo, xq, xd⟩ : Tm).cs Ad cd) (.int .i64 z) rfl rfl G4.out.2.2.2 (by decide : 1 < 7) rfl rfl size_i ?_); intro w5 hw hr; have H5 := Lib.hid (show w.grownBy w5 (some D) ∧ DiceOk w5 D ∧ RowV w5 g4 zerT ∧ RowV w5 g3 ((⟨xk, z, xf, xt, xo, xq, xd⟩ : Tm).cs Ad cd) from ⟨G4.out.1.wrote hw HG3.out, G4.out.2.1.wrote hw HDg3.out, G4.out.2.2.1.wr hw HG34.out.symm, hr⟩); clear hw hr)
      | ((with_reducible refine at_load_ (d := 60) ?_); go_must (refine wpList_load_v rfl 27 (.tmp 3) rfl g3 rfl ((⟨xk, z, xf, xt, xo, xq, xd⟩ : Tm).cs Ad cd) _ H5.out.2.2.2 Try.underlying27 rfl size_t ?_))
      | ((with_reducible refine at_store_ (i := 4) ?_); go_must (refine wpList_store_v rfl 27 (.tmp 4) (.tmp 60) rfl g4 zerT ((⟨xk, z, xf, xt, xo, xq, xd⟩ : Tm).cs Ad cd) rfl rfl H5.out.2.2.1 rfl (cs_one _ _ _) size_t ?_); intro w14 hw hr; have H14 := Lib.hid (show w.grownBy w14 (some D) ∧ DiceOk w14 D ∧ RowV w14 g4 ((⟨xk, z, xf, xt, xo, xq, xd⟩ : Tm).cs Ad cd) from ⟨H5.out.1.wrote hw HG4.out, H5.out.2.1.wrote hw HDg4.out, hr⟩); have HW14 := Lib.hid hw; clear hw hr))
    exact bodyPost_ret (results_v rfl _ _ g4 ((⟨xk, z, xf, xt, xo, xq, xd⟩ : Tm).cs Ad cd) _ rfl H14.out.2.2 Try.underlying27 rfl size_t) rfl ⟨⟨xk, z, xf, xt, xo, xq, xd⟩, Ad, cd, rfl, Nat.le_trans HX.out (by decide), H00.out, (HSD.out _ H14.out.1).imp fun b hb => .inl hb, H14.out.1, H14.out.2.1⟩
  · go_wp2_with fail
    refine region_turns (by kernel_rfl) _ (fun c => w.grownBy c (some D) ∧ DiceOk c D ∧ RowV c g4 zerT ∧ ∃ z : Int, RowV c g3 ((⟨xk, xp, z, xt, xo, xq, xd⟩ : Tm).cs Ad cd)) (factL [fun u _ => u = .pointer (some ⟨g3, 3, none⟩), fun u _ => ∃ z : Int, u = .int .i64 z, fun u _ => ∃ z : Int, u = .int .i64 z, fun u c => ∃ (g : Nat) (z : Int), u = .slice (some ⟨g, 0, none⟩) 5 5 ∧ g4 < g ∧ RowV c g (Is [-1, 0, 73048, 73049, z]), fun u _ => u = .pointer (some ⟨D, 0, none⟩), fun u _ => ∃ r : Nat, r < 5 ∧ u = .int .i64 (r : Int), fun u c => ∃ (g r : Nat) (z : Int), u = .pointer (some ⟨g, r, none⟩) ∧ r < 5 ∧ g4 < g ∧ RowV c g (Is [-1, 0, 73048, 73049, z]), fun u _ => ∃ z : Int, u = .int .i64 z, fun u _ => u = .pointer (some ⟨g3, 2, none⟩), fun _ _ => True]) (by kernel_rfl) (firm_list (by simp only [List.forall_mem_cons]; exact ⟨fun u c c' h _ => h, fun u c c' h _ => h, fun u c c' h _ => h, fun u c c' h hb => by obtain ⟨g, z, h1, h2, h3⟩ := h; exact ⟨g, z, h1, h2, h3.on hb⟩, fun u c c' h _ => h, fun u c c' h _ => h, fun u c c' h hb => by obtain ⟨g, r, z, h1, h2, h3, h4⟩ := h; exact ⟨g, r, z, h1, h2, h3, h4.on hb⟩, fun u c c' h _ => h, fun u c c' h _ => h, firm_true, fun X h => by cases h⟩)) (fun c c' h hb => ⟨h.1.on hb, h.2.1.below hb, h.2.2.1.on hb, by obtain ⟨z, hz⟩ := h.2.2.2; exact ⟨z, hz.on hb⟩⟩) ⟨H3.out.1, H3.out.2.1, H3.out.2.2.1, xf, H3.out.2.2.2⟩ ?_ ?_
    · refine ops_all (allI.cons ?_ (allI.cons ?_ (allI.cons ?_ (allI.cons ?_ (allI.cons ?_ (allI.cons ?_ (allI.cons ?_ (allI.cons ?_ (allI.cons ?_ (allI.cons ?_ allI.nil)))))))))) <;> intro v S c a hI hX hSi hdep hS hC
      · exact o_fa _ (.tmp 3) 3 rfl (hS.old 3 rfl) (fa_t3 g3 _) (StepT.still rfl)
      · obtain ⟨z, hz⟩ := hI.2.2.2
        exact o_ld _ (.tmp 29) rfl ((hS.get 0 (dep_at hdep 0 rfl) rfl rfl).trans (hX 0 (dep_at hdep 0 rfl))) ((hz.cell 3).trans rfl) ag_i (StepT.still ⟨xt, rfl⟩)
      · obtain ⟨z, e1⟩ := (hX 1 (dep_at hdep 1 rfl))
        exact o_bin .add _ _ (.tmp 30) (.const (.int .i64 1)) rfl ((hS.get 1 (dep_at hdep 1 rfl) rfl rfl).trans e1) rfl (add_any z 1 _ _ _) (StepT.still ⟨_, rfl⟩)
      · obtain ⟨z, e2⟩ := (hX 2 (dep_at hdep 2 rfl))
        refine o_bsl _ 3 5 _ rfl Try.underlying30 (pe5i rfl rfl rfl rfl ((hS.get 2 (dep_at hdep 2 rfl) rfl rfl).trans e2)) (bsl5 z) ?_
        intro g w9 hf hr
        exact StepT.new ⟨g, z, rfl, by rw [hf.1]; exact hI.2.2.1.lt, hr⟩ hf.bw
      · exact o_mv _ rfl (hS.old 0 rfl) (StepT.still rfl)
      · refine o_callV (.func 23) 23 #[.tmp 33, .const (.int .i64 5)] _ rfl rfl (ev2 ((hS.get 4 (dep_at hdep 4 rfl) rfl rfl).trans (hX 4 (dep_at hdep 4 rfl))) rfl) (by kernel_rfl) (N5.out c hI.2.1) (fun e w9 h => ?_)
        obtain ⟨r, hr, rfl, hg, hd⟩ := h
        refine ⟨_, rfl, StepT.turn ⟨r, hr, rfl⟩ ⟨grown_trans hI.1 hg, hd, hI.2.2.1.dice hg HD4.out, by obtain ⟨z, hz⟩ := hI.2.2.2; exact ⟨z, hz.dice hg HD3.out⟩⟩ fun j hj => ?_⟩
        match j, hj with
        | 0, hj => exact hX 0 hj
        | 1, hj => exact hX 1 hj
        | 2, hj => exact hX 2 hj
        | 3, hj =>
          obtain ⟨g, z, h1, h2, h3⟩ := hX 3 hj
          exact ⟨g, z, h1, h2, h3.dice hg (ne_gt (Nat.lt_trans HDg4.out h2))⟩
        | 4, hj => exact hX 4 hj
        | 5, hj => exact hX 5 hj
        | 6, hj =>
          obtain ⟨g, r, z, h1, h2, h3, h4⟩ := hX 6 hj
          exact ⟨g, r, z, h1, h2, h3, h4.dice hg (ne_gt (Nat.lt_trans HDg4.out h3))⟩
        | 7, hj => exact hX 7 hj
        | 8, hj => exact hX 8 hj
        | 9, hj => exact trivial
        | _ + 10, _ => trivial
      · obtain ⟨g, z, e3, hg4, hrow⟩ := (hX 3 (dep_at hdep 3 rfl))
        obtain ⟨r, hr5, e5⟩ := (hX 5 (dep_at hdep 5 rfl))
        exact o_ix _ (.tmp 32) (.tmp 34) rfl ((hS.get 3 (dep_at hdep 3 rfl) rfl rfl).trans e3) ((hS.get 5 (dep_at hdep 5 rfl) rfl rfl).trans e5) (ix_int g 5 5 r hr5 _) (StepT.still ⟨g, r, z, rfl, hr5, hg4, hrow⟩)
      · obtain ⟨g, r, z, e6, h5, _, hrow⟩ := (hX 6 (dep_at hdep 6 rfl))
        obtain ⟨y, hy⟩ := ints_at [-1, 0, 73048, 73049, z] h5
        exact o_ld _ (.tmp 35) rfl ((hS.get 6 (dep_at hdep 6 rfl) rfl rfl).trans e6) ((hrow.cell r).trans hy) ag_i (StepT.still ⟨y, rfl⟩)
      · exact o_fa _ (.tmp 3) 2 rfl (hS.old 3 rfl) (fa_t2 g3 _) (StepT.still rfl)
      · obtain ⟨z9, e9⟩ := (hX 7 (dep_at hdep 7 rfl))
        obtain ⟨z, hz⟩ := hI.2.2.2
        refine o_stA 3 (.tmp 37) (.tmp 36) rfl g3 2 ((⟨xk, xp, z, xt, xo, xq, xd⟩ : Tm).cs Ad cd) (.int .i64 z9) ((hS.get 8 (dep_at hdep 8 rfl) rfl rfl).trans (hX 8 (dep_at hdep 8 rfl))) ((hS.get 7 (dep_at hdep 7 rfl) rfl rfl).trans e9) hz (by decide : 2 < 7) rfl rfl size_i (fun w9 hw hr => ?_)
        refine StepT.turn trivial ⟨hI.1.wrote hw HG3.out, hI.2.1.wrote hw HDg3.out, hI.2.2.1.wr hw HG34.out.symm, ⟨z9, hr⟩⟩ fun j hj => ?_
        match j, hj with
        | 0, hj => exact hX 0 hj
        | 1, hj => exact hX 1 hj
        | 2, hj => exact hX 2 hj
        | 3, hj =>
          obtain ⟨g, z, h1, h2, h3⟩ := hX 3 hj
          exact ⟨g, z, h1, h2, h3.wr hw (ne_gt (Nat.lt_trans HG34l.out h2))⟩
        | 4, hj => exact hX 4 hj
        | 5, hj => exact hX 5 hj
        | 6, hj =>
          obtain ⟨g, r, z, h1, h2, h3, h4⟩ := hX 6 hj
          exact ⟨g, r, z, h1, h2, h3, h4.wr hw (ne_gt (Nat.lt_trans HG34l.out h3))⟩
        | 7, hj => exact hX 7 hj
        | 8, hj => exact hX 8 hj
        | 9, hj => exact trivial
        | _ + 10, _ => trivial
    · intro v w4 hI hX
      obtain ⟨z, hz⟩ := hI.2.2.2
      have H5 := Lib.hid (show _ ∧ _ ∧ _ ∧ _ from ⟨hI.1, hI.2.1, hI.2.2.1, hz⟩)
      clear hI hX hz
      simp only [putAll, Act.put]
      simp
      go_wp2_with (first
        | ((with_reducible refine at_load_ (d := 60) ?_); go_must (refine wpList_load_v rfl 27 (.tmp 3) rfl g3 rfl ((⟨xk, xp, z, xt, xo, xq, xd⟩ : Tm).cs Ad cd) _ H5.out.2.2.2 Try.underlying27 rfl size_t ?_))
        | ((with_reducible refine at_store_ (i := 4) ?_); go_must (refine wpList_store_v rfl 27 (.tmp 4) (.tmp 60) rfl g4 zerT ((⟨xk, xp, z, xt, xo, xq, xd⟩ : Tm).cs Ad cd) rfl rfl H5.out.2.2.1 rfl (cs_one _ _ _) size_t ?_); intro w14 hw hr; have H14 := Lib.hid (show w.grownBy w14 (some D) ∧ DiceOk w14 D ∧ RowV w14 g4 ((⟨xk, xp, z, xt, xo, xq, xd⟩ : Tm).cs Ad cd) from ⟨H5.out.1.wrote hw HG4.out, H5.out.2.1.wrote hw HDg4.out, hr⟩); have HW14 := Lib.hid hw; clear hw hr))
      exact bodyPost_ret (results_v rfl _ _ g4 ((⟨xk, xp, z, xt, xo, xq, xd⟩ : Tm).cs Ad cd) _ rfl H14.out.2.2 Try.underlying27 rfl size_t) rfl ⟨⟨xk, xp, z, xt, xo, xq, xd⟩, Ad, cd, rfl, Nat.le_trans HX.out (by decide), H00.out, (HSD.out _ H14.out.1).imp fun b hb => .inl hb, H14.out.1, H14.out.2.1⟩
  · go_wp2_with fail
    refine (N3.out _ (H3.out.2.1.below ((Below.refl _ _).alloc (Nat.le_refl _) _))).mono ?_
    rintro e w4 ⟨r, hr, rfl, hg4, hd4⟩
    obtain ⟨z, hz⟩ := ints_atA [-1, 73048, 73049] hr
    have G4 := Lib.hid (show w.grownBy w4 (some D) ∧ DiceOk w4 D ∧ RowV w4 g4 zerT ∧ RowV w4 g3 ((⟨xk, xp, xf, xt, xo, xq, xd⟩ : Tm).cs Ad cd) from ⟨grown_trans (grown_trans H3.out.1 (grown_alloc _ _ _)) hg4, hd4, (H3.out.2.2.1.on ((Below.refl _ _).alloc (Nat.le_refl _) _)).dice hg4 HD4.out, (H3.out.2.2.2.on ((Below.refl _ _).alloc (Nat.le_refl _) _)).dice hg4 HD3.out⟩)
    have c4 : w4.cell? ⟨w3.heap.size, r, none⟩ = some (.int .i64 z) := (grown_cell hg4 (by simp) (by have := HDw3.out; simp; omega)).trans ((cell_of_row _ w3.heap.size r _ _ (0, 0) (heap_alloc_new w3 _)).trans hz)
    clear hg4 hd4 hz
    go_wp2_with (first
      | ((with_reducible refine at_store_ (i := 45) ?_); go_must (refine wpList_store_at rfl 3 (.tmp 45) (.tmp 44) rfl g3 3 ((⟨xk, xp, xf, xt, xo, xq, xd⟩ : Tm).cs Ad cd) (.int .i64 z) rfl rfl G4.out.2.2.2 (by decide : 3 < 7) rfl rfl size_i ?_); intro w5 hw hr; have H5 := Lib.hid (show w.grownBy w5 (some D) ∧ DiceOk w5 D ∧ RowV w5 g4 zerT ∧ RowV w5 g3 ((⟨xk, xp, xf, z, xo, xq, xd⟩ : Tm).cs Ad cd) from ⟨G4.out.1.wrote hw HG3.out, G4.out.2.1.wrote hw HDg3.out, G4.out.2.2.1.wr hw HG34.out.symm, hr⟩); clear hw hr)
      | ((with_reducible refine at_load_ (d := 60) ?_); go_must (refine wpList_load_v rfl 27 (.tmp 3) rfl g3 rfl ((⟨xk, xp, xf, z, xo, xq, xd⟩ : Tm).cs Ad cd) _ H5.out.2.2.2 Try.underlying27 rfl size_t ?_))
      | ((with_reducible refine at_store_ (i := 4) ?_); go_must (refine wpList_store_v rfl 27 (.tmp 4) (.tmp 60) rfl g4 zerT ((⟨xk, xp, xf, z, xo, xq, xd⟩ : Tm).cs Ad cd) rfl rfl H5.out.2.2.1 rfl (cs_one _ _ _) size_t ?_); intro w14 hw hr; have H14 := Lib.hid (show w.grownBy w14 (some D) ∧ DiceOk w14 D ∧ RowV w14 g4 ((⟨xk, xp, xf, z, xo, xq, xd⟩ : Tm).cs Ad cd) from ⟨H5.out.1.wrote hw HG4.out, H5.out.2.1.wrote hw HDg4.out, hr⟩); have HW14 := Lib.hid hw; clear hw hr))
    exact bodyPost_ret (results_v rfl _ _ g4 ((⟨xk, xp, xf, z, xo, xq, xd⟩ : Tm).cs Ad cd) _ rfl H14.out.2.2 Try.underlying27 rfl size_t) rfl ⟨⟨xk, xp, xf, z, xo, xq, xd⟩, Ad, cd, rfl, Nat.le_trans HX.out (by decide), H00.out, (HSD.out _ H14.out.1).imp fun b hb => .inl hb, H14.out.1, H14.out.2.1⟩
  · go_wp2_with fail
    refine region_turns (by kernel_rfl) _ (fun c => w.grownBy c (some D) ∧ DiceOk c D ∧ RowV c g4 zerT ∧ ∃ z z2 : Int, RowV c g3 ((⟨xk, xp, xf, xt, z, z2, xd⟩ : Tm).cs Ad cd)) (factL [fun u c => ∃ (g : Nat), u = .slice (some ⟨g, 0, none⟩) 3 3 ∧ g4 < g ∧ RowV c g (Is [-1, 65535, 65536]), fun u _ => u = .pointer (some ⟨D, 0, none⟩), fun u _ => ∃ r : Nat, r < 3 ∧ u = .int .i64 (r : Int), fun u c => ∃ (g r : Nat), u = .pointer (some ⟨g, r, none⟩) ∧ r < 3 ∧ g4 < g ∧ RowV c g (Is [-1, 65535, 65536]), fun u _ => ∃ z : Int, u = .int .i64 z, fun u c => ∃ (g : Nat), u = .slice (some ⟨g, 0, none⟩) 4 4 ∧ g4 < g ∧ RowV c g (Is [0, 100, 101, -1]), fun u _ => u = .pointer (some ⟨D, 0, none⟩), fun u _ => ∃ r : Nat, r < 4 ∧ u = .int .i64 (r : Int), fun u c => ∃ (g r : Nat), u = .pointer (some ⟨g, r, none⟩) ∧ r < 4 ∧ g4 < g ∧ RowV c g (Is [0, 100, 101, -1]), fun u _ => ∃ z : Int, u = .int .i64 z, fun u _ => u = .pointer (some ⟨g3, 4, none⟩), fun _ _ => True, fun u _ => u = .pointer (some ⟨g3, 5, none⟩), fun _ _ => True]) (by kernel_rfl) (firm_list (by simp only [List.forall_mem_cons]; exact ⟨fun u c c' h hb => by obtain ⟨g, h1, h2, h3⟩ := h; exact ⟨g, h1, h2, h3.on hb⟩, fun u c c' h _ => h, fun u c c' h _ => h, fun u c c' h hb => by obtain ⟨g, r, h1, h2, h3, h4⟩ := h; exact ⟨g, r, h1, h2, h3, h4.on hb⟩, fun u c c' h _ => h, fun u c c' h hb => by obtain ⟨g, h1, h2, h3⟩ := h; exact ⟨g, h1, h2, h3.on hb⟩, fun u c c' h _ => h, fun u c c' h _ => h, fun u c c' h hb => by obtain ⟨g, r, h1, h2, h3, h4⟩ := h; exact ⟨g, r, h1, h2, h3, h4.on hb⟩, fun u c c' h _ => h, fun u c c' h _ => h, firm_true, fun u c c' h _ => h, firm_true, fun X h => by cases h⟩)) (fun c c' h hb => ⟨h.1.on hb, h.2.1.below hb, h.2.2.1.on hb, by obtain ⟨z, z2, hz⟩ := h.2.2.2; exact ⟨z, z2, hz.on hb⟩⟩) ⟨H3.out.1, H3.out.2.1, H3.out.2.2.1, xo, xq, H3.out.2.2.2⟩ ?_ ?_
    · refine ops_all (allI.cons ?_ (allI.cons ?_ (allI.cons ?_ (allI.cons ?_ (allI.cons ?_ (allI.cons ?_ (allI.cons ?_ (allI.cons ?_ (allI.cons ?_ (allI.cons ?_ (allI.cons ?_ (allI.cons ?_ (allI.cons ?_ (allI.cons ?_ allI.nil)))))))))))))) <;> intro v S c a hI hX hSi hdep hS hC
      · refine o_bsl _ 3 3 _ rfl Try.underlying30 (pe3i rfl rfl rfl) bsl3 ?_
        intro g w9 hf hr
        exact StepT.new ⟨g, rfl, by rw [hf.1]; exact hI.2.2.1.lt, hr⟩ hf.bw
      · exact o_mv _ rfl (hS.old 0 rfl) (StepT.still rfl)
      · refine o_callV (.func 23) 23 #[.tmp 49, .const (.int .i64 3)] _ rfl rfl (ev2 ((hS.get 1 (dep_at hdep 1 rfl) rfl rfl).trans (hX 1 (dep_at hdep 1 rfl))) rfl) (by kernel_rfl) (N3.out c hI.2.1) (fun e w9 h => ?_)
        obtain ⟨r, hr, rfl, hg, hd⟩ := h
        refine ⟨_, rfl, StepT.turn ⟨r, hr, rfl⟩ ⟨grown_trans hI.1 hg, hd, hI.2.2.1.dice hg HD4.out, by obtain ⟨z, z2, hz⟩ := hI.2.2.2; exact ⟨z, z2, hz.dice hg HD3.out⟩⟩ fun j hj => ?_⟩
        match j, hj with
        | 0, hj =>
          obtain ⟨g, h1, h2, h3⟩ := hX 0 hj
          exact ⟨g, h1, h2, h3.dice hg (ne_gt (Nat.lt_trans HDg4.out h2))⟩
        | 1, hj => exact hX 1 hj
        | 2, hj => exact hX 2 hj
        | 3, hj =>
          obtain ⟨g, r, h1, h2, h3, h4⟩ := hX 3 hj
          exact ⟨g, r, h1, h2, h3, h4.dice hg (ne_gt (Nat.lt_trans HDg4.out h3))⟩
        | 4, hj => exact hX 4 hj
        | 5, hj =>
          obtain ⟨g, h1, h2, h3⟩ := hX 5 hj
          exact ⟨g, h1, h2, h3.dice hg (ne_gt (Nat.lt_trans HDg4.out h2))⟩
        | 6, hj => exact hX 6 hj
        | 7, hj => exact hX 7 hj
        | 8, hj =>
          obtain ⟨g, r, h1, h2, h3, h4⟩ := hX 8 hj
          exact ⟨g, r, h1, h2, h3, h4.dice hg (ne_gt (Nat.lt_trans HDg4.out h3))⟩
        | 9, hj => exact hX 9 hj
        | 10, hj => exact hX 10 hj
        | 11, hj => exact trivial
        | 12, hj => exact hX 12 hj
        | 13, hj => exact trivial
        | _ + 14, _ => trivial
      · obtain ⟨g, e3, hg4, hrow⟩ := (hX 0 (dep_at hdep 0 rfl))
        obtain ⟨r, hr5, e5⟩ := (hX 2 (dep_at hdep 2 rfl))
        exact o_ix _ (.tmp 48) (.tmp 50) rfl ((hS.get 0 (dep_at hdep 0 rfl) rfl rfl).trans e3) ((hS.get 2 (dep_at hdep 2 rfl) rfl rfl).trans e5) (ix_int g 3 3 r hr5 _) (StepT.still ⟨g, r, rfl, hr5, hg4, hrow⟩)
      · obtain ⟨g, r, e6, h5, _, hrow⟩ := (hX 3 (dep_at hdep 3 rfl))
        obtain ⟨y, hy⟩ := ints_at [-1, 65535, 65536] h5
        exact o_ld _ (.tmp 51) rfl ((hS.get 3 (dep_at hdep 3 rfl) rfl rfl).trans e6) ((hrow.cell r).trans hy) ag_i (StepT.still ⟨y, rfl⟩)
      · refine o_bsl _ 3 4 _ rfl Try.underlying30 (pe4i rfl rfl rfl rfl) bsl4 ?_
        intro g w9 hf hr
        exact StepT.new ⟨g, rfl, by rw [hf.1]; exact hI.2.2.1.lt, hr⟩ hf.bw
      · exact o_mv _ rfl (hS.old 0 rfl) (StepT.still rfl)
      · refine o_callV (.func 23) 23 #[.tmp 54, .const (.int .i64 4)] _ rfl rfl (ev2 ((hS.get 6 (dep_at hdep 6 rfl) rfl rfl).trans (hX 6 (dep_at hdep 6 rfl))) rfl) (by kernel_rfl) (N4.out c hI.2.1) (fun e w9 h => ?_)
        obtain ⟨r, hr, rfl, hg, hd⟩ := h
        refine ⟨_, rfl, StepT.turn ⟨r, hr, rfl⟩ ⟨grown_trans hI.1 hg, hd, hI.2.2.1.dice hg HD4.out, by obtain ⟨z, z2, hz⟩ := hI.2.2.2; exact ⟨z, z2, hz.dice hg HD3.out⟩⟩ fun j hj => ?_⟩
        match j, hj with
        | 0, hj =>
          obtain ⟨g, h1, h2, h3⟩ := hX 0 hj
          exact ⟨g, h1, h2, h3.dice hg (ne_gt (Nat.lt_trans HDg4.out h2))⟩
        | 1, hj => exact hX 1 hj
        | 2, hj => exact hX 2 hj
        | 3, hj =>
          obtain ⟨g, r, h1, h2, h3, h4⟩ := hX 3 hj
          exact ⟨g, r, h1, h2, h3, h4.dice hg (ne_gt (Nat.lt_trans HDg4.out h3))⟩
        | 4, hj => exact hX 4 hj
        | 5, hj =>
          obtain ⟨g, h1, h2, h3⟩ := hX 5 hj
          exact ⟨g, h1, h2, h3.dice hg (ne_gt (Nat.lt_trans HDg4.out h2))⟩
        | 6, hj => exact hX 6 hj
        | 7, hj => exact hX 7 hj
        | 8, hj =>
          obtain ⟨g, r, h1, h2, h3, h4⟩ := hX 8 hj
          exact ⟨g, r, h1, h2, h3, h4.dice hg (ne_gt (Nat.lt_trans HDg4.out h3))⟩
        | 9, hj => exact hX 9 hj
        | 10, hj => exact hX 10 hj
        | 11, hj => exact trivial
        | 12, hj => exact hX 12 hj
        | 13, hj => exact trivial
        | _ + 14, _ => trivial
      · obtain ⟨g, e3, hg4, hrow⟩ := (hX 5 (dep_at hdep 5 rfl))
        obtain ⟨r, hr5, e5⟩ := (hX 7 (dep_at hdep 7 rfl))
        exact o_ix _ (.tmp 53) (.tmp 55) rfl ((hS.get 5 (dep_at hdep 5 rfl) rfl rfl).trans e3) ((hS.get 7 (dep_at hdep 7 rfl) rfl rfl).trans e5) (ix_int g 4 4 r hr5 _) (StepT.still ⟨g, r, rfl, hr5, hg4, hrow⟩)
      · obtain ⟨g, r, e6, h5, _, hrow⟩ := (hX 8 (dep_at hdep 8 rfl))
        obtain ⟨y, hy⟩ := ints_at [0, 100, 101, -1] h5
        exact o_ld _ (.tmp 56) rfl ((hS.get 8 (dep_at hdep 8 rfl) rfl rfl).trans e6) ((hrow.cell r).trans hy) ag_i (StepT.still ⟨y, rfl⟩)
      · exact o_fa _ (.tmp 3) 4 rfl (hS.old 3 rfl) (fa_t4 g3 _) (StepT.still rfl)
      · obtain ⟨z9, e9⟩ := (hX 4 (dep_at hdep 4 rfl))
        obtain ⟨z, z2, hz⟩ := hI.2.2.2
        refine o_stA 3 (.tmp 58) (.tmp 52) rfl g3 4 ((⟨xk, xp, xf, xt, z, z2, xd⟩ : Tm).cs Ad cd) (.int .i64 z9) ((hS.get 10 (dep_at hdep 10 rfl) rfl rfl).trans (hX 10 (dep_at hdep 10 rfl))) ((hS.get 4 (dep_at hdep 4 rfl) rfl rfl).trans e9) hz (by decide : 4 < 7) rfl rfl size_i (fun w9 hw hr => ?_)
        refine StepT.turn trivial ⟨hI.1.wrote hw HG3.out, hI.2.1.wrote hw HDg3.out, hI.2.2.1.wr hw HG34.out.symm, ⟨z9, z2, hr⟩⟩ fun j hj => ?_
        match j, hj with
        | 0, hj =>
          obtain ⟨g, h1, h2, h3⟩ := hX 0 hj
          exact ⟨g, h1, h2, h3.wr hw (ne_gt (Nat.lt_trans HG34l.out h2))⟩
        | 1, hj => exact hX 1 hj
        | 2, hj => exact hX 2 hj
        | 3, hj =>
          obtain ⟨g, r, h1, h2, h3, h4⟩ := hX 3 hj
          exact ⟨g, r, h1, h2, h3, h4.wr hw (ne_gt (Nat.lt_trans HG34l.out h3))⟩
        | 4, hj => exact hX 4 hj
        | 5, hj =>
          obtain ⟨g, h1, h2, h3⟩ := hX 5 hj
          exact ⟨g, h1, h2, h3.wr hw (ne_gt (Nat.lt_trans HG34l.out h2))⟩
        | 6, hj => exact hX 6 hj
        | 7, hj => exact hX 7 hj
        | 8, hj =>
          obtain ⟨g, r, h1, h2, h3, h4⟩ := hX 8 hj
          exact ⟨g, r, h1, h2, h3, h4.wr hw (ne_gt (Nat.lt_trans HG34l.out h3))⟩
        | 9, hj => exact hX 9 hj
        | 10, hj => exact hX 10 hj
        | 11, hj => exact trivial
        | 12, hj => exact hX 12 hj
        | 13, hj => exact trivial
        | _ + 14, _ => trivial
      · exact o_fa _ (.tmp 3) 5 rfl (hS.old 3 rfl) (fa_t5 g3 _) (StepT.still rfl)
      · obtain ⟨z9, e9⟩ := (hX 9 (dep_at hdep 9 rfl))
        obtain ⟨z, z2, hz⟩ := hI.2.2.2
        refine o_stA 3 (.tmp 59) (.tmp 57) rfl g3 5 ((⟨xk, xp, xf, xt, z, z2, xd⟩ : Tm).cs Ad cd) (.int .i64 z9) ((hS.get 12 (dep_at hdep 12 rfl) rfl rfl).trans (hX 12 (dep_at hdep 12 rfl))) ((hS.get 9 (dep_at hdep 9 rfl) rfl rfl).trans e9) hz (by decide : 5 < 7) rfl rfl size_i (fun w9 hw hr => ?_)
        refine StepT.turn trivial ⟨hI.1.wrote hw HG3.out, hI.2.1.wrote hw HDg3.out, hI.2.2.1.wr hw HG34.out.symm, ⟨z, z9, hr⟩⟩ fun j hj => ?_
        match j, hj with
        | 0, hj =>
          obtain ⟨g, h1, h2, h3⟩ := hX 0 hj
          exact ⟨g, h1, h2, h3.wr hw (ne_gt (Nat.lt_trans HG34l.out h2))⟩
        | 1, hj => exact hX 1 hj
        | 2, hj => exact hX 2 hj
        | 3, hj =>
          obtain ⟨g, r, h1, h2, h3, h4⟩ := hX 3 hj
          exact ⟨g, r, h1, h2, h3, h4.wr hw (ne_gt (Nat.lt_trans HG34l.out h3))⟩
        | 4, hj => exact hX 4 hj
        | 5, hj =>
          obtain ⟨g, h1, h2, h3⟩ := hX 5 hj
          exact ⟨g, h1, h2, h3.wr hw (ne_gt (Nat.lt_trans HG34l.out h2))⟩
        | 6, hj => exact hX 6 hj
        | 7, hj => exact hX 7 hj
        | 8, hj =>
          obtain ⟨g, r, h1, h2, h3, h4⟩ := hX 8 hj
          exact ⟨g, r, h1, h2, h3, h4.wr hw (ne_gt (Nat.lt_trans HG34l.out h3))⟩
        | 9, hj => exact hX 9 hj
        | 10, hj => exact hX 10 hj
        | 11, hj => exact trivial
        | 12, hj => exact hX 12 hj
        | 13, hj => exact trivial
        | _ + 14, _ => trivial
    · intro v w4 hI hX
      obtain ⟨z, z2, hz⟩ := hI.2.2.2
      have H5 := Lib.hid (show _ ∧ _ ∧ _ ∧ _ from ⟨hI.1, hI.2.1, hI.2.2.1, hz⟩)
      clear hI hX hz
      simp only [putAll, Act.put]
      simp
      go_wp2_with (first
        | ((with_reducible refine at_load_ (d := 60) ?_); go_must (refine wpList_load_v rfl 27 (.tmp 3) rfl g3 rfl ((⟨xk, xp, xf, xt, z, z2, xd⟩ : Tm).cs Ad cd) _ H5.out.2.2.2 Try.underlying27 rfl size_t ?_))
        | ((with_reducible refine at_store_ (i := 4) ?_); go_must (refine wpList_store_v rfl 27 (.tmp 4) (.tmp 60) rfl g4 zerT ((⟨xk, xp, xf, xt, z, z2, xd⟩ : Tm).cs Ad cd) rfl rfl H5.out.2.2.1 rfl (cs_one _ _ _) size_t ?_); intro w14 hw hr; have H14 := Lib.hid (show w.grownBy w14 (some D) ∧ DiceOk w14 D ∧ RowV w14 g4 ((⟨xk, xp, xf, xt, z, z2, xd⟩ : Tm).cs Ad cd) from ⟨H5.out.1.wrote hw HG4.out, H5.out.2.1.wrote hw HDg4.out, hr⟩); have HW14 := Lib.hid hw; clear hw hr))
      exact bodyPost_ret (results_v rfl _ _ g4 ((⟨xk, xp, xf, xt, z, z2, xd⟩ : Tm).cs Ad cd) _ rfl H14.out.2.2 Try.underlying27 rfl size_t) rfl ⟨⟨xk, xp, xf, xt, z, z2, xd⟩, Ad, cd, rfl, Nat.le_trans HX.out (by decide), H00.out, (HSD.out _ H14.out.1).imp fun b hb => .inl hb, H14.out.1, H14.out.2.1⟩
  · go_wp2_with fail
    refine (N4.out _ (H3.out.2.1.below ((Below.refl _ _).alloc (Nat.le_refl _) _))).mono ?_
    rintro e w4 ⟨r, hr, rfl, hg4, hd4⟩
    obtain ⟨zn, hzn, hz⟩ := size_at hr
    have G4 := Lib.hid (show w.grownBy w4 (some D) ∧ DiceOk w4 D ∧ RowV w4 g4 zerT ∧ RowV w4 g3 ((⟨xk, xp, xf, xt, xo, xq, xd⟩ : Tm).cs Ad cd) from ⟨grown_trans (grown_trans H3.out.1 (grown_alloc _ _ _)) hg4, hd4, (H3.out.2.2.1.on ((Below.refl _ _).alloc (Nat.le_refl _) _)).dice hg4 HD4.out, (H3.out.2.2.2.on ((Below.refl _ _).alloc (Nat.le_refl _) _)).dice hg4 HD3.out⟩)
    have c4 : w4.cell? ⟨w3.heap.size, r, none⟩ = some (.int .i64 (zn : Int)) := (grown_cell hg4 (by simp) (by have := HDw3.out; simp; omega)).trans ((cell_of_row _ w3.heap.size r _ _ (0, 0) (heap_alloc_new w3 _)).trans hz)
    clear hg4 hd4 hz
    go_wp2_with (first
      | (at_make; refine wpList_make_full _ rfl _ _ 25 rfl w4.heap.size 5 i0 (.int .u8 0) 1 Try.underlying25 hi hz0 hz1 _ _ _ _ zn rfl rfl (by simp) (by simp) (by rw [hz2]; omega) (by unfold maxLen; omega) (Nat.le_refl _) ?_; intro w6 hown hgrow; have HOWN := Lib.hid hown; have H6 := Lib.hid (show w.grownBy w6 (some D) ∧ DiceOk w6 D ∧ RowV w6 g4 zerT ∧ RowV w6 g3 ((⟨xk, xp, xf, xt, xo, xq, xd⟩ : Tm).cs Ad cd) from ⟨G4.out.1.on (grown_new hgrow), G4.out.2.1.below (grown_new hgrow), G4.out.2.2.1.on (grown_new hgrow), G4.out.2.2.2.on (grown_new hgrow)⟩); clear hown hgrow)
      | ((with_reducible refine at_store_ (i := 13) ?_); go_must (refine wpList_store_at rfl 25 (.tmp 13) (.tmp 12) rfl g3 6 ((⟨xk, xp, xf, xt, xo, xq, xd⟩ : Tm).cs Ad cd) (.slice (some ⟨w4.heap.size, 0, none⟩) zn zn) rfl rfl H6.out.2.2.2 (by decide : 6 < 7) rfl rfl size_sl ?_); intro w7 hw hr; have H7 := Lib.hid (show w.grownBy w7 (some D) ∧ DiceOk w7 D ∧ RowV w7 g4 zerT ∧ RowV w7 g3 ((⟨xk, xp, xf, xt, xo, xq, List.replicate zn 0⟩ : Tm).cs (some ⟨w4.heap.size, 0, none⟩) zn) from ⟨H6.out.1.wrote hw HG3.out, H6.out.2.1.wrote hw HDg3.out, H6.out.2.2.1.wr hw HG34.out.symm, zer_cs zn _ ▸ hr⟩); have HW7 := Lib.hid hw; clear hw hr)
      | ((with_reducible refine at_load_ (d := 60) ?_); go_must (refine wpList_load_v rfl 27 (.tmp 3) rfl g3 rfl ((⟨xk, xp, xf, xt, xo, xq, List.replicate zn 0⟩ : Tm).cs (some ⟨w4.heap.size, 0, none⟩) zn) _ H7.out.2.2.2 Try.underlying27 rfl size_t ?_))
      | ((with_reducible refine at_store_ (i := 4) ?_); go_must (refine wpList_store_v rfl 27 (.tmp 4) (.tmp 60) rfl g4 zerT ((⟨xk, xp, xf, xt, xo, xq, List.replicate zn 0⟩ : Tm).cs (some ⟨w4.heap.size, 0, none⟩) zn) rfl rfl H7.out.2.2.1 rfl (cs_one _ _ _) size_t ?_); intro w14 hw hr; have H14 := Lib.hid (show w.grownBy w14 (some D) ∧ DiceOk w14 D ∧ RowV w14 g4 ((⟨xk, xp, xf, xt, xo, xq, List.replicate zn 0⟩ : Tm).cs (some ⟨w4.heap.size, 0, none⟩) zn) from ⟨H7.out.1.wrote hw HG4.out, H7.out.2.1.wrote hw HDg4.out, hr⟩); have HW14 := Lib.hid hw; clear hw hr))
    have hs6 : SeesP w6 (newB w4 w6) (some ⟨w4.heap.size, 0, none⟩) (Us (List.replicate zn 0)) := by
      have ho : w6.ownsRow w4.heap.size 5 1 (.slice (some ⟨w4.heap.size, 0, none⟩) zn zn) zn (Us (List.replicate zn 0)) := by
        rw [Us_zeros]
        simpa [Value.cells, toList_madeCells_one] using HOWN.out
      obtain ⟨A, c, e1, _, e3⟩ := own_newB (w := w4) ho
      injection e1 with e1 _ _
      rw [e1]
      exact e3
    have h34 := G4.out.2.2.2.lt
    have h44 := G4.out.2.2.1.lt
    have hs14 := (hs6.wrote HW7.out h34).wrote HW14.out h44
    exact bodyPost_ret (results_v rfl _ _ g4 ((⟨xk, xp, xf, xt, xo, xq, List.replicate zn 0⟩ : Tm).cs (some ⟨w4.heap.size, 0, none⟩) zn) _ rfl H14.out.2.2 Try.underlying27 rfl size_t) rfl ⟨⟨xk, xp, xf, xt, xo, xq, List.replicate zn 0⟩, some ⟨w4.heap.size, 0, none⟩, zn, rfl, by rw [List.length_replicate]; exact hzn, ⟨fun h => (by cases h), by rw [List.length_replicate]; exact Nat.le_refl _⟩, hs14.imp fun b hb => .inr (newB_imp hb G4.out.1.size (Nat.le_refl _)), H14.out.1, H14.out.2.1⟩
end Go.Proofs.Ytobbnedojmcgoaa
