/-
  What is proved here: what the program's Encrypt, Decrypt and Substitute answer.
-/
import Derived.Test.YtipkaeeimohmpaaP8
import Derived.Laws.Cover3
namespace Go.Proofs.Ytipkaeeimohmpaa
open Go.RowKit
set_option linter.unusedVariables false

theorem range_below {w w' : World} {g o : Nat} {cs : List Value} (h : w.rangeAt g o cs) (hlt : g < w.heap.size) (hb : Below w.heap.size w w') : w'.rangeAt g o cs := fun j v hv => (hb.cell (p := ⟨g, o + j, none⟩) hlt).trans (h j v hv)
theorem wp_alloc_b {P : Program} {op : Oper} {a : Act} {w : World} {K : Act → World → Prop} {Q : Exit → Act → World → Prop} (ty : TypeId) (ho : op.op = .alloc ty) (n : Nat)
    (hz : (P.info? ty).map (fun i => (i.zero, i.size)) = some (some (.agg (Us (List.replicate n 0)).toArray), n))
    (hK : ∀ g w', Fresh w w' g → RowB w' g (List.replicate n 0) → K (a.put op.dst (.pointer (some ⟨g, 0, none⟩))) w') : op.wp P a w K Q := by
  have hz2 : ∀ w, (zeroValue ty).run P w = .ok (.agg (Us (List.replicate n 0)).toArray) w := by
    intro w
    cases hq : P.info? ty with
    | none => simp [hq] at hz
    | some i =>
      simp [hq] at hz
      simp [zeroValue, typeInfo, hq, hz.1]
  have hr : (Instr.alloc ty true (.tuple #[])).run P w = .ok (.pointer (some ⟨w.heap.size, 0, none⟩)) (w.alloc (.cells (Us (List.replicate n 0)).toArray ty)) := by
    simp [Instr.alloc, Sem.run_bind, hz2, newVar, newRow, newObj, Value.cells]
    rfl
  unfold Oper.wp execOp
  simp only [ho, Sem.run_bind, hr, Result.andThen_ok]
  exact hK _ _ ⟨rfl, _, rfl⟩ (RowB.new (by simp))
theorem encL_len0 (k b : List UInt8) : (encL k b).length = (List.replicate 16 (0 : UInt8)).length := by
  rw [encL_length]
  exact (List.length_replicate ..).symm
theorem decL_len0 (k b : List UInt8) : (decL k b).length = (List.replicate 16 (0 : UInt8)).length := by
  rw [decL_length]
  exact (List.length_replicate ..).symm
theorem slice_all (g o : Nat) (w : World) : (Instr.sliceAt 65 (.pointer (some ⟨g, o, none⟩)) none none none).run Try.prog w = .ok (.slice (some ⟨g, o, none⟩) 16 16) w := by
  have h := run_sliceAt_array_all (P := Try.prog) w 65 ⟨g, o, none⟩ Try.underlying65
  rw [h]
  have e1 : Try.prog.arrayLen 65 = 16 := by kernel_rfl
  have e2 : (sizeOf (Try.prog.elem 65)).run Try.prog w = .ok 1 w := by kernel_rfl
  rw [e2, e1]
  simp only [Result.andThen, slicedAt]
  rfl
theorem arr_at (A : Option Addr) (c : Nat) (w : World) : (Instr.arrayAt 65 (.slice A 16 c)).run Try.prog w = .ok (.pointer A) w := run_arrayAt w 65 _ 16 A 16 c Try.underlying65 (by decide)
theorem sees_range {w : World} {B : Nat} {A : Option Addr} {l : List UInt8} (h : Sees w B A (Us l)) (hl : l.length = 16) : ∃ b o, A = some ⟨b, o, none⟩ ∧ b < B ∧ w.rangeAt b o (Us l) := by
  obtain ⟨b, o, e, hb, hc⟩ := h.at_ (k := 0) (by rw [Us_length]; omega)
  exact ⟨b, o, e, hb, fun j v hv => (hc j (List.getElem?_eq_some_iff.1 hv).1).trans hv⟩
/-- a call that hands back 16 bytes in a block of its own, and no error -/
def Row16 (w : World) (l : List UInt8) (e : Ending) (w' : World) : Prop := ∃ g, e = .returned (.tuple #[.slice (some ⟨g, 0, none⟩) 16 16, .int .i64 0]) ∧ w.heap.size ≤ g ∧ RowB w' g l ∧ Below w.heap.size w w'
theorem gives_b {w w' : World} {l : List UInt8} {g : Nat} (hl : l.length = 16) (hr : RowB w' g l) (hb : Below w.heap.size w w') : Gives w l 0 (.returned (.tuple #[.slice (some ⟨g, 0, none⟩) 16 16, .int .i64 0])) w' :=
  ⟨some ⟨g, 0, none⟩, 16, by rw [hl], SeesP.iff_sees.1 (hr.sees (· < w'.heap.size) hr.lt), hb⟩

set_option maxRecDepth 40000 in
set_option maxHeartbeats 400000 in
theorem aes_enc_row (k b : List UInt8) (A1 A2 : Option Addr) (c1 c2 : Nat) (w : World) (hk : k.length = 16) (hb : b.length = 16) (h1 : Sees w w.heap.size A1 (Us k)) (h2 : Sees w w.heap.size A2 (Us b)) :
    Calls Try.prog 45 #[.slice A1 16 c1, .slice A2 16 c2] w (Row16 w (encL k b)) := by
  obtain ⟨b1, o1, rfl, hlt1, hr1⟩ := sees_range h1 hk
  obtain ⟨b2, o2, rfl, hlt2, hr2⟩ := sees_range h2 hb
  have HL := Lib.hid (And.intro hk hb)
  have HR1 := Lib.hid (fun (w' : World) (h : Below w.heap.size w w') => range_below hr1 hlt1 h)
  have HR2 := Lib.hid (fun (w' : World) (h : Below w.heap.size w w') => range_below hr2 hlt2 h)
  clear hk hb h1 h2 hr1 hr2
  have ha1 := arr_at (some ⟨b1, o1, none⟩) c1
  have ha2 := arr_at (some ⟨b2, o2, none⟩) c2
  have hsl := fun g => slice_all g 0
  have hu := Try.underlying65
  have hi1 : (Try.prog.info? 65).map (·.size) = some (Us k).length := by rw [Us_length]; exact sz_q HL.out.1
  have hi2 : (Try.prog.info? 65).map (·.size) = some (Us b).length := by rw [Us_length]; exact sz_q HL.out.2
  have HD := Lib.hid (show Below w.heap.size w w.drew from (Below.refl _ _).drew)
  go_enter Try.func45, Try.ntmps45
  go_wp2_with fail
  refine wp_region_held_drew (S := Below w.heap.size w) (by kernel_rfl) HD.out (fun hHeld => ?_)
  refine wpAnyH_take (i := 0) (v := _) rfl (by kernel_rfl) (by kernel_rfl) (by kernel_rfl) (fun _ _ _ h => h) (Or.inl ⟨by rfl, (by intro w hSw; go_simp; first | done | with_reducible rfl)⟩) hHeld ?_
  simp only [Act.put]
  refine wpAnyH_take (i := 1) (v := _) rfl (by kernel_rfl) (by kernel_rfl) (by kernel_rfl) (fun _ _ _ h => h) (Or.inl ⟨by rfl, (by intro w hSw; go_simp; first | done | with_reducible rfl)⟩) hHeld ?_
  simp only [Act.put]
  refine wpAnyH_take (i := 2) (v := _) rfl (by kernel_rfl) (by kernel_rfl) (by kernel_rfl) (fun _ _ _ h => h) (yieldsIf_load_mid (by rfl) 65 (.tmp 16) rfl b1 o1 rfl (Us k) _ HR1.out hu rfl hi1) hHeld ?_
  simp only [Act.put]
  refine wpAnyH_take (i := 3) (v := _) rfl (by kernel_rfl) (by kernel_rfl) (by kernel_rfl) (fun _ _ _ h => h) (Or.inl ⟨by rfl, (by intro w hSw; go_simp; first | done | with_reducible rfl)⟩) hHeld ?_
  simp only [Act.put]
  refine wpAnyH_take (i := 4) (v := _) rfl (by kernel_rfl) (by kernel_rfl) (by kernel_rfl) (fun _ _ _ h => h) (Or.inl ⟨by rfl, (by intro w hSw; go_simp; first | done | with_reducible rfl)⟩) hHeld ?_
  simp only [Act.put]
  refine wpAnyH_take (i := 5) (v := _) rfl (by kernel_rfl) (by kernel_rfl) (by kernel_rfl) (fun _ _ _ h => h) (yieldsIf_load_mid (by rfl) 65 (.tmp 19) rfl b2 o2 rfl (Us b) _ HR2.out hu rfl hi2) hHeld ?_
  simp only [Act.put]
  refine wpAnyH_ready (rs := [6, 7]) (by kernel_rfl) (by simp) ?_
  refine AllReadyH.cons rfl (fun K hK => ?_) (AllReadyH.cons rfl (fun K hK => ?_) AllReadyH.nil)
  · go_simp
    go_wp2_with (go_at_call 52; ((with_reducible refine (prog_enc k b _ HL.out.1 HL.out.2).mono ?_); rintro e w2 ⟨rfl, hb⟩); have HB := Lib.hid (HD.out.trans (hb.mono (Nat.le_refl _))); clear hb)
    refine hK.out _ _ HB.out (fun hHeld => ?_)
    clear hK K
    refine wpAnyH_ready (rs := [7]) (by kernel_rfl) (by simp) ?_
    refine AllReadyH.cons rfl (fun K hK => ?_) AllReadyH.nil
    rw [if_pos (by rfl)]
    refine wp_alloc_b 65 rfl 16 info_q ?_
    intro g w3 hf3 hr3
    have HB3 := Lib.hid (hf3.bl HB.out)
    have HG := Lib.hid (hf3.ge HB.out)
    have HR3 := Lib.hid hr3
    clear hf3 hr3
    refine hK.out _ _ HB3.out (fun hHeld => ?_)
    clear hK K
    refine wpAnyH_ready (rs := [8]) (by kernel_rfl) (by simp) ?_
    refine AllReadyH.cons rfl (fun K hK => ?_) AllReadyH.nil
    rw [if_pos (by rfl)]
    with_reducible refine wp_store_b (ty := 65) (x := .tmp 6) (y := .tmp 21) (g := g) (l := List.replicate 16 0) (l2 := encL k b) rfl ?hx ?hy HR3.out (encL_len0 k b) (sz_q (encL_length k b)) ?_
    case hx => go_simp
    case hy => go_simp
    intro w4 hw4 hr4
    have HB4 := Lib.hid (hw4.bl HB3.out HG.out)
    have HR4 := Lib.hid hr4
    clear hw4 hr4
    refine hK.out _ _ HB4.out (fun hHeld => ?_)
    clear hK K
    refine wpAnyH_done (by kernel_rfl) ?_ _
    go_wp2_with fail
    go_ret2
    exact ⟨g, rfl, HG.out, HR4.out, HB4.out⟩
  · rw [if_pos (by rfl)]
    refine wp_alloc_b 65 rfl 16 info_q ?_
    intro g w2 hf2 hr2
    have HB2 := Lib.hid (hf2.bl HD.out)
    have HG := Lib.hid (hf2.ge HD.out)
    have HR2' := Lib.hid hr2
    clear hf2 hr2
    refine hK.out _ _ HB2.out (fun hHeld => ?_)
    clear hK K
    refine wpAnyH_ready (rs := [6]) (by kernel_rfl) (by simp) ?_
    refine AllReadyH.cons rfl (fun K hK => ?_) AllReadyH.nil
    go_simp
    go_wp2_with (go_at_call 52; ((with_reducible refine (prog_enc k b _ HL.out.1 HL.out.2).mono ?_); rintro e w3 ⟨rfl, hb⟩); have HB3 := Lib.hid (below_on HB2.out hb); have HR3 := Lib.hid (HR2'.out.on hb); clear hb)
    refine hK.out _ _ HB3.out (fun hHeld => ?_)
    clear hK K
    refine wpAnyH_ready (rs := [8]) (by kernel_rfl) (by simp) ?_
    refine AllReadyH.cons rfl (fun K hK => ?_) AllReadyH.nil
    rw [if_pos (by rfl)]
    with_reducible refine wp_store_b (ty := 65) (x := .tmp 6) (y := .tmp 21) (g := g) (l := List.replicate 16 0) (l2 := encL k b) rfl ?hx ?hy HR3.out (encL_len0 k b) (sz_q (encL_length k b)) ?_
    case hx => go_simp
    case hy => go_simp
    intro w4 hw4 hr4
    have HB4 := Lib.hid (hw4.bl HB3.out HG.out)
    have HR4 := Lib.hid hr4
    clear hw4 hr4
    refine hK.out _ _ HB4.out (fun hHeld => ?_)
    clear hK K
    refine wpAnyH_done (by kernel_rfl) ?_ _
    go_wp2_with fail
    go_ret2
    exact ⟨g, rfl, HG.out, HR4.out, HB4.out⟩
theorem aes_enc (k b : List UInt8) (A1 A2 : Option Addr) (c1 c2 : Nat) (w : World) (hk : k.length = 16) (hb : b.length = 16) (h1 : Sees w w.heap.size A1 (Us k)) (h2 : Sees w w.heap.size A2 (Us b)) :
    Calls Try.prog 45 #[.slice A1 16 c1, .slice A2 16 c2] w (Gives w (encL k b) 0) :=
  (aes_enc_row k b A1 A2 c1 c2 w hk hb h1 h2).mono fun _ _ ⟨_, he, _, hr, hb⟩ => by rw [he]; exact gives_b (encL_length k b) hr hb
theorem aes_enc_bad (A1 A2 : Option Addr) (n1 n2 c1 c2 : Nat) (w : World) (h : n1 ≠ 16 ∨ n2 ≠ 16) (m1 : n1 ≤ 140737488351232) (m2 : n2 ≤ 140737488351232) :
    Calls Try.prog 45 #[.slice A1 n1 c1, .slice A2 n2 c2] w (Gives w [] 2) := by
  have H := Lib.hid (show Gives w [] 2 (.returned (.tuple #[.slice none 0 0, .int .i64 2])) w from ⟨none, 0, by simp, .inl rfl, Below.refl _ _⟩)
  by_cases h1 : n1 = 16
  · have h2 : n2 ≠ 16 := by omega
    subst h1
    clear h
    have d2 : ((n2 : Int) != 16) = true := by simp; omega
    have d3 : ((n2 : Int) == 16) = false := by simp; omega
    go_enter Try.func45, Try.ntmps45
    go_wp2
    go_ret2
    exact H.out
  · have d2 : ((n1 : Int) != 16) = true := by simp; omega
    have d3 : ((n1 : Int) == 16) = false := by simp; omega
    clear h
    go_enter Try.func45, Try.ntmps45
    go_wp2
    go_ret2
    exact H.out

set_option maxRecDepth 40000 in
set_option maxHeartbeats 400000 in
theorem aes_dec_row (k b : List UInt8) (A1 A2 : Option Addr) (c1 c2 : Nat) (w : World) (hk : k.length = 16) (hb : b.length = 16) (h1 : Sees w w.heap.size A1 (Us k)) (h2 : Sees w w.heap.size A2 (Us b)) :
    Calls Try.prog 43 #[.slice A1 16 c1, .slice A2 16 c2] w (Row16 w (decL k b)) := by
  obtain ⟨b1, o1, rfl, hlt1, hr1⟩ := sees_range h1 hk
  obtain ⟨b2, o2, rfl, hlt2, hr2⟩ := sees_range h2 hb
  have HL := Lib.hid (And.intro hk hb)
  have HR1 := Lib.hid (fun (w' : World) (h : Below w.heap.size w w') => range_below hr1 hlt1 h)
  have HR2 := Lib.hid (fun (w' : World) (h : Below w.heap.size w w') => range_below hr2 hlt2 h)
  clear hk hb h1 h2 hr1 hr2
  have ha1 := arr_at (some ⟨b1, o1, none⟩) c1
  have ha2 := arr_at (some ⟨b2, o2, none⟩) c2
  have hsl := fun g => slice_all g 0
  have hu := Try.underlying65
  have hi1 : (Try.prog.info? 65).map (·.size) = some (Us k).length := by rw [Us_length]; exact sz_q HL.out.1
  have hi2 : (Try.prog.info? 65).map (·.size) = some (Us b).length := by rw [Us_length]; exact sz_q HL.out.2
  have HD := Lib.hid (show Below w.heap.size w w.drew from (Below.refl _ _).drew)
  go_enter Try.func43, Try.ntmps43
  go_wp2_with fail
  refine wp_region_held_drew (S := Below w.heap.size w) (by kernel_rfl) HD.out (fun hHeld => ?_)
  refine wpAnyH_take (i := 0) (v := _) rfl (by kernel_rfl) (by kernel_rfl) (by kernel_rfl) (fun _ _ _ h => h) (Or.inl ⟨by rfl, (by intro w hSw; go_simp; first | done | with_reducible rfl)⟩) hHeld ?_
  simp only [Act.put]
  refine wpAnyH_take (i := 1) (v := _) rfl (by kernel_rfl) (by kernel_rfl) (by kernel_rfl) (fun _ _ _ h => h) (Or.inl ⟨by rfl, (by intro w hSw; go_simp; first | done | with_reducible rfl)⟩) hHeld ?_
  simp only [Act.put]
  refine wpAnyH_take (i := 2) (v := _) rfl (by kernel_rfl) (by kernel_rfl) (by kernel_rfl) (fun _ _ _ h => h) (yieldsIf_load_mid (by rfl) 65 (.tmp 16) rfl b1 o1 rfl (Us k) _ HR1.out hu rfl hi1) hHeld ?_
  simp only [Act.put]
  refine wpAnyH_take (i := 3) (v := _) rfl (by kernel_rfl) (by kernel_rfl) (by kernel_rfl) (fun _ _ _ h => h) (Or.inl ⟨by rfl, (by intro w hSw; go_simp; first | done | with_reducible rfl)⟩) hHeld ?_
  simp only [Act.put]
  refine wpAnyH_take (i := 4) (v := _) rfl (by kernel_rfl) (by kernel_rfl) (by kernel_rfl) (fun _ _ _ h => h) (Or.inl ⟨by rfl, (by intro w hSw; go_simp; first | done | with_reducible rfl)⟩) hHeld ?_
  simp only [Act.put]
  refine wpAnyH_take (i := 5) (v := _) rfl (by kernel_rfl) (by kernel_rfl) (by kernel_rfl) (fun _ _ _ h => h) (yieldsIf_load_mid (by rfl) 65 (.tmp 19) rfl b2 o2 rfl (Us b) _ HR2.out hu rfl hi2) hHeld ?_
  simp only [Act.put]
  refine wpAnyH_ready (rs := [6, 7]) (by kernel_rfl) (by simp) ?_
  refine AllReadyH.cons rfl (fun K hK => ?_) (AllReadyH.cons rfl (fun K hK => ?_) AllReadyH.nil)
  · go_simp
    go_wp2_with (go_at_call 51; ((with_reducible refine (prog_dec k b _ HL.out.1 HL.out.2).mono ?_); rintro e w2 ⟨rfl, hb⟩); have HB := Lib.hid (HD.out.trans (hb.mono (Nat.le_refl _))); clear hb)
    refine hK.out _ _ HB.out (fun hHeld => ?_)
    clear hK K
    refine wpAnyH_ready (rs := [7]) (by kernel_rfl) (by simp) ?_
    refine AllReadyH.cons rfl (fun K hK => ?_) AllReadyH.nil
    rw [if_pos (by rfl)]
    refine wp_alloc_b 65 rfl 16 info_q ?_
    intro g w3 hf3 hr3
    have HB3 := Lib.hid (hf3.bl HB.out)
    have HG := Lib.hid (hf3.ge HB.out)
    have HR3 := Lib.hid hr3
    clear hf3 hr3
    refine hK.out _ _ HB3.out (fun hHeld => ?_)
    clear hK K
    refine wpAnyH_ready (rs := [8]) (by kernel_rfl) (by simp) ?_
    refine AllReadyH.cons rfl (fun K hK => ?_) AllReadyH.nil
    rw [if_pos (by rfl)]
    with_reducible refine wp_store_b (ty := 65) (x := .tmp 6) (y := .tmp 21) (g := g) (l := List.replicate 16 0) (l2 := decL k b) rfl ?hx ?hy HR3.out (decL_len0 k b) (sz_q (decL_length k b)) ?_
    case hx => go_simp
    case hy => go_simp
    intro w4 hw4 hr4
    have HB4 := Lib.hid (hw4.bl HB3.out HG.out)
    have HR4 := Lib.hid hr4
    clear hw4 hr4
    refine hK.out _ _ HB4.out (fun hHeld => ?_)
    clear hK K
    refine wpAnyH_done (by kernel_rfl) ?_ _
    go_wp2_with fail
    go_ret2
    exact ⟨g, rfl, HG.out, HR4.out, HB4.out⟩
  · rw [if_pos (by rfl)]
    refine wp_alloc_b 65 rfl 16 info_q ?_
    intro g w2 hf2 hr2
    have HB2 := Lib.hid (hf2.bl HD.out)
    have HG := Lib.hid (hf2.ge HD.out)
    have HR2' := Lib.hid hr2
    clear hf2 hr2
    refine hK.out _ _ HB2.out (fun hHeld => ?_)
    clear hK K
    refine wpAnyH_ready (rs := [6]) (by kernel_rfl) (by simp) ?_
    refine AllReadyH.cons rfl (fun K hK => ?_) AllReadyH.nil
    go_simp
    go_wp2_with (go_at_call 51; ((with_reducible refine (prog_dec k b _ HL.out.1 HL.out.2).mono ?_); rintro e w3 ⟨rfl, hb⟩); have HB3 := Lib.hid (below_on HB2.out hb); have HR3 := Lib.hid (HR2'.out.on hb); clear hb)
    refine hK.out _ _ HB3.out (fun hHeld => ?_)
    clear hK K
    refine wpAnyH_ready (rs := [8]) (by kernel_rfl) (by simp) ?_
    refine AllReadyH.cons rfl (fun K hK => ?_) AllReadyH.nil
    rw [if_pos (by rfl)]
    with_reducible refine wp_store_b (ty := 65) (x := .tmp 6) (y := .tmp 21) (g := g) (l := List.replicate 16 0) (l2 := decL k b) rfl ?hx ?hy HR3.out (decL_len0 k b) (sz_q (decL_length k b)) ?_
    case hx => go_simp
    case hy => go_simp
    intro w4 hw4 hr4
    have HB4 := Lib.hid (hw4.bl HB3.out HG.out)
    have HR4 := Lib.hid hr4
    clear hw4 hr4
    refine hK.out _ _ HB4.out (fun hHeld => ?_)
    clear hK K
    refine wpAnyH_done (by kernel_rfl) ?_ _
    go_wp2_with fail
    go_ret2
    exact ⟨g, rfl, HG.out, HR4.out, HB4.out⟩
theorem aes_dec (k b : List UInt8) (A1 A2 : Option Addr) (c1 c2 : Nat) (w : World) (hk : k.length = 16) (hb : b.length = 16) (h1 : Sees w w.heap.size A1 (Us k)) (h2 : Sees w w.heap.size A2 (Us b)) :
    Calls Try.prog 43 #[.slice A1 16 c1, .slice A2 16 c2] w (Gives w (decL k b) 0) :=
  (aes_dec_row k b A1 A2 c1 c2 w hk hb h1 h2).mono fun _ _ ⟨_, he, _, hr, hb⟩ => by rw [he]; exact gives_b (decL_length k b) hr hb
theorem aes_dec_bad (A1 A2 : Option Addr) (n1 n2 c1 c2 : Nat) (w : World) (h : n1 ≠ 16 ∨ n2 ≠ 16) (m1 : n1 ≤ 140737488351232) (m2 : n2 ≤ 140737488351232) :
    Calls Try.prog 43 #[.slice A1 n1 c1, .slice A2 n2 c2] w (Gives w [] 2) := by
  have H := Lib.hid (show Gives w [] 2 (.returned (.tuple #[.slice none 0 0, .int .i64 2])) w from ⟨none, 0, by simp, .inl rfl, Below.refl _ _⟩)
  by_cases h1 : n1 = 16
  · have h2 : n2 ≠ 16 := by omega
    subst h1
    clear h
    have d2 : ((n2 : Int) != 16) = true := by simp; omega
    have d3 : ((n2 : Int) == 16) = false := by simp; omega
    go_enter Try.func43, Try.ntmps43
    go_wp2
    go_ret2
    exact H.out
  · have d2 : ((n1 : Int) != 16) = true := by simp; omega
    have d3 : ((n1 : Int) == 16) = false := by simp; omega
    clear h
    go_enter Try.func43, Try.ntmps43
    go_wp2
    go_ret2
    exact H.out

end Go.Proofs.Ytipkaeeimohmpaa
