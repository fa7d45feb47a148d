/-
  What is proved here: for all integers, the program's Substitute answers what the reference's does, and it is one to one on the bytes (the statement AesSubstitutes); no condition.
-/
import Derived.Test.YtkcccpknppofmaaOp5
import Derived.Test.YtkcccpknppofmaaAw5
import Derived.Test.YtkcccpknppofmaaP10
import Derived.Test.YtkcccpknppofmaaR1
namespace Go.Proofs.Ytkcccpknppofmaa.aesSubstitutes
open Go.ChangeShapes Go.WideShapes Go.ChangeAt Go.RowKit
open Go.ChangeMaps (open_string shut_string)
set_option linter.unusedVariables false

theorem info_b : (Try.prog.info? 23).map (fun i => (i.zero, i.size)) = some (some (.agg (List.replicate 256 (Value.bool false)).toArray), 256) := by kernel_rfl
theorem wpList_alloc_v {P : Program} {ops : Array Oper} {rest : List Oper} {op : Oper} {a : Act} {w : World} {Q : Exit → Act → World → Prop} (hgd : op.guard = none) (ty : TypeId) (ho : op.op = .alloc ty) (vs : List Value) (n : Nat)
    (hz : (P.info? ty).map (fun i => (i.zero, i.size)) = some (some (.agg vs.toArray), n))
    (hK : ∀ g w', Fresh w w' g → RowV w' g vs → wpList P ops Q rest (a.put op.dst (.pointer (some ⟨g, 0, none⟩))) w') : wpList P ops Q (op :: rest) a w := by
  refine wpList_plain hgd fun K hK2 => ?_
  have hz2 : ∀ w, (zeroValue ty).run P w = .ok (.agg vs.toArray) w := by
    intro w
    cases hq : P.info? ty with
    | none => simp [hq] at hz
    | some i =>
      simp [hq] at hz
      simp [zeroValue, typeInfo, hq, hz.1]
  have hr : (Instr.alloc ty true (.tuple #[])).run P w = .ok (.pointer (some ⟨w.heap.size, 0, none⟩)) (w.alloc (.cells vs.toArray ty)) := by
    simp [Instr.alloc, Sem.run_bind, hz2, newVar, newRow, newObj, Value.cells]
    rfl
  unfold Oper.wp execOp
  simp only [ho, Sem.run_bind, hr, Result.andThen_ok]
  exact hK2 _ _ (hK _ _ ⟨rfl, _, rfl⟩ (RowV.new (by simp)))
/-- which bytes have been seen behind the first k substitutes -/
def snL (k : Nat) : List Value := (List.range 256).map fun j => Value.bool (decide ((isb.getD j 0).toNat < k))
theorem snL_zero : snL 0 = List.replicate 256 (Value.bool false) := by
  apply List.ext_getElem
  · rw [snL, List.length_map, List.length_range, List.length_replicate]
  · intro i h1 h2
    rw [List.getElem_replicate]
    simp only [snL, List.getElem_map]
    rw [decide_eq_false (by omega)]
theorem snL_get (k j : Nat) (hj : j < 256) : (snL k)[j]? = some (Value.bool (decide ((isb.getD j 0).toNat < k))) := by
  rw [snL, List.getElem?_map, List.getElem?_range hj]
  rfl
theorem isb_of (k : Nat) (hk : k < 256) : (isb.getD (sb.getD k 0).toNat 0).toNat = k := by
  have h := isb_sb (UInt8.ofNat k)
  rw [UInt8.toNat_ofNat', Nat.mod_eq_of_lt (by omega)] at h
  rw [h, UInt8.toNat_ofNat', Nat.mod_eq_of_lt (by omega)]
theorem snL_step (k : Nat) (hk : k < 256) : (snL k).set (sb.getD k 0).toNat (Value.bool true) = snL (k + 1) := by
  have hs := (sb.getD k 0).toNat_lt
  apply List.ext_getElem?
  intro j
  rw [List.getElem?_set]
  rcases Nat.lt_or_ge j 256 with hj | hj
  · by_cases he : (sb.getD k 0).toNat = j
    · rw [if_pos he, if_pos (by rw [snL, List.length_map, List.length_range]; exact hs), snL_get _ _ hj, ← he, isb_of k hk, decide_eq_true (by omega)]
    · rw [if_neg he, snL_get _ _ hj, snL_get _ _ hj]
      have hne : (isb.getD j 0).toNat ≠ k := by
        intro e
        apply he
        have h := sb_isb (UInt8.ofNat j)
        rw [UInt8.toNat_ofNat', Nat.mod_eq_of_lt (by omega), e] at h
        rw [h, UInt8.toNat_ofNat', Nat.mod_eq_of_lt (by omega)]
      congr 2
      rw [decide_eq_decide]
      omega
  · have hl : ∀ m, (snL m).length = 256 := fun m => by rw [snL, List.length_map, List.length_range]
    rw [if_neg (by omega), List.getElem?_eq_none (by rw [hl]; exact hj), List.getElem?_eq_none (by rw [hl]; exact hj)]
def SuL (w : World) (g k : Nat) (wr : World) : Prop := w.heap.size ≤ g ∧ Below w.heap.size w wr ∧ RowV wr g (snL k)

set_option maxRecDepth 40000 in
set_option maxHeartbeats 1000000 in
theorem rounds (n z : Int) (w0 w : World) (hb0 : Below w0.heap.size w0 w)
    (hp : Calls Try.prog 9 #[.int .i64 n] w0 fun e w' => e = .returned (.int .i64 z) ∧ Below w0.heap.size w0 w')
    (hr : ∀ w, Calls Try.prog 10 #[.int .i64 n] w fun e w' => e = .returned (.int .i64 z) ∧ w' = w) :
    Calls Try.prog 3 #[.int .i64 n] w0 fun e w' => e = .returned (.bool true) ∧ Below w0.heap.size w0 w' := by
  have HP := Lib.hid hp
  have HR := Lib.hid hr
  have hd : (z != z) = false := by simp
  clear hp hr hb0
  go_enter Try.func3, Try.ntmps3
  go_wp2_with (first
    | (go_at_call 9; ((with_reducible refine HP.out.mono ?_); rintro e w1 ⟨rfl, hb⟩); have HB1 := Lib.hid hb; clear hb)
    | (go_at_call 10; ((with_reducible refine (HR.out _).mono ?_); rintro e w2 ⟨rfl, rfl⟩))
    | ((with_reducible refine wpList_alloc_v rfl 23 rfl (List.replicate 256 (Value.bool false)) 256 info_b ?_); intro g w3 hf hv; have HI := Lib.hid (show SuL w0 g 0 w3 from ⟨hf.ge HB1.out, hf.bl HB1.out, by rw [snL_zero]; exact hv⟩); clear hf hv))
  clear HB1
  go_loopw [4, 5] (fun i _ wr => ∃ k : Nat, k ≤ 256 ∧ i = .int .i64 (k : Int) ∧ Hid (SuL w0 g k wr)) (fun i _ _ => 256 - (intOf i).toNat)
  case atStart => exact ⟨0, by decide, rfl, HI⟩
  case round =>
    clear HI
    obtain ⟨k, hk, rfl, HS⟩ := hrel
    by_cases h256 : k < 256
    · obtain ⟨v, hv⟩ : ∃ v, v = sb.getD k 0 := ⟨_, rfl⟩
      have hvl := v.toNat_lt
      have hsn : Hid ((snL k)[v.toNat]? = some (Value.bool false)) := Lib.hid (by rw [hv, snL_get _ _ (by rw [← hv]; exact hvl), isb_of k h256, decide_eq_false (by omega)])
      have HC := Lib.hid (fun (w : World) => (show Calls Try.prog 9 #[.int .i64 (k : Int)] w fun e w' => e = .returned (.int .i64 (v.toNat : Int)) ∧ Below w.heap.size w w' by rw [hv]; exact aes_subst k w h256))
      have HV := Lib.hid hv
      have d1 : decide ((v.toNat : Int) < 0) = false := by simp
      have d2 : decide ((255 : Int) < (v.toNat : Int)) = false := by simp; omega
      have d3 : (v.toNat : Int) < 256 := by omega
      clear hv
      go_wp2_with (go_at_call 9; ((with_reducible refine (HC.out _).mono ?_); rintro e w5 ⟨rfl, hb⟩); have HS5 := Lib.hid (show SuL w0 g k w5 from ⟨HS.out.1, below_on HS.out.2.1 hb, HS.out.2.2.on hb⟩); have y1 := (HS5.out.2.2.cell v.toNat).trans hsn.out; have yf := HS5.out.2.2.free v.toNat; clear hb)
      go_roundw
      case rel => exact ⟨k + 1, by omega, by go_num, Lib.hid ⟨HS5.out.1, HS5.out.2.1.setCell HS5.out.1 _, by have := HS5.out.2.2.set v.toNat (Value.bool true); rw [HV.out, snL_step k h256] at this; rw [HV.out]; exact this⟩⟩
      case measure => simp [intOf]; omega
    · obtain rfl : k = 256 := by omega
      go_wp2_with (go_at_call 11; ((with_reducible refine (awake _).mono ?_); rintro e w6 ⟨rfl, hb⟩); have HB := Lib.hid (below_on HS.out.2.1 hb); clear hb)
      go_ret
      exact ⟨rfl, HB.out⟩
theorem walk (n : Int) (w : World) (hn : (Lit.int .i64 n).wf = true) :
    Calls Try.prog 3 #[.int .i64 n] w fun e w' => e = .returned (.bool true) ∧ Below w.heap.size w w' := by
  by_cases h : n < 0 ∨ 256 ≤ n
  · exact rounds n 0 w w (Below.refl _ _) ((aes_subst_bad n w h).mono fun _ _ ⟨h1, h2⟩ => ⟨h1, by rw [← h2]; exact Below.refl _ _⟩) (fun w => ref_subst_bad n w h)
  · obtain ⟨m, rfl⟩ := Int.eq_ofNat_of_zero_le (show 0 ≤ n by omega)
    have hm : m < 256 := by omega
    have e : (UInt8.ofNat m).toNat = m := by rw [UInt8.toNat_ofNat', Nat.mod_eq_of_lt (by omega)]
    refine rounds m ((sb.getD m 0).toNat : Int) w w (Below.refl _ _) (aes_subst m w hm) (fun w => ?_)
    have h := ref_subst (UInt8.ofNat m) w
    rw [e] at h
    exact h

/-! ### the given statement, out of the walk -/
set_option maxRecDepth 100000 in
theorem lifted (os : Os) (started : os.Started) (H : Type) (enc : TypeId × Value → H) :
    ReturnsInHanded {} Try.checked os 3 .any (Rows.aesSubstitutesSpec.pre6 enc Try.prog Try.f3 Rows.aesSubstitutesRow.domain false) (Rows.aesSubstitutesSpec.post enc Try.prog Try.f3 false true false false) := by
  refine returnsInHanded_of_change_sized (C := Try.checked) own started (by kernel_rfl) Try.func3
    (ChangeSpec.witness6 (enc := enc) (C := Try.checked) false ⟨#[], #[.int .i64 0], []⟩ 8 (by kernel_rfl) (by kernel_rfl) (by kernel_rfl) (by kernel_rfl)) ?_
  intro W base args ds gs before hval0 hW hcnd hsz0 _
  have hsz : (DataW.weightsEach Try.prog (Try.f3.params.toList ++ Rows.aesSubstitutesSpec.plain.varTypes Try.prog) (ds ++ gs)).all (· ≤ reachBytes) = true := hsz0
  have hval : ∀ (j : Nat) t v, Try.f3.params[j]? = some t → args[j]? = some v → Value.okWide Try.prog W .any base t v := hval0
  have hW' := hW
  obtain ⟨p, q, hA0, hV, rfl, hfz, hnd⟩ := hW
  have hA : DataW.TrodAll enc Try.prog W 0 (fun _ => true) true Try.f3.params.toList args.toList ds p := hA0
  rw [Try.params3] at hA hval hsz
  obtain ⟨v0, vs0, d0, ds0, p0, q0, hargs, rfl, rfl, h0, r0⟩ := trodAll_cons hA
  obtain ⟨rfl, rfl, rfl⟩ := trodAll_nil r0
  obtain rfl : args = #[v0] := by cases args; simp_all
  obtain ⟨rfl, rfl⟩ := trodVars_none hV
  obtain ⟨n0, rfl, rfl, rfl, w0⟩ := open_int Try.underlying3 (hval 0 3 v0 rfl rfl) h0
  clear hA0 hval0
  refine (walk n0 W w0).mono fun e W' ⟨he, bel⟩ => ?_
  subst he
  exact ⟨_, rfl, _, _, _, [], _, [], hW', trodAll_mk1 (shut_bool Try.underlying4 _), (trodAll_cons_mk (shut_int Try.underlying3 w0) trodAll_mk0), rfl, bel.frame _, fun h => by cases h⟩

theorem proved : Rows.AesSubstitutesSaid :=
  OpenClaim.holds_of_wide 3 Try.f3 rfl rfl rfl rfl rfl rfl rfl ⟨rfl, rfl, rfl, rfl, rfl⟩ rfl rfl rfl rfl rfl (by kernel_rfl) Try.func3 (by kernel_rfl)
    (of_decide_eq_true (by kernel_rfl)) (by unfold Func.isWrapper; first | (rw [if_pos (by decide +kernel)]; kernel_rfl) | (rw [if_neg (by decide +kernel)]; exact ⟨rfl, rfl⟩))
    (fun os started H enc _ => lifted os started H enc)
end Go.Proofs.Ytkcccpknppofmaa.aesSubstitutes
