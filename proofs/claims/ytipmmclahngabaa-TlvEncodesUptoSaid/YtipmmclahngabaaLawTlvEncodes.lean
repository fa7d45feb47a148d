/-
  What is proved here: the given statement TlvEncodesUptoSaid, for every list of objects and every path, where both together are of bulk at most 1048576 (the second form's bound); no other condition.
-/
import Derived.Test.YtipmmclahngabaaEnl
import Derived.Test.YtipmmclahngabaaOpenN
import Derived.Test.YtipmmclahngabaaOpenI
namespace Go.Proofs.Ytipmmclahngabaa.tlvEncodes
open Go.ChangeShapes Go.WideShapes Go.ChangeAt Go.RowKit
open Go.ChangeMaps (open_string shut_string)
set_option linter.unusedVariables false

theorem small_part {H : Type} {l : List (DataW H)} {d : DataW H} (hk : Rows.uptoSmall H l = true) (hd : d ∈ l) : Rows.uptoBulk d ≤ 1048576 := by
  have h1 := small_all hk
  have h2 := bulk_part hd
  omega

theorem walk (A0 : Option Addr) (c0 : Nat) (f0 : F) (A1 : Option Addr) (c1 : Nat) (x1 : List Int) (w : World) (h0 : SeesQ w (· < w.heap.size) A0 f0) (ok0 : f0.ok) (sz0 : f0.size ≤ 1048576)
    (h1 : SeesP w (· < w.heap.size) A1 (x1.map (Value.int .i64))) (m1 : x1.length ≤ 1048576) (_ : ∀ y ∈ x1, -9223372036854775808 ≤ y ∧ y ≤ 9223372036854775807) (l1 : x1.length ≤ c1) :
    Calls Try.prog 4 #[.slice A0 f0.len c0, .slice A1 x1.length c1] w fun e w' => e = .returned (.bool true) ∧ Below w.heap.size w w' :=
  law_encodes x1 f0 A0 A1 c0 c1 w ok0 sz0 (by omega) l1 h0 h1

/-! ### the given statement, out of the walk -/
set_option maxRecDepth 100000 in
theorem lifted (os : Os) (started : os.Started) (H : Type) (enc : TypeId × Value → H) (FI : Stop.Interp) :
    ReturnsInHanded {} Try.checked os 4 .any ((Rows.OpenSpec.upto Rows.tlvEncodesSpec).pre6 enc Try.prog Try.f4 Rows.tlvEncodesUptoRow.domain false) (((Rows.OpenSpec.upto Rows.tlvEncodesSpec).at FI).post enc Try.prog Try.f4 false true false false) := by
  refine returnsInHanded_of_cond_sized (C := Try.checked) (s := Rows.OpenSpec.upto Rows.tlvEncodesSpec) (k := Rows.uptoSmall) rfl own started (by kernel_rfl) Try.func4
    (OpenSpec.witness (enc := enc) (C := Try.checked) (s := Rows.OpenSpec.upto Rows.tlvEncodesSpec) (k := Rows.uptoSmall) rfl false ⟨#[], #[.slice none 0 0, .slice none 0 0], []⟩ 8 (by kernel_rfl) (by kernel_rfl) (by kernel_rfl)
      (x := ([.nil, .nil], [], [])) (by kernel_rfl) rfl (by kernel_rfl)) ?_
  intro W base args ds gs before hval0 hW hcnd hk hsz0 _
  have hsz : (DataW.weightsEach Try.prog (Try.f4.params.toList ++ Rows.tlvEncodesSpec.plain.varTypes Try.prog) (ds ++ gs)).all (· ≤ reachBytes) = true := hsz0
  have hval : ∀ (j : Nat) t v, Try.f4.params[j]? = some t → args[j]? = some v → Value.okWide Try.prog W .any base t v := hval0
  have hW' := hW
  obtain ⟨p, q, hA0, hV, rfl, hfz, hnd⟩ := hW
  have hA : DataW.TrodAll enc Try.prog W 0 (fun _ => true) true Try.f4.params.toList args.toList ds p := hA0
  rw [Try.params4] at hA hval hsz
  obtain ⟨v0, vs0, d0, ds0, p0, q0, hargs, rfl, rfl, h0, r0⟩ := trodAll_cons hA
  obtain ⟨v1, vs1, d1, ds1, p1, q1, rfl, rfl, rfl, h1, r1⟩ := trodAll_cons r0
  obtain ⟨rfl, rfl, rfl⟩ := trodAll_nil r1
  obtain rfl : args = #[v0, v1] := by cases args; simp_all
  obtain ⟨rfl, rfl⟩ := trodVars_none hV
  obtain ⟨a0, len0, cap0, rfl⟩ := okWide_slice Try.underlying24 (hval 0 24 v0 rfl rfl)
  have lt0 : ∀ x ∈ p0, x.block < W.heap.size := by obtain ⟨m, hm⟩ := h0; exact DataW.trod_lt m _ _ _ hm
  obtain ⟨f0, rfl, see0, ok0, sz0⟩ : ∃ f : F, len0 = f.len ∧ SeesQ W (· < W.heap.size) a0 f ∧ f.ok ∧ f.size ≤ 1048576 := by
    obtain ⟨fu, hfu⟩ := h0
    have hbk := small_part hk (d := d0) (by simp)
    obtain ⟨f, e1, e2, e3, e4⟩ := open_nodes fu a0 len0 cap0 d0 p0 hfu hbk
    exact ⟨f, e1, e2, e3, by omega⟩
  obtain ⟨a1, len1, cap1, rfl⟩ := okWide_slice Try.underlying25 (hval 1 25 v1 rfl rfl)
  have lt1 : ∀ x ∈ p1, x.block < W.heap.size := by obtain ⟨m, hm⟩ := h1; exact DataW.trod_lt m _ _ _ hm
  obtain ⟨x1, rfl, see1, rng1, hl1, hc1⟩ := open_i64s h1 lt1
  have m1 := small_u8s hk (d := d1) (by simp) hl1 hc1
  clear hA0 hval0
  refine (walk a0 cap0 f0 a1 cap1 x1 W see0 ok0 sz0 see1 m1 rng1 hl1).mono fun e W' ⟨he, bel⟩ => ?_
  subst he
  exact ⟨_, rfl, _, _, _, [], _, [], hW', trodAll_mk1 (shut_bool Try.underlying4 _), (trodAll_cons_mk (Below.trod laidOut (by kernel_rfl) (of_decide_eq_true (by kernel_rfl)) h0 bel lt0) (trodAll_cons_mk (Below.trod laidOut (by kernel_rfl) (of_decide_eq_true (by kernel_rfl)) h1 bel lt1) trodAll_mk0)), rfl, bel.frame _, fun h => by cases h⟩

theorem proved : Rows.TlvEncodesUptoSaid :=
  OpenClaim.holds_of_cond 4 Try.f4 rfl rfl rfl rfl rfl rfl rfl ⟨rfl, rfl, rfl, rfl, rfl⟩ rfl rfl rfl rfl rfl (by kernel_rfl) Try.func4 (by kernel_rfl)
    (of_decide_eq_true (by kernel_rfl)) (by unfold Func.isWrapper; first | (rw [if_pos (by decide +kernel)]; kernel_rfl) | (rw [if_neg (by decide +kernel)]; exact ⟨rfl, rfl⟩))
    (fun os started H enc _ FI => lifted os started H enc FI)
end Go.Proofs.Ytipmmclahngabaa.tlvEncodes
