/-
  What is proved here: what Element, Multiply, Power, Invert, Public and Share return, of the program and of the reference, for all numbers.
-/
import Derived.Test.YtkgfdbbdmchmeaaDoorZ21
import Derived.Test.YtkgfdbbdmchmeaaDoorRows
import Derived.Test.YtkgfdbbdmchmeaaDoorZ0
import Derived.Test.YtkgfdbbdmchmeaaDoorZ10
import Derived.Test.YtkgfdbbdmchmeaaDoorZ14
import Derived.Test.YtkgfdbbdmchmeaaDoorZ13
import Derived.Test.YtkgfdbbdmchmeaaDoorZ15
import Derived.Test.YtkgfdbbdmchmeaaDoorZ19
import Derived.Test.YtkgfdbbdmchmeaaDoorZ1
import Derived.Test.YtkgfdbbdmchmeaaDoorZ18
import Derived.Test.YtkgfdbbdmchmeaaDoorZ20
import Derived.Test.YtkgfdbbdmchmeaaDoorZ17
import Derived.BigQuiet
import Derived.Lib.Strings
import Derived.Lib.Slices
import Derived.Lib.Small
import Derived.Lib.Walk
import Derived.Lib.BitFns
import Derived.Deep.RegionWith
import Derived.Laws.ResultCell
import Derived.Laws.Rows
import Derived.ProofKit
import Derived.OpenShut
import Derived.ShutString
import Derived.ChangeOld
import Derived.SizedLaws
import Derived.Deep.CutRange
import Derived.Laws.AppendOwnNone
import Derived.Deep.RegionLaw
import Derived.Deep.AppendLies
import Derived.Lib.AppendZerosOnto
import Derived.Deep.DeepMust
namespace Go.Proofs.YtkgfdbbdmchmeaaDoor
open Go.RowKit
set_option maxRecDepth 8000
def elB (x : Int) : Bool := resB x && (x != 1) && (pwZ x 1073741789 == 1)
theorem elB_res {x : Int} (h : elB x = true) : resB x = true := by
  unfold elB at h; rw [Bool.and_eq_true, Bool.and_eq_true] at h; exact h.1.1
theorem elB_bd {x : Int} (h : elB x = true) : 1 ≤ x ∧ x < 2147483579 := resB_yes (elB_res h)
theorem grp_element (x : Int) (w : World) : Calls Tryd.prog 47 #[.int .i64 x] w fun e w' => e = .returned (.bool (elB x)) ∧ w = w' := by
  by_cases h : resB x = true
  · obtain ⟨h1, h2⟩ := resB_yes h
    by_cases hx : x = 1
    · have hd : (x != 1) = false := by simpa using hx
      have hv : elB x = false := by unfold elB; rw [hd, Bool.and_false, Bool.false_and]
      rw [hv]; clear hv hx
      go_enter Tryd.func47, Tryd.ntmps47
      go_wp2_with (go_at_call 63; ((with_reducible refine (grp_residue x _).mono ?_); rintro e w' ⟨rfl, rfl⟩))
      go_ret
      exact ⟨rfl, rfl⟩
    · have hd : (x != 1) = true := by simpa using hx
      have hv : elB x = (pwZ x 1073741789 == 1) := by unfold elB; rw [h, hd, Bool.true_and, Bool.true_and]
      rw [hv]; clear hv hx
      go_enter Tryd.func47, Tryd.ntmps47
      go_wp2_with (first | (go_at_call 63; ((with_reducible refine (grp_residue x _).mono ?_); rintro e w' ⟨rfl, rfl⟩)) | (go_at_call 64; ((with_reducible refine (grp_power x 1073741789 _ (by omega) h2 (by decide) (by decide)).mono ?_); rintro e w' ⟨rfl, rfl⟩)))
      go_ret
      exact ⟨rfl, rfl⟩
  · have hr : resB x = false := by simpa using h
    have hv : elB x = false := by unfold elB; rw [hr, Bool.false_and, Bool.false_and]
    rw [hv]; clear hv h
    go_enter Tryd.func47, Tryd.ntmps47
    go_wp2_with (go_at_call 63; ((with_reducible refine (grp_residue x _).mono ?_); rintro e w' ⟨rfl, rfl⟩))
    go_ret
    exact ⟨rfl, rfl⟩
theorem ref_element (x : Int) (w : World) : Calls Tryd.prog 49 #[.int .i64 x] w fun e w' => e = .returned (.bool (elB x)) ∧ w = w' := by
  by_cases h : resB x = true
  · obtain ⟨h1, h2⟩ := resB_yes h
    by_cases hx : x = 1
    · have hd : (x != 1) = false := by simpa using hx
      have hv : elB x = false := by unfold elB; rw [hd, Bool.and_false, Bool.false_and]
      rw [hv]; clear hv hx
      go_enter Tryd.func49, Tryd.ntmps49
      go_wp2_with (go_at_call 65; ((with_reducible refine (ref_residue x _).mono ?_); rintro e w' ⟨rfl, rfl⟩))
      go_ret
      exact ⟨rfl, rfl⟩
    · have hd : (x != 1) = true := by simpa using hx
      have hv : elB x = (pwZ x 1073741789 == 1) := by unfold elB; rw [h, hd, Bool.true_and, Bool.true_and]
      rw [hv]; clear hv hx
      go_enter Tryd.func49, Tryd.ntmps49
      go_wp2_with (first | (go_at_call 65; ((with_reducible refine (ref_residue x _).mono ?_); rintro e w' ⟨rfl, rfl⟩)) | (go_at_call 36; ((with_reducible refine (ref_pow x 1073741789 _ (by omega) h2 (by decide) (by decide)).mono ?_); rintro e w' ⟨rfl, rfl⟩)))
      go_ret
      exact ⟨rfl, rfl⟩
  · have hr : resB x = false := by simpa using h
    have hv : elB x = false := by unfold elB; rw [hr, Bool.false_and, Bool.false_and]
    rw [hv]; clear hv h
    go_enter Tryd.func49, Tryd.ntmps49
    go_wp2_with (go_at_call 65; ((with_reducible refine (ref_residue x _).mono ?_); rintro e w' ⟨rfl, rfl⟩))
    go_ret
    exact ⟨rfl, rfl⟩
end Go.Proofs.YtkgfdbbdmchmeaaDoor
namespace Go.Proofs.YtkgfdbbdmchmeaaDoor
open Go.RowKit
set_option maxRecDepth 8000
set_option linter.unusedVariables false
structure Im where
  p : Int
  v : Int
  a : Int
  k : Int
  i : Int
def zerI : Im := ⟨0, 0, 0, 0, 0⟩
instance : Inhabited Im := ⟨zerI⟩
def Im.cs (x : Im) : List Value := [.int .i64 x.p, .int .i64 x.v, .int .i64 x.a, .int .i64 x.k, .int .i64 x.i]
theorem Im.cs_one (x : Im) : ∀ u ∈ x.cs, u.oneCell' = true := by
  intro u hu
  simp only [Im.cs, List.mem_cons, List.not_mem_nil, or_false] at hu
  rcases hu with rfl | rfl | rfl | rfl | rfl <;> rfl
section
variable {w w' : World} {p p' : Nat → Prop} {A : Option Addr} {l : List Im} {x : Im} {j : Nat}
end
def pwB (p : Int) : Bool := decide (p = 2) || decide (p = 3)
def idL (p : Int) : List UInt8 := [4, 0, 127, 0, 7, 2, 2] ++ (if p = 2 then [4, 1] else if p = 3 then [4, 2] else if p = 4 then [3, 1] else if p = 5 then [2, 1] else [5, 1])
def numsI (p : Int) : List (Int × Nat × Nat) := (2, 1, 1) :: (if pwB p = true then [(2, 1, 2)] else if p = 4 then [(4, 4, 3), (2, 1, 4)] else [])
def Im.get (x : Im) : Nat → Int
  | 0 => x.p
  | 1 => x.v
  | 2 => x.a
  | 3 => x.k
  | _ => x.i
def numF (x : Im) : List (Int × Nat × Nat) → F
  | [] => .nil
  | (t, s, c) :: r => .cons t (octL (x.get c).toNat s) .nil (numF x r)
def kidF (x : Im) : F := .cons 6 (idL x.p) .nil (numF x (numsI x.p))
def Im.put (x : Im) (c : Nat) (n : Int) : Im := match c with
  | 0 => { x with p := n }
  | 1 => { x with v := n }
  | 2 => { x with a := n }
  | 3 => { x with k := n }
  | _ => { x with i := n }
end Go.Proofs.YtkgfdbbdmchmeaaDoor
namespace Go.Proofs.YtkgfdbbdmchmeaaDoor
open Go.RowKit
set_option linter.unusedVariables false
set_option linter.unusedSimpArgs false
def StepG (I : World → Prop) (X : Nat → Value → World → Prop) (S : Nat → Bool) (v : Nat → Value) (c : World) (a : Act) (o : Oper) (i : Nat) (a' : Act) (w' : World) : Prop :=
  ∃ u, a' = a.put o.dst u ∧ X i u w' ∧ (Below c.heap.size c w' ∨ (I w' ∧ ∀ j, S j = true → X j (v j) w'))
section
variable {a : Act} {c : World} {o : Oper} {I : World → Prop} {X : Nat → Value → World → Prop} {S : Nat → Bool} {v : Nat → Value} {i : Nat}
theorem StepG.still {x : Value} (h : X i x c) : StepG I X S v c a o i (a.put o.dst x) c := ⟨x, rfl, h, .inl (Below.refl _ _)⟩
theorem StepG.new {x : Value} {c' : World} (h : X i x c') (hb : Below c.heap.size c c') : StepG I X S v c a o i (a.put o.dst x) c' := ⟨x, rfl, h, .inl hb⟩
end
end Go.Proofs.YtkgfdbbdmchmeaaDoor
namespace Go.Proofs.YtkgfdbbdmchmeaaDoor
open Go.RowKit
set_option maxRecDepth 8000
set_option linter.unusedVariables false
set_option linter.unusedSimpArgs false
def tagsG : List Int := [97, 117, 99, 118, 101, 102, 103, 104, 105, 106, 107, 108, 109, 110, 111, 112, 96, 119]
theorem tagsG_at : ∀ k, k < 18 → tagsG[k]? = some (tagsG.getD k 0) := by decide
theorem tagsG_bd : ∀ k, k < 18 → 96 ≤ tagsG.getD k 0 ∧ tagsG.getD k 0 ≤ 119 := by decide
theorem tagsG_drop : ∀ k, k < 18 → tagsG.drop k = tagsG.getD k 0 :: tagsG.drop (k + 1) := by decide
def gtV (n : Int) : Int := if n < 1 ∨ 18 < n then 0 else tagsG.getD (n - 1).toNat 0
def gtE (n : Int) : Int := if n < 1 ∨ 18 < n then 3 else 0
def ggF (t : Int) : List Int → Int → Int × Int
  | [], _ => (0, 4)
  | x :: r, i => if x = t then (i + 1, 0) else ggF t r (i + 1)
def ggR (t : Int) : Int × Int := ggF t tagsG 0
def fiR (n : Int) : Int × Int × Int := if n < 1 ∨ 18 < n then (0, 0, 3) else if n = 17 then (286, 30, 0) else if n = 18 then (285, 29, 0) else (256 + n, n, 0)
theorem ggF_at {t : Int} {k : Nat} (h : k < 18) : ggF t (tagsG.drop k) k = if tagsG.getD k 0 = t then ((k : Int) + 1, 0) else ggF t (tagsG.drop (k + 1)) ((k + 1 : Nat) : Int) := by
  rw [tagsG_drop k h]
  simp only [ggF]
  rfl
theorem gt_no {n : Int} (h : n < 1 ∨ 18 < n) : gtV n = 0 ∧ gtE n = 3 := by unfold gtV gtE; rw [if_pos h, if_pos h]; exact ⟨rfl, rfl⟩
theorem gt_yes {n : Int} {k : Nat} (h : n = (k : Int) + 1) (hk : k < 18) : gtV n = tagsG.getD k 0 ∧ gtE n = 0 := by
  unfold gtV gtE
  rw [if_neg (by omega), if_neg (by omega), show (n - 1).toNat = k by omega]
  exact ⟨rfl, rfl⟩
def TabG (w : World) : Prop := 1 < w.heap.size ∧ ∀ k : Nat, k < 18 → w.cell? ⟨1, k, none⟩ = some (.int .i64 (tagsG.getD k 0))
theorem TabG.on {w w' : World} (h : TabG w) (hb : Below w.heap.size w w') : TabG w' :=
  ⟨Nat.lt_of_lt_of_le h.1 hb.size, fun k hk => (hb.cell h.1).trans (h.2 k hk)⟩
set_option maxHeartbeats 1600000 in
theorem r_tag (n : Int) (w : World) (ht : TabG w) (hlo : -9223372036854775808 ≤ n) (hhi : n ≤ 9223372036854775807) :
    Calls Tryd.prog 6 #[.int .i64 n] w fun e w' => e = .returned (.tuple #[.int .i64 (gtV n), .int .i64 (gtE n)]) ∧ w' = w := by
  by_cases h1 : n < 1
  · have d1 : decide (n < 1) = true := by simpa using h1
    obtain ⟨e1, e2⟩ := gt_no (.inl h1)
    rw [e1, e2]
    clear e1 e2 ht h1 hlo hhi
    go_enter Tryd.func6, Tryd.ntmps6
    go_wp2
    go_ret2
    exact ⟨rfl, rfl⟩
  have d1 : decide (n < 1) = false := by simpa using h1
  by_cases h2 : 18 < n
  · have d2 : decide (18 < n) = true := by simpa using h2
    obtain ⟨e1, e2⟩ := gt_no (.inr h2)
    rw [e1, e2]
    clear e1 e2 ht h1 h2 hlo hhi
    go_enter Tryd.func6, Tryd.ntmps6
    go_wp2
    go_ret2
    exact ⟨rfl, rfl⟩
  have d2 : decide (18 < n) = false := by simpa using h2
  obtain ⟨k, hk⟩ : ∃ k : Nat, n = (k : Int) + 1 := ⟨(n - 1).toNat, by omega⟩
  have hk18 : k < 18 := by omega
  obtain ⟨e1, e2⟩ := gt_yes hk hk18
  rw [e1, e2]
  have c0 := ht.2 k hk18
  obtain ⟨z, hz⟩ : ∃ z, tagsG.getD k 0 = z := ⟨_, rfl⟩
  rw [hz] at c0 ⊢
  have es : wrap64 (n - 1) = (k : Int) := by unfold wrap64; omega
  have dk : decide ((k : Int) < 18) = true := by simp; omega
  clear e1 e2 ht h1 h2 hz hk hlo hhi
  go_enter Tryd.func6, Tryd.ntmps6
  go_wp2
  go_ret2
  exact ⟨rfl, rfl⟩
set_option maxHeartbeats 1600000 in
theorem r_group (t : Int) (w : World) (ht : TabG w) :
    Calls Tryd.prog 8 #[.int .i64 t] w fun e w' => e = .returned (.tuple #[.int .i64 (ggR t).1, .int .i64 (ggR t).2]) ∧ w' = w := by
  have HT := Lib.hid ht
  obtain ⟨R, hR⟩ : ∃ z, ggR t = z := ⟨_, rfl⟩
  rw [hR]
  have HW := Lib.hid (show ggF t (tagsG.drop 0) ((0 : Nat) : Int) = R from hR)
  clear ht hR
  go_enter Tryd.func8, Tryd.ntmps8
  go_wp2
  go_loop [4] (fun i => ∃ k : Nat, k ≤ 18 ∧ i = .int .i64 (k : Int) ∧ Hid (ggF t (tagsG.drop k) (k : Int) = R)) (fun i => 18 - (intOf i).toNat)
  case atStart => exact ⟨0, by omega, rfl, HW⟩
  case round =>
    obtain ⟨k, hk, rfl, HR⟩ := hrel
    by_cases hlt : k < 18
    · have dk : decide ((k : Int) < 18) = true := by simp; omega
      have c0 := HT.out.2 k hlt
      have hst := ggF_at (t := t) hlt
      rw [HR.out] at hst
      obtain ⟨z, hz⟩ : ∃ z, tagsG.getD k 0 = z := ⟨_, rfl⟩
      rw [hz] at c0 hst
      by_cases he : z = t
      · have de : (z == t) = true := by simpa using he
        rw [if_pos he] at hst
        have HE := Lib.hid hst
        have ea : wrap64 ((k : Int) + 1) = (k : Int) + 1 := by unfold wrap64; omega
        clear hst he hz
        go_wp2
        go_ret2
        exact ⟨by rw [HE.out]; simp [ea], rfl⟩
      · have de : (z == t) = false := by simpa using he
        rw [if_neg he] at hst
        have HE := Lib.hid hst.symm
        clear hst he hz
        go_wp2
        go_round
        case rel => exact ⟨k + 1, by omega, by first | rfl | go_num, HE⟩
        case measure => simp [intOf]; omega
    · obtain rfl : k = 18 := by omega
      have hr : R = (0, 4) := HR.out.symm
      subst hr
      go_wp2
      go_ret2
      exact ⟨rfl, rfl⟩
set_option maxHeartbeats 1600000 in
theorem r_file (n : Int) (w : World) (hlo : -9223372036854775808 ≤ n) (hhi : n ≤ 9223372036854775807) :
    Calls Tryd.prog 10 #[.int .i64 n] w fun e w' => e = .returned (.tuple #[.int .i64 (fiR n).1, .int .i64 (fiR n).2.1, .int .i64 (fiR n).2.2]) ∧ w' = w := by
  by_cases h1 : n < 1
  · have d1 : decide (n < 1) = true := by simpa using h1
    have e1 : fiR n = (0, 0, 3) := by unfold fiR; rw [if_pos (.inl h1)]
    rw [e1]
    clear e1 h1 hlo hhi
    go_enter Tryd.func10, Tryd.ntmps10
    go_wp2
    go_ret3
    exact ⟨rfl, rfl⟩
  have d1 : decide (n < 1) = false := by simpa using h1
  by_cases h2 : 18 < n
  · have d2 : decide (18 < n) = true := by simpa using h2
    have e1 : fiR n = (0, 0, 3) := by unfold fiR; rw [if_pos (.inr h2)]
    rw [e1]
    clear e1 h1 h2 hlo hhi
    go_enter Tryd.func10, Tryd.ntmps10
    go_wp2
    go_ret3
    exact ⟨rfl, rfl⟩
  have d2 : decide (18 < n) = false := by simpa using h2
  by_cases h3 : n = 17
  · subst h3
    clear d1 d2 h1 h2
    rw [show fiR 17 = (286, 30, 0) from rfl]
    go_enter Tryd.func10, Tryd.ntmps10
    go_wp2
    go_ret3
    exact ⟨rfl, rfl⟩
  by_cases h4 : n = 18
  · subst h4
    clear d1 d2 h1 h2
    rw [show fiR 18 = (285, 29, 0) from rfl]
    go_enter Tryd.func10, Tryd.ntmps10
    go_wp2
    go_ret3
    exact ⟨rfl, rfl⟩
  have d3 : (n == 17) = false := by simpa using h3
  have d4 : (n == 18) = false := by simpa using h4
  have e1 : fiR n = (256 + n, n, 0) := by unfold fiR; rw [if_neg (by omega), if_neg h3, if_neg h4]
  rw [e1]
  have es : wrap64 (256 + n) = 256 + n := by unfold wrap64; omega
  clear e1 h1 h2 h3 h4 hlo hhi
  go_enter Tryd.func10, Tryd.ntmps10
  go_wp2
  go_ret3
  exact ⟨by simp [es], rfl⟩
end Go.Proofs.YtkgfdbbdmchmeaaDoor
