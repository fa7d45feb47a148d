/-
  What is proved here: what Verify of package sign answers, for all numbers and all bytes, where the digest's tables lie in memory.
-/
import Derived.Test.YtaikoeoabgkglaaDoorSh
import Derived.Test.YtaikoeoabgkglaaDoorQb
namespace Go.Proofs.YtaikoeoabgkglaaDoor
open Go.RowKit
set_option linter.unusedVariables false

/-- whether a signature is right -/
def vfB (p : Int) (x : List UInt8) (e s : Int) : Bool := elB p && (smB e && smB s) && (e == chZ (rvZ p e s) x)
def GvT (w : World) (b : Bool) (en : Ending) (w' : World) : Prop := en = .returned (.bool b) ∧ Below w.heap.size w w'
set_option maxHeartbeats 1000000 in
theorem sg_verify {p e s : Int} {x : List UInt8} {A : Option Addr} {a c : Nat} {w : World} (hx : InB w A a c x) (ht : TabA w) :
    Calls Tryd.prog 12 #[.int .i64 p, .slice A a c, .agg #[.int .i64 e, .int .i64 s]] w (GvT w (vfB p x e s)) := by
  have he := fun w => grp_element p w
  by_cases hp : elB p = true
  · rw [hp] at he
    have hi := fun w => in_range e s w
    by_cases hr : (smB e && smB s) = true
    · obtain ⟨r, hrz⟩ : ∃ r, r = rvZ p e s := ⟨_, rfl⟩
      obtain ⟨ch, hch⟩ : ∃ ch, ch = chZ r x := ⟨_, rfl⟩
      have HV := Lib.hid (show vfB p x e s = (e == ch) from by unfold vfB; rw [hp, hr, hch, hrz]; rfl)
      rw [hr] at hi
      rw [Bool.and_eq_true] at hr
      have c1 := fun (w : World) => signed_power hp hr.1 hr.2 w
      rw [← hrz] at c1
      have hrb := rvZ_bd p e s
      rw [← hrz] at hrb
      have c2 := fun (w : World) (hx : InB w A a c x) (ht : TabA w) => sg_challenge (r := r) (x := x) (A := A) (a := a) (c := c) (w := w) hrb.1 (by omega) hx ht
      rw [← hch] at c2
      have H := Lib.hid (show _ ∧ _ ∧ _ ∧ _ ∧ _ ∧ _ from ⟨hx, ht, he, hi, c1, c2⟩)
      clear hx ht he hi c1 c2 hrz hch hrb hp hr
      go_enter Tryd.func12, Tryd.ntmps12
      go_wp2_with (first
        | (go_at_call 31; ((with_reducible refine (H.out.2.2.1 _).mono ?_); rintro en w' ⟨rfl, rfl⟩))
        | (go_at_call 33; ((with_reducible refine (numbers_of e s _).mono ?_); rintro en w1 ⟨rfl, b1⟩); have H1 := Lib.hid (show Below w.heap.size w w1 ∧ RowV w1 w.heap.size [.int .i64 e, .int .i64 s] from ⟨below_on (below_al w _) b1, (row_al2 w e s _).on b1⟩); clear b1)
        | (go_at_call 32; ((with_reducible refine (H.out.2.2.2.1 _).mono ?_); rintro en w2 ⟨rfl, b2⟩); have H2 := Lib.hid (show Below w.heap.size w w2 ∧ RowV w2 w.heap.size [.int .i64 e, .int .i64 s] from ⟨below_on H1.out.1 b2, H1.out.2.on b2⟩); clear b2))
      have q1 := quiet_up (w := w2) fun w' _ => H.out.2.2.2.2.1 w'
      have q2 := quiet_up (w := w2) fun w' hb => H.out.2.2.2.2.2 w' ((H.out.1.on H2.out.1).on hb) ((H.out.2.1.below H2.out.1).below hb)
      have l0 := H2.out.2.quiet (k := 0) rfl
      have l1 := H2.out.2.quiet (k := 1) rfl
      refine wp_region_quiet_below (by kernel_rfl) (by kernel_rfl) ?_
      repeat (quiet_step (first | exact q1 _ _ | exact q2 _ _))
      refine wpQuiet_nil ?_
      intro w3 hw3
      have H3 := Lib.hid (below_on H2.out.1 (below_of_regrown hw3))
      clear hw3 q1 q2 l0 l1
      go_wp2
      go_ret
      rw [HV.out]
      exact ⟨rfl, H3.out⟩
    · have hf : (smB e && smB s) = false := by simpa using hr
      have HV := Lib.hid (show vfB p x e s = false from by unfold vfB; rw [hf, Bool.and_false, Bool.false_and])
      rw [hf] at hi
      have H := Lib.hid (show _ ∧ _ from ⟨he, hi⟩)
      clear hx ht he hi hp hr hf
      go_enter Tryd.func12, Tryd.ntmps12
      go_wp2_with (first
        | (go_at_call 31; ((with_reducible refine (H.out.1 _).mono ?_); rintro en w' ⟨rfl, rfl⟩))
        | (go_at_call 33; ((with_reducible refine (numbers_of e s _).mono ?_); rintro en w1 ⟨rfl, b1⟩); have H1 := Lib.hid (below_on (below_al w _) b1); clear b1)
        | (go_at_call 32; ((with_reducible refine (H.out.2 _).mono ?_); rintro en w2 ⟨rfl, b2⟩); have H2 := Lib.hid (below_on H1.out b2); clear b2))
      go_ret
      rw [HV.out]
      exact ⟨rfl, H2.out⟩
  · have hf : elB p = false := by simpa using hp
    have HV := Lib.hid (show vfB p x e s = false from by unfold vfB; rw [hf, Bool.false_and, Bool.false_and])
    rw [hf] at he
    have H := Lib.hid he
    clear hx ht he hp hf
    go_enter Tryd.func12, Tryd.ntmps12
    go_wp2_with (go_at_call 31; ((with_reducible refine (H.out _).mono ?_); rintro en w' ⟨rfl, rfl⟩))
    go_ret
    rw [HV.out]
    exact ⟨rfl, below_al w _⟩
end Go.Proofs.YtaikoeoabgkglaaDoor
