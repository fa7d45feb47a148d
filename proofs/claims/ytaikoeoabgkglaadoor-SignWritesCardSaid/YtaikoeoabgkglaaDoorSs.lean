/-
  What is proved here: what the reference's Verify of the ninth layer answers, for all numbers and all bytes, where the digest's tables lie in memory; that the statements' own check 'awake' returns true.
-/
import Derived.Test.YtaikoeoabgkglaaDoorSr
namespace Go.Proofs.YtaikoeoabgkglaaDoor
open Go.RowKit
set_option linter.unusedVariables false

theorem mu_valZ {x y : Int} (x0 : 0 ≤ x) (x1 : x < 2147483579) (y0 : 0 ≤ y) (y1 : y < 2147483579) : (wrap64 (x * y)).tmod 2147483579 = muZ x y := by
  obtain ⟨a, rfl⟩ := Int.eq_ofNat_of_zero_le x0
  obtain ⟨b, rfl⟩ := Int.eq_ofNat_of_zero_le y0
  rw [mu_val a b (by omega) (by omega)]
  rfl
set_option maxHeartbeats 1000000 in
theorem ref_verify {p e s : Int} {x : List UInt8} {A : Option Addr} {a c : Nat} {w : World} (hx : InB w A a c x) (ht : TabR w) :
    Calls Tryd.prog 13 #[.int .i64 p, .slice A a c, .agg #[.int .i64 e, .int .i64 s]] w (GvT w (vfB p x e s)) := by
  have he := fun w => ref_element p w
  have hs1 := fun w => ref_small e w
  have hs2 := fun w => ref_small s w
  by_cases hp : elB p = true
  · rw [hp] at he
    by_cases hr : smB e = true
    · rw [hr] at hs1
      by_cases hr2 : smB s = true
      · rw [hr2] at hs2
        obtain ⟨r, hrz⟩ : ∃ r, r = rvZ p e s := ⟨_, rfl⟩
        obtain ⟨ch, hch⟩ : ∃ ch, ch = chZ r x := ⟨_, rfl⟩
        have HV := Lib.hid (show vfB p x e s = (e == ch) from by unfold vfB; rw [hp, hr, hr2, hch, hrz]; rfl)
        obtain ⟨e1, e2⟩ := smB_yes hr
        obtain ⟨s1, s2⟩ := smB_yes hr2
        obtain ⟨b1, b2⟩ := elB_bd hp
        have c1 := fun (w : World) => ref_pow 4 s w (by decide) (by decide) (by omega) (by omega)
        have c2 := fun (w : World) => ref_pow p (1073741789 - e) w (by omega) (by omega) (by omega) (by omega)
        have x1 := pwZ_bd 4 s
        have y1 := pwZ_bd p (1073741789 - e)
        have hmz := mu_valZ x1.1 x1.2 y1.1 y1.2
        have HR := Lib.hid (show (IntKind.i64.wrap (pwZ 4 s * pwZ p (1073741789 - e))).tmod 2147483579 = r from by rw [hrz, IntWalk.i64_left]; exact hmz)
        have hrb := rvZ_bd p e s
        rw [← hrz] at hrb
        have c3 := fun (w : World) (hx : InB w A a c x) (ht : TabR w) => ref_challenge (r := r) (x := x) (A := A) (a := a) (c := c) (w := w) hrb.1 (by omega) hx ht
        rw [← hch] at c3
        generalize pwZ 4 s = u at *
        generalize pwZ p (1073741789 - e) = v at *
        have H := Lib.hid (show _ ∧ _ ∧ _ ∧ _ ∧ _ from ⟨hx, ht, he, hs1, hs2⟩)
        have HC := Lib.hid (show _ ∧ _ ∧ _ from ⟨c1, c2, c3⟩)
        have k1 : IntKind.i64.wrap (1073741789 - e) = 1073741789 - e := IntWalk.i64_in _ (by omega)
        clear hx ht he hs1 hs2 c1 c2 c3 hrz hch hrb hp hr hr2 hmz x1 y1
        go_enter Tryd.func13, Tryd.ntmps13
        go_wp2_with (first
          | (go_at_call 35; ((with_reducible refine (H.out.2.2.1 _).mono ?_); rintro en w' ⟨rfl, rfl⟩))
          | (go_at_call 36; ((with_reducible refine (H.out.2.2.2.1 _).mono ?_); rintro en w' ⟨rfl, rfl⟩))
          | (go_at_call 36; ((with_reducible refine (H.out.2.2.2.2 _).mono ?_); rintro en w' ⟨rfl, rfl⟩)))
        obtain ⟨w2, hw2⟩ : ∃ w2, w2 = w.alloc (.cells #[.int .i64 e, .int .i64 s] 24) := ⟨_, rfl⟩
        have H2 := Lib.hid (show Below w.heap.size w w2 ∧ RowV w2 w.heap.size [.int .i64 e, .int .i64 s] from by rw [hw2]; exact ⟨below_al w _, row_al2 w e s _⟩)
        rw [← hw2]
        clear hw2
        have q1 := quiet_still (w := w2) HC.out.1
        have q2 := quiet_still (w := w2) HC.out.2.1
        have l0 := H2.out.2.quiet (k := 0) rfl
        have l1 := H2.out.2.quiet (k := 1) rfl
        refine wp_region_quiet_below (by kernel_rfl) (by kernel_rfl) ?_
        repeat (quiet_step (first | with_reducible exact q1 _ _ | with_reducible exact q2 _ _))
        refine wpQuiet_nil ?_
        intro w3 hw3
        have H3 := Lib.hid (show Below w.heap.size w w3 ∧ RowV w3 w.heap.size [.int .i64 e, .int .i64 s] from ⟨below_on H2.out.1 (below_of_regrown hw3), H2.out.2.on (below_of_regrown hw3)⟩)
        clear hw3 q1 q2 l0 l1
        rw [HR.out]
        go_wp2
        have q3 := quiet_up (w := w3) fun w' hb => HC.out.2.2 w' ((H.out.1.on H3.out.1).on hb) ((H.out.2.1.below H3.out.1).below hb)
        have l0 := H3.out.2.quiet (k := 0) rfl
        refine wp_region_quiet_below (by kernel_rfl) (by kernel_rfl) ?_
        repeat (quiet_step (with_reducible exact q3 _ _))
        refine wpQuiet_nil ?_
        intro w4 hw4
        have H4 := Lib.hid (below_on H3.out.1 (below_of_regrown hw4))
        clear hw4 q3 l0
        go_wp2
        go_ret
        rw [HV.out]
        exact ⟨rfl, H4.out⟩
      · have hf : smB s = false := by simpa using hr2
        have HV := Lib.hid (show vfB p x e s = false from by unfold vfB; rw [hf, Bool.and_false, Bool.and_false, Bool.false_and])
        rw [hf] at hs2
        have H := Lib.hid (show _ ∧ _ ∧ _ from ⟨he, hs1, hs2⟩)
        clear hx ht he hs1 hs2 hp hr hr2 hf
        go_enter Tryd.func13, Tryd.ntmps13
        go_wp2_with (first
          | (go_at_call 35; ((with_reducible refine (H.out.1 _).mono ?_); rintro en w' ⟨rfl, rfl⟩))
          | (go_at_call 36; ((with_reducible refine (H.out.2.1 _).mono ?_); rintro en w' ⟨rfl, rfl⟩))
          | (go_at_call 36; ((with_reducible refine (H.out.2.2 _).mono ?_); rintro en w' ⟨rfl, rfl⟩)))
        go_ret
        rw [HV.out]
        exact ⟨rfl, below_al w _⟩
    · have hf : smB e = false := by simpa using hr
      have HV := Lib.hid (show vfB p x e s = false from by unfold vfB; rw [hf, Bool.false_and, Bool.and_false, Bool.false_and])
      rw [hf] at hs1
      have H := Lib.hid (show _ ∧ _ from ⟨he, hs1⟩)
      clear hx ht he hs1 hs2 hp hr hf
      go_enter Tryd.func13, Tryd.ntmps13
      go_wp2_with (first
        | (go_at_call 35; ((with_reducible refine (H.out.1 _).mono ?_); rintro en w' ⟨rfl, rfl⟩))
        | (go_at_call 36; ((with_reducible refine (H.out.2 _).mono ?_); rintro en w' ⟨rfl, rfl⟩)))
      go_ret
      rw [HV.out]
      exact ⟨rfl, below_al w _⟩
  · have hf : elB p = false := by simpa using hp
    have HV := Lib.hid (show vfB p x e s = false from by unfold vfB; rw [hf, Bool.false_and, Bool.false_and])
    rw [hf] at he
    have H := Lib.hid he
    clear hx ht he hs1 hs2 hp hf
    go_enter Tryd.func13, Tryd.ntmps13
    go_wp2_with (go_at_call 35; ((with_reducible refine (H.out _).mono ?_); rintro en w' ⟨rfl, rfl⟩))
    go_ret
    rw [HV.out]
    exact ⟨rfl, below_al w _⟩
end Go.Proofs.YtaikoeoabgkglaaDoor
