/-
  What is proved here: that the statements' own check 'awake' (of the ninth layer) returns true; what the reference's Near and Public answer, as the laws need it.
-/
import Derived.Test.YtaikoeoabgkglaaDoorSs
import Derived.Test.YtaikoeoabgkglaaDoorSv
import Derived.Lib.SlBytesConst
namespace Go.Proofs.YtaikoeoabgkglaaDoor
open Go.RowKit
set_option linter.unusedVariables false

theorem inB_lit (w : World) (t : TypeId) (fr : Nat × Nat) : InB (w.alloc (.cells #[.int .u8 97] t fr)) (some ⟨w.heap.size, 0, none⟩) 1 1 [97] := ⟨rfl, by decide, (fun e => by cases e), sees_lit w [97] t fr⟩
theorem sec5 : secB 5 = true := rfl
theorem pu5 : puV 5 = pwZ 4 5 ∧ puE 5 = 0 := pu_yes sec5
theorem el1f : elB 1 = false := el_one
set_option maxHeartbeats 1000000 in
theorem awake_of {e s p : Int} (w : World) (ht : TabA w) (hs : ∀ (w : World) (A : Option Addr), InB w A 1 1 [97] → TabA w → Calls Tryd.prog 8 #[.int .i64 5, .slice A 1 1] w (GvS w e s 0))
    (hp : ∀ (w : World), Calls Tryd.prog 14 #[.int .i64 5] w fun e w' => e = .returned (.tuple #[.int .i64 p, .int .i64 0]) ∧ w = w')
    (hv : ∀ (w : World) (A : Option Addr), InB w A 1 1 [97] → TabA w → Calls Tryd.prog 12 #[.int .i64 p, .slice A 1 1, .agg #[.int .i64 e, .int .i64 s]] w (GvT w true))
    (hn : ∀ (w : World) (A : Option Addr), InB w A 1 1 [97] → TabA w → Calls Tryd.prog 12 #[.int .i64 1, .slice A 1 1, .agg #[.int .i64 e, .int .i64 s]] w (GvT w false)) :
    Calls Tryd.prog 11 #[] w (GvT w true) := by
  have H := Lib.hid (show _ ∧ _ ∧ _ ∧ _ ∧ _ from ⟨ht, hs, hp, hv, hn⟩)
  clear ht hs hp hv hn
  have kc := fun (w : World) (C : Array Value) (n c : Nat) => Lib.run_convert_bytes_const (P := Tryd.prog) w 22 5 C n c Tryd.underlying22 Tryd.underlying5
  go_enter Tryd.func11, Tryd.ntmps11
  go_wp2_with (first
    | (go_at_call 8; ((with_reducible refine (H.out.2.1 _ _ (inB_lit _ _ _) (H.out.1.below (below_al w _))).mono ?_); rintro en w1 ⟨rfl, b1⟩); have H1 := Lib.hid (below_on (below_al w _) b1); clear b1)
    | (refine wpList_alloc_v (op := ⟨some 1, _, _, _, _, _⟩) rfl 24 rfl [.int .i64 0, .int .i64 0] info_sg ?_; intro g1 w2 hf1 hr1; have HF := Lib.hid (And.intro hf1 hr1); clear hf1 hr1)
    | (refine wpList_store_v rfl 24 (.tmp 1) (.tmp 9) rfl g1 [.int .i64 0, .int .i64 0] [.int .i64 e, .int .i64 s] rfl rfl HF.out.2 rfl (one2 _ _) size_sg ?_; intro w3 hw3 hr3; have H3 := Lib.hid (show Below w.heap.size w w3 ∧ RowV w3 g1 [.int .i64 e, .int .i64 s] from ⟨below_on H1.out (HF.out.1.wr_bl hw3), hr3⟩); have c0 : (w3.alloc (.cells #[.int .u8 97] 5 (1, 2))).cell? ⟨g1, 0, none⟩ = some (.int .i64 e) := (hr3.on (below_al w3 _)).cell 0; have c1 : (w3.alloc (.cells #[.int .u8 97] 5 (1, 2))).cell? ⟨g1, 1, none⟩ = some (.int .i64 s) := (hr3.on (below_al w3 _)).cell 1; clear hw3 hr3)
    | (go_at_call 14; ((with_reducible refine (H.out.2.2.1 _).mono ?_); rintro en w' ⟨rfl, rfl⟩))
    | (go_at_call 12; ((with_reducible refine (H.out.2.2.2.1 _ _ (inB_lit _ _ _) (H.out.1.below (below_on H3.out.1 (below_al w3 _)))).mono ?_); rintro en w4 ⟨rfl, b4⟩); have H4 := Lib.hid (show Below w.heap.size w w4 from below_on H3.out.1 (below_on (below_al w3 _) b4)); have d0 : (w4.alloc (.cells #[.int .u8 97] 5 (1, 2))).cell? ⟨g1, 0, none⟩ = some (.int .i64 e) := ((H3.out.2.on (below_on (below_al w3 _) b4)).on (below_al w4 _)).cell 0; have d1 : (w4.alloc (.cells #[.int .u8 97] 5 (1, 2))).cell? ⟨g1, 1, none⟩ = some (.int .i64 s) := ((H3.out.2.on (below_on (below_al w3 _) b4)).on (below_al w4 _)).cell 1; clear b4)
    | (go_at_call 12; ((with_reducible refine (H.out.2.2.2.2 _ _ (inB_lit _ _ _) (H.out.1.below (below_on H4.out (below_al w4 _)))).mono ?_); rintro en w5 ⟨rfl, b5⟩); have H5 := Lib.hid (show Below w.heap.size w w5 from below_on H4.out (below_on (below_al w4 _) b5)); clear b5))
  go_ret
  exact ⟨rfl, H5.out⟩
theorem awake_s (w : World) (A : Option Addr) (hx : InB w A 1 1 [97]) (ht : TabA w) : Calls Tryd.prog 8 #[.int .i64 5, .slice A 1 1] w (GvS w (sgE 5 [97]) (sgS 5 [97]) 0) := by
  have h := sg_sign (k := 5) (x := [97]) (A := A) (a := 1) (c := 1) (w := w) hx ht
  rwa [(sg_yes sec5 [97]).2.2] at h
theorem awake_p (w : World) : Calls Tryd.prog 14 #[.int .i64 5] w fun e w' => e = .returned (.tuple #[.int .i64 (pwZ 4 5), .int .i64 0]) ∧ w = w' := by
  have h := ref_public 5 w
  rwa [pu5.1, pu5.2] at h
theorem awake_v (w : World) (A : Option Addr) (hx : InB w A 1 1 [97]) (ht : TabA w) : Calls Tryd.prog 12 #[.int .i64 (pwZ 4 5), .slice A 1 1, .agg #[.int .i64 (sgE 5 [97]), .int .i64 (sgS 5 [97])]] w (GvT w true) := by
  have h := sg_verify (p := pwZ 4 5) (e := sgE 5 [97]) (s := sgS 5 [97]) (x := [97]) (A := A) (a := 1) (c := 1) (w := w) hx ht
  rwa [vf_made sec5 [97]] at h
theorem awake_n (w : World) (A : Option Addr) (hx : InB w A 1 1 [97]) (ht : TabA w) : Calls Tryd.prog 12 #[.int .i64 1, .slice A 1 1, .agg #[.int .i64 (sgE 5 [97]), .int .i64 (sgS 5 [97])]] w (GvT w false) := by
  have h := sg_verify (p := 1) (e := sgE 5 [97]) (s := sgS 5 [97]) (x := [97]) (A := A) (a := 1) (c := 1) (w := w) hx ht
  rwa [vf_key el1f] at h
theorem awake (w : World) (ht : TabA w) : Calls Tryd.prog 11 #[] w (GvT w true) := awake_of w ht awake_s awake_p awake_v awake_n
end Go.Proofs.YtaikoeoabgkglaaDoor
