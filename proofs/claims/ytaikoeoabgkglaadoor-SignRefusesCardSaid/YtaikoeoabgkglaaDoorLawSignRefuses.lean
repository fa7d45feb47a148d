/-
  What is proved here: for every number and all bytes, numbers out of range and keys that are no elements are refused (the statement SignRefuses), where the tables start as the program's text lays them; no other condition.
-/
import Derived.Test.YtaikoeoabgkglaaDoorOp4
import Derived.Test.YtaikoeoabgkglaaDoorOa
import Derived.Test.YtaikoeoabgkglaaDoorSw
import Derived.Test.YtaikoeoabgkglaaDoorSd
import Derived.Test.YtaikoeoabgkglaaDoorCu
namespace Go.Proofs.YtaikoeoabgkglaaDoor.signRefuses
open Go.ChangeShapes Go.WideShapes Go.ChangeAt Go.RowKit
open Go.ChangeMaps (open_string shut_string)
set_option linter.unusedVariables false

/-- two copies of a signature lie in blocks of their own -/
def TwoR (w : World) (g0 g h : Nat) (e s : Int) (wx : World) : Prop := Below w.heap.size w wx ∧ w.heap.size ≤ g ∧ w.heap.size ≤ h ∧ g ≠ h ∧ g0 ≠ g ∧ g0 ≠ h ∧ RowV wx g0 [.int .i64 e, .int .i64 s] ∧ RowV wx g [.int .i64 e, .int .i64 s] ∧ RowV wx h [.int .i64 e, .int .i64 s]
theorem two_rows {w v : World} {g0 : Nat} {e s : Int} {t : TypeId} (hb : Below w.heap.size w v) (h0 : RowV v g0 [.int .i64 e, .int .i64 s]) : TwoR w g0 v.heap.size (v.heap.size + 1) e s ((v.alloc (.cells #[.int .i64 e, .int .i64 s] t)).alloc (.cells #[.int .i64 e, .int .i64 s] t)).drew := by
  have b1 := below_al v (.cells #[.int .i64 e, .int .i64 s] t)
  have b2 := below_al (v.alloc (.cells #[.int .i64 e, .int .i64 s] t)) (.cells #[.int .i64 e, .int .i64 s] t)
  have r1 := row_al2 v e s t
  have r2 := row_al2 (v.alloc (.cells #[.int .i64 e, .int .i64 s] t)) e s t
  have hs : (v.alloc (.cells #[.int .i64 e, .int .i64 s] t)).heap.size = v.heap.size + 1 := by simp
  have hlt := h0.lt
  have hge := hb.size
  refine ⟨(below_on (below_on hb b1) b2).drew, by omega, by omega, by omega, by omega, by omega, ((h0.on b1).on b2).drew, (r1.on b2).drew, ?_⟩
  rw [hs] at r2
  exact r2.drew
theorem TwoR.swap {w wx : World} {g0 g h : Nat} {e s : Int} (H : TwoR w g0 g h e s wx) : TwoR w g0 h g e s wx := by
  obtain ⟨a, b, c, d, i, j, k, l, m⟩ := H
  exact ⟨a, c, b, d.symm, j, i, k, m, l⟩
/-- the same, a number of each turned -/
def TurnR (w : World) (g0 g h : Nat) (e s : Int) (wx : World) : Prop := Below w.heap.size w wx ∧ RowV wx g0 [.int .i64 e, .int .i64 s] ∧ RowV wx g [.int .i64 (e + 1073741789), .int .i64 s] ∧ RowV wx h [.int .i64 e, .int .i64 (s + 1073741789)]
theorem two_turn {w v : World} {g0 g h : Nat} {e s : Int} (H : TwoR w g0 g h e s v) : TurnR w g0 g h e s ((v.setCell ⟨g, 0, none⟩ (.int .i64 (e + 1073741789))).setCell ⟨h, 1, none⟩ (.int .i64 (s + 1073741789))).drew := by
  obtain ⟨a, b, c, d, i, j, k, l, m⟩ := H
  refine ⟨((a.setCell (p := ⟨g, 0, none⟩) b _).setCell (p := ⟨h, 1, none⟩) c _).drew, ((k.far (a := ⟨g, 0, none⟩) i _).far (a := ⟨h, 1, none⟩) j _).drew, ?_, ?_⟩
  · exact ((l.set 0 _).far (a := ⟨h, 1, none⟩) d _).drew
  · exact ((m.far (a := ⟨g, 0, none⟩) d.symm _).set 1 _).drew
set_option maxRecDepth 40000 in
set_option maxHeartbeats 4000000 in
theorem walk (k : Int) (A : Option Addr) (c : Nat) (x : List UInt8) (w : World) (ht : TabA w) (wk : (Lit.int .i64 k).wf = true) (hs : Sees w w.heap.size A (Us x)) (m : x.length ≤ 140737488351232) (hn : A = none → c = 0) :
    Calls Tryd.prog 7 #[.int .i64 k, .slice A x.length c] w fun e w' => e = .returned (.bool true) ∧ Below w.heap.size w w' := by
  obtain ⟨N, hN⟩ : ∃ N, x.length = N := ⟨_, rfl⟩
  rw [hN] at m ⊢
  have hx : InB w A N c x := ⟨hN, by omega, hn, SeesP.iff_sees.2 hs⟩
  have HB := Lib.hid (Below.refl w.heap.size w)
  have na := fun w => ref_near k w
  have hb1 := near_bd k
  generalize nearZ k = n at *
  have sn : secB n = true := secB_mk hb1.1 (by omega)
  have pu := fun w => ref_public n w
  rw [(pu_yes sn).1, (pu_yes sn).2] at pu
  have p1 := fun (w : World) (hx : InB w A N c x) (ht : TabA w) => sg_sign (k := n) (x := x) (A := A) (a := N) (c := c) (w := w) hx ht
  rw [(sg_yes sn x).2.2] at p1
  have hsm := sg_small sn x
  have hel := pt_el hb1.1 (by omega)
  generalize sgE n x = e at *
  generalize sgS n x = s at *
  generalize pwZ 4 n = p at *
  have hpb := elB_bd hel
  have hpn : p ≠ 1 := fun h => by rw [h, el_one] at hel; cases hel
  have hpl : p ≠ 2147483578 := fun h => by rw [h, el_last] at hel; cases hel
  have hneg : elB (2147483579 - p) = false := by rw [halves (by omega) (by omega), hel]; rfl
  obtain ⟨e1, e2⟩ := smB_yes hsm.1
  obtain ⟨s1, s2⟩ := smB_yes hsm.2
  have q1 := fun (w : World) (hx : InB w A N c x) (ht : TabA w) => sg_verify (p := p) (e := e + 1073741789) (s := s) (x := x) (A := A) (a := N) (c := c) (w := w) hx ht
  have q2 := fun (w : World) (hx : InB w A N c x) (ht : TabA w) => sg_verify (p := p) (e := e) (s := s + 1073741789) (x := x) (A := A) (a := N) (c := c) (w := w) hx ht
  have q3 := fun (w : World) (hx : InB w A N c x) (ht : TabA w) => sg_verify (p := 2147483579 - p) (e := e) (s := s) (x := x) (A := A) (a := N) (c := c) (w := w) hx ht
  have q4 := fun (w : World) (hx : InB w A N c x) (ht : TabA w) => sg_verify (p := p + 2147483579) (e := e) (s := s) (x := x) (A := A) (a := N) (c := c) (w := w) hx ht
  have q5 := fun (w : World) (hx : InB w A N c x) (ht : TabA w) => sg_verify (p := 0) (e := e) (s := s) (x := x) (A := A) (a := N) (c := c) (w := w) hx ht
  rw [vf_e (sm_far e1)] at q1
  rw [vf_s (sm_far s1)] at q2
  rw [vf_key hneg] at q3
  rw [vf_key (el_past (by omega))] at q4
  rw [vf_key el_zero] at q5
  obtain ⟨b1, b2⟩ := hpb
  have H := Lib.hid (And.intro hx ht)
  have HC := Lib.hid (show _ ∧ _ ∧ _ from ⟨na, pu, p1⟩)
  have HV := Lib.hid (show _ ∧ _ ∧ _ ∧ _ ∧ _ from ⟨q1, q2, q3, q4, q5⟩)
  have k1 : IntKind.i64.wrap (e + 1073741789) = e + 1073741789 := IntWalk.i64_in _ (by omega)
  have k2 : IntKind.i64.wrap (s + 1073741789) = s + 1073741789 := IntWalk.i64_in _ (by omega)
  clear ht wk hs hn hx na hb1 sn pu p1 hsm hel hpn hpl hneg q1 q2 q3 q4 q5 hN
  go_enter Tryd.func7, Tryd.ntmps7
  go_upto_region 4 with (first
    | (go_at_call 10; ((with_reducible refine (HC.out.1 _).mono ?_); rintro en w' ⟨rfl, rfl⟩))
    | (go_at_call 14; ((with_reducible refine (HC.out.2.1 _).mono ?_); rintro en w' ⟨rfl, rfl⟩))
    | (go_at_call 8; ((with_reducible refine (HC.out.2.2 _ (H.out.1.on HB.out) (H.out.2.below HB.out)).mono ?_); rintro en v1 ⟨rfl, hb⟩); replace HB := Lib.hid (below_on HB.out hb); clear hb)
    | ((with_reducible refine at_alloc_ (d := 8) ?_); refine wpList_alloc_v (op := ⟨some 8, _, _, _, _, _⟩) rfl 24 rfl [.int .i64 0, .int .i64 0] info_sg ?_; intro g8 a2 hf hr; have HF8 := Lib.hid (And.intro hf hr); clear hf hr)
    | ((with_reducible refine at_store_ (i := 8) ?_); refine wpList_store_v rfl 24 (.tmp 8) (.tmp 23) rfl g8 [.int .i64 0, .int .i64 0] [.int .i64 e, .int .i64 s] rfl rfl HF8.out.2 rfl (one2 _ _) size_sg ?_; intro v3 hw hr; have hb := HF8.out.1.wr_bl hw; replace HB := Lib.hid (below_on HB.out hb); have HR8 := Lib.hid hr; clear hw hr hb HF8))
  go_cut [10, 11] from 25 to 26 (fun v13 v14 wx => ∃ g h : Nat, v13 = .pointer (some ⟨g, 0, none⟩) ∧ v14 = .pointer (some ⟨h, 0, none⟩) ∧ Hid (TwoR w g8 g h e s wx))
  case first =>
    have c0 : v3.cell? ⟨g8, 0, none⟩ = some (.int .i64 e) := HR8.out.cell 0
    have c1 : v3.cell? ⟨g8, 1, none⟩ = some (.int .i64 s) := HR8.out.cell 1
    have c2 := World.new_ne v3 ⟨g8, 0, none⟩ c0
    have c3 := World.new_ne v3 ⟨g8, 1, none⟩ c1
    go_region_held3 (fun w' => w'.cell? ⟨g8, 0, none⟩ = some (.int .i64 e) ∧ w'.cell? ⟨g8, 1, none⟩ = some (.int .i64 s)) (go_keep) (fail)
    · go_wp2_with fail
      go_meet
      exact ⟨_, _, rfl, rfl, Lib.hid (two_rows HB.out HR8.out)⟩
    · go_wp2_with fail
      go_meet
      exact ⟨_, _, rfl, rfl, Lib.hid (two_rows HB.out HR8.out).swap⟩
  case rest =>
    obtain ⟨g, h, rfl, rfl, HT⟩ := hcut
    go_upto_region 5 with fail
    go_cut [] from 27 to 34 (fun wx => Hid (TurnR w g8 g h e s wx))
    case first =>
      have c0 : wc.cell? ⟨g8, 0, none⟩ = some (.int .i64 e) := HT.out.2.2.2.2.2.2.1.cell 0
      have c1 : wc.cell? ⟨g8, 1, none⟩ = some (.int .i64 s) := HT.out.2.2.2.2.2.2.1.cell 1
      have c2 : wc.cell? ⟨g, 0, none⟩ = some (.int .i64 e) := HT.out.2.2.2.2.2.2.2.1.cell 0
      have c3 : wc.cell? ⟨h, 1, none⟩ = some (.int .i64 s) := HT.out.2.2.2.2.2.2.2.2.cell 1
      have f2 : wc.frozen? ⟨g, 0, none⟩ = false := HT.out.2.2.2.2.2.2.2.1.free 0
      have f3 : wc.frozen? ⟨h, 1, none⟩ = false := HT.out.2.2.2.2.2.2.2.2.free 1
      have d1 : g ≠ h := HT.out.2.2.2.1
      have d2 : g8 ≠ g := HT.out.2.2.2.2.1
      have d3 : g8 ≠ h := HT.out.2.2.2.2.2.1
      have d4 : h ≠ g := d1.symm
      have r0 := HT.out.2.2.2.2.2.2.1
      have K1 := cells2 (((r0.far (a := ⟨g, 0, none⟩) d2 (.int .i64 (e + 1073741789)))).drew)
      have K2 := cells2 (((r0.far (a := ⟨h, 1, none⟩) d3 (.int .i64 (s + 1073741789)))).drew)
      have K3 := cells2 ((((r0.far (a := ⟨g, 0, none⟩) d2 (.int .i64 (e + 1073741789)))).far (a := ⟨h, 1, none⟩) d3 (.int .i64 (s + 1073741789))).drew)
      have K4 := cells2 ((((r0.far (a := ⟨h, 1, none⟩) d3 (.int .i64 (s + 1073741789)))).far (a := ⟨g, 0, none⟩) d2 (.int .i64 (e + 1073741789))).drew)
      go_region_held3 (fun w' => w'.cell? ⟨g8, 0, none⟩ = some (.int .i64 e) ∧ w'.cell? ⟨g8, 1, none⟩ = some (.int .i64 s)) (first | exact K1 | exact K2 | exact K3 | exact K4 | go_keep) (fail)
      go_wp2_with fail
      go_meet
      exact Lib.hid (two_turn HT.out)
    case rest =>
      have HB := Lib.hid hcut.out.1
      have R8 := Lib.hid hcut.out.2.1
      have R10 := Lib.hid hcut.out.2.2.1
      have R11 := Lib.hid hcut.out.2.2.2
      clear hcut HT HR8
      go_wp2_with (first
    | (go_at_call 11; ((with_reducible refine (awake _ (H.out.2.below HB.out)).mono ?_); rintro en v1 ⟨rfl, hb⟩); replace R8 := Lib.hid (R8.out.on hb); replace R10 := Lib.hid (R10.out.on hb); replace R11 := Lib.hid (R11.out.on hb); replace HB := Lib.hid (below_on HB.out hb); have xR80 : v1.cell? ⟨g8, 0, none⟩ = some (.int .i64 e) := R8.out.cell 0; have xR81 : v1.cell? ⟨g8, 1, none⟩ = some (.int .i64 s) := R8.out.cell 1; have xR100 : v1.cell? ⟨g, 0, none⟩ = some (.int .i64 (e + 1073741789)) := R10.out.cell 0; have xR101 : v1.cell? ⟨g, 1, none⟩ = some (.int .i64 s) := R10.out.cell 1; have xR110 : v1.cell? ⟨h, 0, none⟩ = some (.int .i64 e) := R11.out.cell 0; have xR111 : v1.cell? ⟨h, 1, none⟩ = some (.int .i64 (s + 1073741789)) := R11.out.cell 1; clear hb)
    | (go_at_call 12; ((with_reducible refine (HV.out.1 _ (H.out.1.on HB.out) (H.out.2.below HB.out)).mono ?_); rintro en v2 ⟨rfl, hb⟩); replace R8 := Lib.hid (R8.out.on hb); replace R10 := Lib.hid (R10.out.on hb); replace R11 := Lib.hid (R11.out.on hb); replace HB := Lib.hid (below_on HB.out hb); clear xR80 xR81 xR100 xR101 xR110 xR111; have xR80 : v2.cell? ⟨g8, 0, none⟩ = some (.int .i64 e) := R8.out.cell 0; have xR81 : v2.cell? ⟨g8, 1, none⟩ = some (.int .i64 s) := R8.out.cell 1; have xR100 : v2.cell? ⟨g, 0, none⟩ = some (.int .i64 (e + 1073741789)) := R10.out.cell 0; have xR101 : v2.cell? ⟨g, 1, none⟩ = some (.int .i64 s) := R10.out.cell 1; have xR110 : v2.cell? ⟨h, 0, none⟩ = some (.int .i64 e) := R11.out.cell 0; have xR111 : v2.cell? ⟨h, 1, none⟩ = some (.int .i64 (s + 1073741789)) := R11.out.cell 1; clear hb)
    | (go_at_call 12; ((with_reducible refine (HV.out.2.1 _ (H.out.1.on HB.out) (H.out.2.below HB.out)).mono ?_); rintro en v3 ⟨rfl, hb⟩); replace R8 := Lib.hid (R8.out.on hb); replace R10 := Lib.hid (R10.out.on hb); replace R11 := Lib.hid (R11.out.on hb); replace HB := Lib.hid (below_on HB.out hb); clear xR80 xR81 xR100 xR101 xR110 xR111; have xR80 : v3.cell? ⟨g8, 0, none⟩ = some (.int .i64 e) := R8.out.cell 0; have xR81 : v3.cell? ⟨g8, 1, none⟩ = some (.int .i64 s) := R8.out.cell 1; have xR100 : v3.cell? ⟨g, 0, none⟩ = some (.int .i64 (e + 1073741789)) := R10.out.cell 0; have xR101 : v3.cell? ⟨g, 1, none⟩ = some (.int .i64 s) := R10.out.cell 1; have xR110 : v3.cell? ⟨h, 0, none⟩ = some (.int .i64 e) := R11.out.cell 0; have xR111 : v3.cell? ⟨h, 1, none⟩ = some (.int .i64 (s + 1073741789)) := R11.out.cell 1; clear hb)
    | (go_at_call 12; ((with_reducible refine (HV.out.2.2.1 _ (H.out.1.on HB.out) (H.out.2.below HB.out)).mono ?_); rintro en v4 ⟨rfl, hb⟩); replace R8 := Lib.hid (R8.out.on hb); replace R10 := Lib.hid (R10.out.on hb); replace R11 := Lib.hid (R11.out.on hb); replace HB := Lib.hid (below_on HB.out hb); clear xR80 xR81 xR100 xR101 xR110 xR111; have xR80 : v4.cell? ⟨g8, 0, none⟩ = some (.int .i64 e) := R8.out.cell 0; have xR81 : v4.cell? ⟨g8, 1, none⟩ = some (.int .i64 s) := R8.out.cell 1; have xR100 : v4.cell? ⟨g, 0, none⟩ = some (.int .i64 (e + 1073741789)) := R10.out.cell 0; have xR101 : v4.cell? ⟨g, 1, none⟩ = some (.int .i64 s) := R10.out.cell 1; have xR110 : v4.cell? ⟨h, 0, none⟩ = some (.int .i64 e) := R11.out.cell 0; have xR111 : v4.cell? ⟨h, 1, none⟩ = some (.int .i64 (s + 1073741789)) := R11.out.cell 1; clear hb)
    | (go_at_call 12; ((with_reducible refine (HV.out.2.2.2.1 _ (H.out.1.on HB.out) (H.out.2.below HB.out)).mono ?_); rintro en v5 ⟨rfl, hb⟩); replace R8 := Lib.hid (R8.out.on hb); replace R10 := Lib.hid (R10.out.on hb); replace R11 := Lib.hid (R11.out.on hb); replace HB := Lib.hid (below_on HB.out hb); clear xR80 xR81 xR100 xR101 xR110 xR111; have xR80 : v5.cell? ⟨g8, 0, none⟩ = some (.int .i64 e) := R8.out.cell 0; have xR81 : v5.cell? ⟨g8, 1, none⟩ = some (.int .i64 s) := R8.out.cell 1; have xR100 : v5.cell? ⟨g, 0, none⟩ = some (.int .i64 (e + 1073741789)) := R10.out.cell 0; have xR101 : v5.cell? ⟨g, 1, none⟩ = some (.int .i64 s) := R10.out.cell 1; have xR110 : v5.cell? ⟨h, 0, none⟩ = some (.int .i64 e) := R11.out.cell 0; have xR111 : v5.cell? ⟨h, 1, none⟩ = some (.int .i64 (s + 1073741789)) := R11.out.cell 1; clear hb)
    | (go_at_call 12; ((with_reducible refine (HV.out.2.2.2.2 _ (H.out.1.on HB.out) (H.out.2.below HB.out)).mono ?_); rintro en v6 ⟨rfl, hb⟩); replace R8 := Lib.hid (R8.out.on hb); replace R10 := Lib.hid (R10.out.on hb); replace R11 := Lib.hid (R11.out.on hb); replace HB := Lib.hid (below_on HB.out hb); clear xR80 xR81 xR100 xR101 xR110 xR111; have xR80 : v6.cell? ⟨g8, 0, none⟩ = some (.int .i64 e) := R8.out.cell 0; have xR81 : v6.cell? ⟨g8, 1, none⟩ = some (.int .i64 s) := R8.out.cell 1; have xR100 : v6.cell? ⟨g, 0, none⟩ = some (.int .i64 (e + 1073741789)) := R10.out.cell 0; have xR101 : v6.cell? ⟨g, 1, none⟩ = some (.int .i64 s) := R10.out.cell 1; have xR110 : v6.cell? ⟨h, 0, none⟩ = some (.int .i64 e) := R11.out.cell 0; have xR111 : v6.cell? ⟨h, 1, none⟩ = some (.int .i64 (s + 1073741789)) := R11.out.cell 1; clear hb))
      go_ret
      exact ⟨rfl, HB.out⟩

/-! ### the given statement, out of the walk -/
set_option maxRecDepth 100000 in
theorem lifted (os : Os) (started : os.Started) (H : Type) (enc : TypeId × Value → H) :
    ReturnsInHanded {} Tryd.checked os 7 .any (fun w args => (Rows.signRefusesSpec.pre enc Tryd.prog Tryd.f7 Rows.signRefusesRow.domain false w args ∧ laidMetH Tryd.prog laidL w) ∧ sizedMet enc Tryd.prog Tryd.f7 (OpenSpec.ofChange Rows.signRefusesSpec) false w args)
      (Rows.signRefusesSpec.post enc Tryd.prog Tryd.f7 false true false false) := by
  refine returnsInHanded_of_change_and (C := Tryd.checked) (X := fun w _ => laidMetH Tryd.prog laidL w) (fun _ _ _ hh h => h.of_heap hh) own started (by kernel_rfl) Tryd.func7
    (ChangeSpec.witness_shaped (enc := enc) (C := Tryd.checked) (os := os) (X := fun w _ => laidMetH Tryd.prog laidL w) false (World.laidAll Tryd.prog os laidL) #[.int .i64 0, .slice none 0 0] 8 (World.laidAll_os _ _ _)
      (World.shaped_of_ZipB (by kernel_rfl) (by kernel_rfl)) (by kernel_rfl) (by kernel_rfl) (by kernel_rfl)
      (by rw [MakeChecks.laidMetH_plain _ _ _ (by kernel_rfl)]; exact laidMet_laidAll _ (by kernel_rfl) (by kernel_rfl))) ?_
  intro W base args ds gs before hval0 hW hcnd hsz0 hL _
  have hsz : (DataW.weightsEach Tryd.prog (Tryd.f7.params.toList ++ Rows.signRefusesSpec.plain.varTypes Tryd.prog) (ds ++ gs)).all (· ≤ reachBytes) = true := hsz0
  have hval : ∀ (j : Nat) t v, Tryd.f7.params[j]? = some t → args[j]? = some v → Value.okWide Tryd.prog W .any base t v := hval0
  have hW' := hW
  obtain ⟨p, q, hA0, hV, rfl, hfz, hnd⟩ := hW
  have hA : DataW.TrodAll enc Tryd.prog W 0 (fun _ => true) true Tryd.f7.params.toList args.toList ds p := hA0
  rw [Tryd.params7] at hA hval hsz
  obtain ⟨v0, vs0, d0, ds0, p0, q0, hargs, rfl, rfl, h0, r0⟩ := trodAll_cons hA
  obtain ⟨v1, vs1, d1, ds1, p1, q1, rfl, rfl, rfl, h1, r1⟩ := trodAll_cons r0
  obtain ⟨rfl, rfl, rfl⟩ := trodAll_nil r1
  obtain rfl : args = #[v0, v1] := by cases args; simp_all
  obtain ⟨rfl, rfl⟩ := trodVars_none hV
  obtain ⟨n0, rfl, rfl, rfl, w0⟩ := open_int Tryd.underlying3 (hval 0 3 v0 rfl rfl) h0
  obtain ⟨a1, len1, cap1, rfl⟩ := okWide_slice Tryd.underlying22 (hval 1 22 v1 rfl rfl)
  have lt1 : ∀ x ∈ p1, x.block < W.heap.size := by obtain ⟨m, hm⟩ := h1; exact DataW.trod_lt m _ _ _ hm
  obtain ⟨x1, rfl, see1, hl1, nn1, hc1⟩ := open_u8s h1 lt1
  have m1 := reach_u8s hsz (j := 1) rfl rfl hl1 hc1
  clear hA0 hval0
  refine (walk n0 a1 cap1 x1 W (of_laid hL) w0 see1 m1 nn1).mono fun e W' ⟨he, bel⟩ => ?_
  subst he
  exact ⟨_, rfl, _, _, _, [], _, [], hW', trodAll_mk1 (shut_bool Tryd.underlying4 _), (trodAll_cons_mk (shut_int Tryd.underlying3 w0) (trodAll_cons_mk (Below.trod laidOut (by kernel_rfl) (of_decide_eq_true (by kernel_rfl)) h1 bel lt1) trodAll_mk0)), rfl, bel.frame _, fun h => by cases h⟩

theorem said : Rows.SignRefusesSaid :=
  OpenClaim.holds_of_wide 7 Tryd.f7 rfl rfl rfl rfl rfl rfl rfl ⟨rfl, rfl, rfl, rfl, rfl⟩ rfl rfl rfl rfl rfl (by kernel_rfl) Tryd.func7 (by kernel_rfl)
    (of_decide_eq_true (by kernel_rfl)) (by unfold Func.isWrapper; first | (rw [if_pos (by decide +kernel)]; kernel_rfl) | (rw [if_neg (by decide +kernel)]; exact ⟨rfl, rfl⟩))
    (fun os started H enc _ => lifted os started H enc)
theorem proved : Rows.SignRefusesCardSaid :=
  Claim7.holds_tied_plain_at .later [] laidKinds true Rows.signRefusesCard.stood.harness false
    said (fun _ h => by cases h) (by kernel_rfl) (fun _ h => by cases h) signRefuses_row_tie rfl ⟨rfl, rfl⟩ (by kernel_rfl) rfl
    (fun f fn hf hfn => by
      obtain rfl : f = 7 := Option.some.inj ((show Tryd.prog.funcNamed "traveldoc/traveldoclaw09.SignRefuses" = some 7 by kernel_rfl).symm.trans hf) |>.symm
      obtain rfl : fn = Tryd.f7 := (Option.some.inj (Tryd.func7.symm.trans hfn)).symm
      exact ⟨by kernel_rfl, fun j t ht => by
        rw [Tryd.params7] at ht
        have hm : t ∈ [3, 22] := by simpa using Array.mem_of_getElem? ht
        have hall : ([3, 22].all fun u => !Tryd.prog.wantsStandIn u) = true := by kernel_rfl
        exact (show Tryd.prog.wantsStandIn t = false by simpa using List.all_eq_true.1 hall t hm)⟩)
    (by kernel_rfl)
end Go.Proofs.YtaikoeoabgkglaaDoor.signRefuses
