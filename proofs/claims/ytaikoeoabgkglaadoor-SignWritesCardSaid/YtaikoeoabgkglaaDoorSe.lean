/-
  What is proved here: what Encode and Decode of package sign and of the reference's ninth layer answer, for all numbers and all bytes that lie in memory.
-/
import Derived.Test.YtaikoeoabgkglaaDoorSr
import Derived.Test.YtaikoeoabgkglaaDoorN4
namespace Go.Proofs.YtaikoeoabgkglaaDoor
open Go.RowKit
set_option linter.unusedVariables false

def enB (e s : Int) : Bool := smB e && smB s
def ecN (e s : Int) : Nat := if enB e s = true then 8 else 0
def ecX (e s : Int) : List UInt8 := if enB e s = true then four e.toNat ++ four s.toNat else []
def ecC (e s : Int) : Int := if enB e s = true then 0 else 3
theorem ec_yes {e s : Int} (h : enB e s = true) : ecN e s = 8 ∧ ecX e s = four e.toNat ++ four s.toNat ∧ ecC e s = 0 := by simp [ecN, ecX, ecC, h]
theorem ec_no {e s : Int} (h : enB e s = false) : ecN e s = 0 ∧ ecX e s = [] ∧ ecC e s = 3 := by simp [ecN, ecX, ecC, h]
/-- a call that hands back n bytes and a code -/
def GivesJ (w : World) (n : Nat) (x : List UInt8) (er : Int) (en : Ending) (w' : World) : Prop := ∃ A c, en = .returned (.tuple #[.slice A n c, .int .i64 er]) ∧ InB w' A n c x ∧ n ≤ c ∧ Below w.heap.size w w'
theorem InB.nil_ {w : World} : InB w none 0 0 [] := ⟨rfl, by decide, fun _ => rfl, .inl rfl⟩
theorem four2_len (e s : Nat) : (four e ++ four s).length = 8 := by rw [List.length_append, four_len, four_len]

/-- what Encode's loop keeps -/
def enTo (e s : Int) : Nat → List UInt8
  | 0 => []
  | 1 => four e.toNat
  | _ => four e.toNat ++ four s.toNat
def EnR (w : World) (e s : Int) (k : Nat) (v : Value) (wr : World) : Prop := wr.ownsRow w.heap.size 5 1 v (4 * k) (Us (enTo e s k)) ∧ Below w.heap.size w wr
theorem EnR.next {w wr w2 w3 : World} {e s : Int} {k : Nat} {v v' : Value} {y : List UInt8} (h : EnR w e s k v wr) (hy : enTo e s k ++ y = enTo e s (k + 1)) (hb : Below wr.heap.size wr w2) (ho : w3.ownsRow w.heap.size 5 1 v' (4 * k + 4) (Us (enTo e s k) ++ Us y)) (hg : w2.grownBy w3 v.ownBlock) : EnR w e s (k + 1) v' w3 := by
  refine ⟨?_, below_own (below_on h.2 hb) (own_on h.1 hb) hg⟩
  rw [← hy, Us_append]
  exact ho
theorem EnR.done {w wr : World} {e s : Int} {B : Option Addr} {c : Nat} (h : EnR w e s 2 (.slice B 8 c) wr) : GivesJ w 8 (four e.toNat ++ four s.toNat) 0 (.returned (.tuple #[.slice B 8 c, .int .i64 0])) wr := by
  have h1 := mk_own (w := w) (l := four e.toNat ++ four s.toNat) h.1 h.2 (by rw [four2_len])
  obtain ⟨A, c2, he, h2, h3, h4, h5⟩ := mkN_of (four2_len _ _) h1
  injection he with he
  injection he with ha _ hc
  subst ha hc
  exact ⟨B, c, rfl, ⟨four2_len _ _, by decide, h3, h4⟩, h2, h5⟩
set_option maxRecDepth 40000 in
set_option maxHeartbeats 1000000 in
theorem sg_encode (e s : Int) (w : World) : Calls Tryd.prog 16 #[.agg #[.int .i64 e, .int .i64 s]] w (GivesJ w (ecN e s) (ecX e s) (ecC e s)) := by
  obtain ⟨i0, hi, hz0, hz1, hz2⟩ := info_parts info_u8g
  have hr := fun w => in_range e s w
  by_cases hb : enB e s = true
  · obtain ⟨v1, v2, v3⟩ := ec_yes hb
    rw [v1, v2, v3]
    rw [show (smB e && smB s) = true from hb] at hr
    have hb2 := hb
    rw [enB, Bool.and_eq_true] at hb2
    obtain ⟨e1, e2⟩ := smB_yes hb2.1
    obtain ⟨s1, s2⟩ := smB_yes hb2.2
    have HR := Lib.hid hr
    have J0 := idx2_0 e s
    have J1 := idx2_1 e s
    clear v1 v2 v3 hb hb2 hr
    go_enter Tryd.func16, Tryd.ntmps16
    go_wp2_with (first
      | (go_at_call 33; ((with_reducible refine (numbers_of e s _).mono ?_); rintro en w1 ⟨rfl, b1⟩); have H1 := Lib.hid (below_on (below_al w _) b1); clear b1)
      | (refine wpList_alloc_v (op := ⟨some 4, _, _, _, _, _⟩) rfl 50 rfl [.int .i64 0, .int .i64 0] info_n2 ?_; intro g2 w2 hf2 hr2; have H2 := Lib.hid (show Below w.heap.size w w2 ∧ w.heap.size ≤ g2 ∧ RowV w2 g2 _ from ⟨hf2.bl H1.out, hf2.ge H1.out, hr2⟩); clear hf2 hr2)
      | (refine wpList_store_v rfl 50 (.tmp 4) (.tmp 9) rfl g2 [.int .i64 0, .int .i64 0] [.int .i64 e, .int .i64 s] rfl rfl H2.out.2.2 rfl (one2 e s) size_n2 ?_; intro w3 hw3 hr3; have H3 := Lib.hid (show Below w.heap.size w w3 ∧ RowV w3 g2 _ from ⟨hw3.bl H2.out.1 H2.out.2.1, hr3⟩); clear hw3 hr3)
      | (refine wpList_load_v (op := ⟨some 10, _, _, _, _, _⟩) rfl 50 (.tmp 4) rfl g2 rfl [.int .i64 e, .int .i64 s] (.array 2 3) H3.out.2 Tryd.underlying50 rfl size_n2 ?_)
      | (go_at_call 32; ((with_reducible refine (HR.out _).mono ?_); rintro en w4 ⟨rfl, b4⟩); have H4 := Lib.hid (show Below w.heap.size w w4 ∧ RowV w4 g2 _ from ⟨below_on H3.out.1 b4, H3.out.2.on b4⟩); clear b4)
      | (at_make; refine wpList_make_own _ rfl _ _ 22 rfl w.heap.size 5 i0 (.int .u8 0) 1 Tryd.underlying22 hi hz0 hz1 _ _ _ 8 rfl rfl (by simp) (by rw [hz2]; omega) (by unfold maxLen; omega) H4.out.1.size ?_; intro w5 hown hg; have H5 := Lib.hid (show EnR w e s 0 _ w5 ∧ RowV w5 g2 _ from ⟨⟨hown, H4.out.1.grown hg H4.out.1.size (by simp)⟩, H4.out.2.on ((Below.refl _ _).grown hg (Nat.le_refl _) (by simp))⟩); clear hown hg)
      | (refine wpList_load_v (op := ⟨some 14, _, _, _, _, _⟩) rfl 50 (.tmp 4) rfl g2 rfl [.int .i64 e, .int .i64 s] (.array 2 3) H5.out.2 Tryd.underlying50 rfl size_n2 ?_))
    go_loopw [5, 15] (fun v i wr => ∃ k : Nat, k ≤ 2 ∧ i = .int .i64 (k : Int) ∧ Hid (EnR w e s k v wr)) (fun _ i _ => 2 - (intOf i).toNat)
    case atStart => exact ⟨0, by omega, rfl, Lib.hid H5.out.1⟩
    case round =>
      obtain ⟨k, hk, rfl, HK⟩ := hrel
      obtain ⟨B, cB, rfl⟩ := own_len HK.out.1
      rcases Nat.lt_or_ge k 1 with h | h
      · obtain rfl : k = 0 := by omega
        clear h hk
        go_wp2_with (first
          | (go_at_call 37; ((with_reducible refine (sg_four e1 (by omega)).mono ?_); rintro en w6 ⟨A6, c6, rfl, i6, b6⟩); have H6 := Lib.hid (show _ ∧ _ from ⟨i6, b6⟩); clear i6 b6)
          | (at_builtin; refine app_bytes rfl (.tmp 18) (.tmp 20) 22 rfl w.heap.size 5 i0 (.int .u8 0) Tryd.underlying22 hi hz0 hz1 hz2 rfl (.slice B (4 * 0) cB) (4 * 0) _ rfl (own_on HK.out.1 H6.out.2) A6 c6 (four e.toNat) _ (by rw [four_len]; rfl) H6.out.1.2.2.1 H6.out.1.2.2.2 (by unfold maxLen; rw [four_len]; omega) (by rw [four_len]; omega) (Nat.le_trans HK.out.2.size H6.out.2.size) ?_; rw [four_len]; intro v7 w7 ho hg; have H7 := Lib.hid (HK.out.next (by simp [enTo]) H6.out.2 ho hg); clear ho hg))
        go_roundw
        case rel => exact ⟨1, by omega, by go_num, H7⟩
        case measure => simp [intOf]
      · rcases Nat.lt_or_ge k 2 with h2 | h2
        · obtain rfl : k = 1 := by omega
          clear h hk h2
          go_wp2_with (first
            | (go_at_call 37; ((with_reducible refine (sg_four s1 (by omega)).mono ?_); rintro en w6 ⟨A6, c6, rfl, i6, b6⟩); have H6 := Lib.hid (show _ ∧ _ from ⟨i6, b6⟩); clear i6 b6)
            | (at_builtin; refine app_bytes rfl (.tmp 18) (.tmp 20) 22 rfl w.heap.size 5 i0 (.int .u8 0) Tryd.underlying22 hi hz0 hz1 hz2 rfl (.slice B (4 * 1) cB) (4 * 1) _ rfl (own_on HK.out.1 H6.out.2) A6 c6 (four s.toNat) _ (by rw [four_len]; rfl) H6.out.1.2.2.1 H6.out.1.2.2.2 (by unfold maxLen; rw [four_len]; omega) (by rw [four_len]; omega) (Nat.le_trans HK.out.2.size H6.out.2.size) ?_; rw [four_len]; intro v7 w7 ho hg; have H7 := Lib.hid (HK.out.next rfl H6.out.2 ho hg); clear ho hg))
          go_roundw
          case rel => exact ⟨2, by omega, by go_num, H7⟩
          case measure => simp [intOf]
        · obtain rfl : k = 2 := by omega
          have HF := Lib.hid HK.out.done
          clear h hk h2 HK
          go_wp2
          go_ret2
          exact HF.out
  · have hf : enB e s = false := by simpa using hb
    obtain ⟨v1, v2, v3⟩ := ec_no hf
    rw [v1, v2, v3]
    rw [show (smB e && smB s) = false from hf] at hr
    have HR := Lib.hid hr
    clear v1 v2 v3 hb hf hr
    go_enter Tryd.func16, Tryd.ntmps16
    go_wp2_with (first
      | (go_at_call 33; ((with_reducible refine (numbers_of e s _).mono ?_); rintro en w1 ⟨rfl, b1⟩); have H1 := Lib.hid (below_on (below_al w _) b1); clear b1)
      | (refine wpList_alloc_v (op := ⟨some 4, _, _, _, _, _⟩) rfl 50 rfl [.int .i64 0, .int .i64 0] info_n2 ?_; intro g2 w2 hf2 hr2; have H2 := Lib.hid (show Below w.heap.size w w2 ∧ w.heap.size ≤ g2 ∧ RowV w2 g2 _ from ⟨hf2.bl H1.out, hf2.ge H1.out, hr2⟩); clear hf2 hr2)
      | (refine wpList_store_v rfl 50 (.tmp 4) (.tmp 9) rfl g2 [.int .i64 0, .int .i64 0] [.int .i64 e, .int .i64 s] rfl rfl H2.out.2.2 rfl (one2 e s) size_n2 ?_; intro w3 hw3 hr3; have H3 := Lib.hid (show Below w.heap.size w w3 ∧ RowV w3 g2 _ from ⟨hw3.bl H2.out.1 H2.out.2.1, hr3⟩); clear hw3 hr3)
      | (refine wpList_load_v (op := ⟨some 10, _, _, _, _, _⟩) rfl 50 (.tmp 4) rfl g2 rfl [.int .i64 e, .int .i64 s] (.array 2 3) H3.out.2 Tryd.underlying50 rfl size_n2 ?_)
      | (go_at_call 32; ((with_reducible refine (HR.out _).mono ?_); rintro en w4 ⟨rfl, b4⟩); have H4 := Lib.hid (below_on H3.out.1 b4); clear b4))
    go_ret2
    exact ⟨none, 0, rfl, InB.nil_, Nat.le_refl _, H4.out⟩
end Go.Proofs.YtaikoeoabgkglaaDoor
