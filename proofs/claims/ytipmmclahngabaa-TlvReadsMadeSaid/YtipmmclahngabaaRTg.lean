/-
  What is proved here: what the reference's tag returns, for bytes that lie in memory.
-/
import Derived.Test.YtipmmclahngabaaRows
import Derived.Test.YtipmmclahngabaaKit
import Derived.Test.YtipmmclahngabaaHdr
import Derived.Test.YtipmmclahngabaaSiz
import Derived.Test.YtipmmclahngabaaTagR
import Derived.BigQuiet
namespace Go.Proofs.Ytipmmclahngabaa
open Go.RowKit

/-- the reference's tag: the tag, how many bytes it has, the code -/
def RTagIs (l : List UInt8) (w : World) (e : Ending) (w' : World) : Prop :=
  e = .returned (.tuple #[.int .i64 (if tagE l = 0 then (tagV l : Int) else 0), .int .i64 (if tagE l = 0 then (tagN (tagV l : Nat) : Int) else 0), .int .i64 (tagE l)]) ∧ ∃ q, w' = w.drewN q
theorem rtag_bad {l : List UInt8} {x : Int} {w : World} (h : tagE l = x) (hx : x ≠ 0) (q : Nat) : RTagIs l w (.returned (.tuple #[.int .i64 0, .int .i64 0, .int .i64 x])) (w.drewN q) := by
  unfold RTagIs; rw [h, if_neg hx, if_neg hx]; exact ⟨rfl, q, rfl⟩
theorem rtag_good {l : List UInt8} {t : Nat} {z : Int} {w : World} (h : tagE l = 0) (ht : tagV l = t) (hz : (tagN (t : Int) : Int) = z) (q : Nat) : RTagIs l w (.returned (.tuple #[.int .i64 (t : Int), .int .i64 z, .int .i64 0])) (w.drewN q) := by
  unfold RTagIs; rw [h, if_pos rfl, if_pos rfl, ht, hz]; exact ⟨rfl, q, rfl⟩

set_option maxHeartbeats 1000000 in
theorem ref_tag (A : Option Addr) (c : Nat) (l : List UInt8) (w : World) (p : Nat → Prop) (hs : SeesP w p A (Us l)) (hl : l.length ≤ 140737488351232) :
    Calls Try.prog 52 #[.slice A l.length c] w (RTagIs l w) := by
  cases l with
  | nil =>
    have hb := fun q => rtag_bad (w := w) (show tagE [] = 6 from rfl) (by decide) q
    have HB := Lib.hid hb
    clear hb hs
    go_enter Try.func52, Try.ntmps52
    go_wp2_with fail
    go_ret3
    exact HB.out 0
  | cons a r =>
    obtain ⟨b, off, rfl, hp, g0⟩ := sees_byte hs (k := 0) (by simp)
    simp only [List.getElem_cons_zero, Nat.add_zero] at g0
    have ha := UInt8.toNat_lt a
    obtain ⟨n, hn⟩ : ∃ n, n = a.toNat := ⟨_, rfl⟩
    rw [← hn] at g0 ha
    have d0 : (((a :: r).length : Int) == 0) = false := by simp; omega
    have hl0 : 0 < (a :: r).length := by simp
    by_cases h31 : n % 32 = 31
    · have d31 : ((n : Int) % 32 != 31) = false := by simp; omega
      cases r with
      | nil =>
        have hb := fun q => rtag_bad (w := w) (show tagE [a] = 6 by simp only [tagE]; rw [← hn, if_pos h31]) (by decide) q
        have HB := Lib.hid hb
        clear hb hs hn h31
        go_enter Try.func52, Try.ntmps52
        go_wp2_with fail
        go_ret3
        exact HB.out 0
      | cons a2 r =>
        obtain ⟨b2, off2, e2, _, g1⟩ := sees_byte hs (k := 1) (by simp)
        injection e2 with e2
        injection e2 with e3 e4
        subst e3 e4
        simp only [List.getElem_cons_succ, List.getElem_cons_zero] at g1
        have ha2 := UInt8.toNat_lt a2
        obtain ⟨n2, hn2⟩ : ∃ n, n = a2.toNat := ⟨_, rfl⟩
        rw [← hn2] at g1 ha2
        obtain ⟨t, ht⟩ : ∃ t, t = n * 256 + n2 := ⟨_, rfl⟩
        have e256 : (256 : Int) * (n : Int) + (n2 : Int) = (t : Int) := by omega
        have hx : tagE (a :: a2 :: r) = if validB t then 0 else 4 := by simp only [tagE]; rw [← hn, ← hn2, if_pos h31, ← ht]
        have htv : tagV (a :: a2 :: r) = t := by simp only [tagV]; rw [← hn, ← hn2, if_pos h31, ← ht]
        have d1 : decide (((a :: a2 :: r).length : Int) < 2) = false := by simp; omega
        have hl1 : 1 < (a :: a2 :: r).length := by simp
        have htl : t ≤ 65535 := by omega
        have hV := fun u => ref_valid (t : Int) (by omega) (by omega) u
        cases hq : validB t
        · have hb := fun q => rtag_bad (w := w) (show tagE (a :: a2 :: r) = 4 by rw [hx, hq]; rfl) (by decide) q
          have HB := Lib.hid hb
          rw [hq] at hV
          have HV := Lib.hid hV
          clear hb hs hn hn2 hV h31 hx htv ht hq
          go_enter Try.func52, Try.ntmps52
          go_wp2_with fail
          go_quiet (fail)
          go_wp2_with (go_at_call 13; refine (HV.out _).mono ?_; rintro e w' ⟨rfl, rfl⟩)
          go_ret3
          exact HB.out _
        · have hb := fun q => rtag_good (w := w) (z := 2) (show tagE (a :: a2 :: r) = 0 by rw [hx, hq]; rfl) htv (by unfold tagN; rw [if_pos (by have := h31; omega)]; rfl) q
          have HB := Lib.hid hb
          rw [hq] at hV
          have HV := Lib.hid hV
          clear hb hs hn hn2 hV h31 hx htv ht hq
          go_enter Try.func52, Try.ntmps52
          go_wp2_with fail
          go_quiet (fail)
          go_wp2_with (go_at_call 13; refine (HV.out _).mono ?_; rintro e w' ⟨rfl, rfl⟩)
          go_ret3
          exact HB.out _
    · have d31 : ((n : Int) % 32 != 31) = true := by simp; omega
      have hx : tagE (a :: r) = if validB n then 0 else 4 := by cases r <;> (simp only [tagE]; rw [← hn, if_neg h31])
      have htv : tagV (a :: r) = n := by cases r <;> simp only [tagV, ← hn, if_neg h31]
      by_cases h0 : n = 0
      · have dn : ((n : Int) == 0) = true := by simp; omega
        have hq : validB n = false := by rw [h0]; rfl
        have hb := fun q => rtag_bad (w := w) (show tagE (a :: r) = 4 by rw [hx, hq]; rfl) (by decide) q
        have HB := Lib.hid hb
        clear hb hs hn h31 hx htv hq h0
        go_enter Try.func52, Try.ntmps52
        go_wp2_with fail
        go_ret3
        exact HB.out 0
      · have dn : ((n : Int) == 0) = false := by simp; omega
        have hq : validB n = true := by rw [valid_in (by omega) (by omega)]; simp; omega
        have hb := fun q => rtag_good (w := w) (z := 1) (show tagE (a :: r) = 0 by rw [hx, hq]; rfl) htv (by unfold tagN; rw [if_neg (by omega)]; rfl) q
        have HB := Lib.hid hb
        clear hb hs hn h31 hx htv hq h0
        go_enter Try.func52, Try.ntmps52
        go_wp2_with fail
        go_ret3
        exact HB.out 0

end Go.Proofs.Ytipmmclahngabaa
