/-
  What is proved here: what the program's readTag and readHeader return, for bytes that lie in memory.
-/
import Derived.Test.YtipmmclahngabaaRows
import Derived.Test.YtipmmclahngabaaKit
import Derived.Test.YtipmmclahngabaaTag
import Derived.Test.YtipmmclahngabaaLen
import Derived.Test.YtipmmclahngabaaFo
namespace Go.Proofs.Ytipmmclahngabaa
open Go.RowKit

/-- the tag at the beginning of bytes: the code, the tag -/
def tagE : List UInt8 → Int
  | [] => 6
  | [a] => if a.toNat % 32 = 31 then 6 else if validB a.toNat then 0 else 4
  | a :: b :: _ => if a.toNat % 32 = 31 then (if validB ((a.toNat * 256 + b.toNat : Nat) : Int) then 0 else 4) else if validB a.toNat then 0 else 4
def tagV : List UInt8 → Nat
  | [] => 0
  | [a] => a.toNat
  | a :: b :: _ => if a.toNat % 32 = 31 then a.toNat * 256 + b.toNat else a.toNat
/-- the value of bytes, the most significant one first -/
def numL (l : List UInt8) : Nat := l.foldl (fun n c => n * 256 + c.toNat) 0

theorem or_256 (a b : Nat) (ha : a < 4294967296) (hb : b < 256) : bits .or .i64 ((a : Int) * 256) (b : Int) = ((a * 256 + b : Nat) : Int) := by
  have h := i64_or_nat (a * 256) b (by omega) (by omega)
  have e : a * 256 ||| b = a * 256 + b := by
    have := Nat.two_pow_add_eq_or_of_lt (i := 8) (b := b) hb a
    rw [Nat.mul_comm] at this
    exact this.symm
  rw [e] at h
  simpa using h

theorem sees_byte {w : World} {p : Nat → Prop} {A : Option Addr} {x : List UInt8} {k : Nat} (h : SeesP w p A (Us x)) (hk : k < x.length) :
    ∃ b off, A = some ⟨b, off, none⟩ ∧ p b ∧ w.cell? ⟨b, off + k, none⟩ = some (.int .u8 (x[k].toNat : Int)) := by
  rcases h with h | ⟨b, off, e, hp, hc⟩
  · have : x = [] := by simpa [Us] using h
    subst this; simp at hk
  · exact ⟨b, off, e, hp, (hc k (by rw [Us_length]; exact hk)).trans (Us_get hk)⟩

def TagIs (l : List UInt8) (w : World) (e : Ending) (w' : World) : Prop := e = .returned (.tuple #[.int .i64 (if tagE l = 0 then (tagV l : Int) else 0), .int .i64 (tagE l)]) ∧ w' = w
theorem tag_bad {l : List UInt8} {x : Int} {w : World} (h : tagE l = x) (hx : x ≠ 0) : TagIs l w (.returned (.tuple #[.int .i64 0, .int .i64 x])) w := by
  unfold TagIs; rw [h, if_neg hx]; exact ⟨rfl, rfl⟩
theorem tag_good {l : List UInt8} {t : Nat} {w : World} (h : tagE l = 0) (ht : tagV l = t) : TagIs l w (.returned (.tuple #[.int .i64 (t : Int), .int .i64 0])) w := by
  unfold TagIs; rw [h, if_pos rfl, ht]; exact ⟨rfl, rfl⟩

set_option maxHeartbeats 400000 in
theorem read_tag (A : Option Addr) (c : Nat) (l : List UInt8) (w : World) (p : Nat → Prop) (hs : SeesP w p A (Us l)) (hl : l.length ≤ 140737488351232) :
    Calls Try.prog 64 #[.slice A l.length c] w (TagIs l w) := by
  cases l with
  | nil =>
    have hb := tag_bad (w := w) (show tagE [] = 6 from rfl) (by decide)
    have HB := Lib.hid hb
    clear hb hs
    go_enter Try.func64, Try.ntmps64
    go_wp2_with fail
    go_ret2
    exact HB.out
  | cons a r =>
    obtain ⟨b, off, rfl, hp, g0⟩ := sees_byte hs (k := 0) (by simp)
    simp only [List.getElem_cons_zero, Nat.add_zero] at g0
    have ha := UInt8.toNat_lt a
    obtain ⟨n, hn⟩ : ∃ n, n = a.toNat := ⟨_, rfl⟩
    rw [← hn] at g0 ha
    have e31 := and_31 (t := (n : Int)) (by omega) (by omega)
    have d0 : (((a :: r).length : Int) == 0) = false := by simp; omega
    have hv : ∀ (t : Nat) (q : Bool), t ≤ 65535 → validB t = q → ∀ u, Calls Try.prog 12 #[.int .i64 (t : Int)] u fun e w' => e = .returned (.bool q) ∧ w' = u := fun t q ht hq u => by
      have := tlv_valid t (by omega) (by omega) u
      rwa [hq] at this
    by_cases h31 : n % 32 = 31
    · have d31 : ((n : Int) % 32 == 31) = true := by simp; omega
      cases r with
      | nil =>
        have hb := tag_bad (w := w) (show tagE [a] = 6 by simp only [tagE]; rw [← hn, if_pos h31]) (by decide)
        have HB := Lib.hid hb
        clear hb hs hn hv h31
        go_enter Try.func64, Try.ntmps64
        go_wp2_with fail
        go_ret2
        exact HB.out
      | cons a2 r =>
        obtain ⟨b2, off2, e2, _, g1⟩ := sees_byte hs (k := 1) (by simp)
        injection e2 with e2
        injection e2 with e3 e4
        subst e3 e4
        simp only [List.getElem_cons_succ, List.getElem_cons_zero] at g1
        have ha2 := UInt8.toNat_lt a2
        obtain ⟨n2, hn2⟩ : ∃ n, n = a2.toNat := ⟨_, rfl⟩
        rw [← hn2] at g1 ha2
        have eor := or_256 n n2 (by omega) ha2
        obtain ⟨t, ht⟩ : ∃ t, t = n * 256 + n2 := ⟨_, rfl⟩
        rw [← ht] at eor
        have hx : tagE (a :: a2 :: r) = if validB t then 0 else 4 := by simp only [tagE]; rw [← hn, ← hn2, if_pos h31, ← ht]
        have htv : tagV (a :: a2 :: r) = t := by simp only [tagV]; rw [← hn, ← hn2, if_pos h31, ← ht]
        have d1 : (((a :: a2 :: r).length : Int) == 1) = false := by simp; omega
        cases hq : validB t
        · have hb := tag_bad (w := w) (show tagE (a :: a2 :: r) = 4 by rw [hx, hq]; rfl) (by decide)
          have HB := Lib.hid hb
          have HV := Lib.hid (hv t _ (by omega) hq)
          clear hb hs hn hn2 hv h31 hx htv ht hq
          go_enter Try.func64, Try.ntmps64
          go_wp2_with (go_at_call 12; refine (HV.out _).mono ?_; rintro e w' ⟨rfl, rfl⟩)
          go_ret2
          exact HB.out
        · have hb := tag_good (w := w) (show tagE (a :: a2 :: r) = 0 by rw [hx, hq]; rfl) htv
          have HB := Lib.hid hb
          have HV := Lib.hid (hv t _ (by omega) hq)
          clear hb hs hn hn2 hv h31 hx htv ht hq
          go_enter Try.func64, Try.ntmps64
          go_wp2_with (go_at_call 12; refine (HV.out _).mono ?_; rintro e w' ⟨rfl, rfl⟩)
          go_ret2
          exact HB.out
    · have d31 : ((n : Int) % 32 == 31) = false := by simp; omega
      have hx : tagE (a :: r) = if validB n then 0 else 4 := by cases r <;> (simp only [tagE]; rw [← hn, if_neg h31])
      have htv : tagV (a :: r) = n := by cases r <;> simp only [tagV, ← hn, if_neg h31]
      cases hq : validB n
      · have hb := tag_bad (w := w) (show tagE (a :: r) = 4 by rw [hx, hq]; rfl) (by decide)
        have HB := Lib.hid hb
        have HV := Lib.hid (hv n _ (by omega) hq)
        clear hb hs hn hv h31 hx htv hq
        go_enter Try.func64, Try.ntmps64
        go_wp2_with (go_at_call 12; refine (HV.out _).mono ?_; rintro e w' ⟨rfl, rfl⟩)
        go_ret2
        exact HB.out
      · have hb := tag_good (w := w) (show tagE (a :: r) = 0 by rw [hx, hq]; rfl) htv
        have HB := Lib.hid hb
        have HV := Lib.hid (hv n _ (by omega) hq)
        clear hb hs hn hv h31 hx htv hq
        go_enter Try.func64, Try.ntmps64
        go_wp2_with (go_at_call 12; refine (HV.out _).mono ?_; rintro e w' ⟨rfl, rfl⟩)
        go_ret2
        exact HB.out

end Go.Proofs.Ytipmmclahngabaa
