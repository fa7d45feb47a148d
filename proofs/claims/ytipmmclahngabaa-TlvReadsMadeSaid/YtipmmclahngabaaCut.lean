/-
  What is proved here: plain facts: what is read of the beginning of one object's encoding; and what the program's Size returns, for bytes that lie in memory.
-/
import Derived.Test.YtipmmclahngabaaRows
import Derived.Test.YtipmmclahngabaaKit
import Derived.Test.YtipmmclahngabaaEnc
import Derived.Test.YtipmmclahngabaaPrs
namespace Go.Proofs.Ytipmmclahngabaa
open Go.RowKit
set_option linter.unusedVariables false

theorem ofNat_toNat {n : Nat} (h : n < 256) : (UInt8.ofNat n).toNat = n := by rw [UInt8.toNat_ofNat']; omega
theorem ofNat_mod (n : Nat) : (UInt8.ofNat n).toNat = n % 256 := by rw [UInt8.toNat_ofNat']
theorem tag_read {t : Nat} (hv : validB (t : Int) = true) (r : List UInt8) : tagE (tagL t ++ r) = 0 ∧ tagV (tagL t ++ r) = t := by
  have hr := valid_range hv
  by_cases h : 255 < t
  · have hv2 := hv
    unfold validB at hv2
    rw [if_neg (by omega)] at hv2
    simp only [Bool.and_eq_true, decide_eq_true_eq] at hv2
    have e1 : (UInt8.ofNat (t / 256)).toNat = t / 256 := ofNat_toNat (by omega)
    have e2 : (UInt8.ofNat t).toNat = t % 256 := ofNat_mod t
    have e3 : t / 256 * 256 + t % 256 = t := by omega
    have e4 : t / 256 % 32 = 31 := by omega
    unfold tagL
    rw [if_pos h]
    simp only [List.cons_append, List.nil_append, tagE, tagV, e1, e2, e3, if_pos e4, hv, if_true, and_self]
  · have hv2 := hv
    unfold validB at hv2
    rw [if_pos (by omega)] at hv2
    simp only [Bool.and_eq_true, decide_eq_true_eq] at hv2
    have e1 : (UInt8.ofNat t).toNat = t := ofNat_toNat (by omega)
    have e4 : ¬ t % 32 = 31 := by omega
    unfold tagL
    rw [if_neg h]
    cases r with
    | nil => simp only [List.append_nil, tagE, tagV, e1, if_neg e4, hv, if_true, and_self]
    | cons b r => simp only [List.cons_append, List.nil_append, tagE, tagV, e1, if_neg e4, hv, if_true, and_self]
theorem tagL_len {t : Nat} : (tagL t).length = tagN (t : Int) := tagL_length t
theorem hdr_short {t c : Nat} (hv : validB (t : Int) = true) (hc : c ≤ 127) (r : List UInt8) :
    hdrE (tagL t ++ UInt8.ofNat c :: r) = 0 ∧ hdrF (tagL t ++ UInt8.ofNat c :: r) = c ∧ hdrN (tagL t ++ UInt8.ofNat c :: r) = c ∧ hdrS (tagL t ++ UInt8.ofNat c :: r) = tagN (t : Int) + 1 ∧ tagV (tagL t ++ UInt8.ofNat c :: r) = t := by
  have ht := tag_read hv (UInt8.ofNat c :: r)
  have hZ : hdrZ (tagL t ++ UInt8.ofNat c :: r) = tagN (t : Int) + 1 := by unfold hdrZ; rw [ht.2]
  have hF : hdrF (tagL t ++ UInt8.ofNat c :: r) = c := by
    unfold hdrF
    rw [hZ, Nat.add_sub_cancel]
    have : (tagL t ++ UInt8.ofNat c :: r).getD (tagN (t : Int)) 0 = UInt8.ofNat c := by
      rw [← tagL_len]
      simp [List.getD]
    rw [this, ofNat_toNat (by omega)]
  have hl : (tagL t ++ UInt8.ofNat c :: r).length = tagN (t : Int) + (r.length + 1) := by rw [List.length_append, tagL_len, List.length_cons]
  refine ⟨?_, hF, ?_, ?_, ht.2⟩
  · unfold hdrE
    rw [if_neg (by omega), hZ, hF, if_neg (by omega), if_neg (by omega), if_pos hc]
  · unfold hdrN
    rw [hF, if_pos hc]
  · unfold hdrS
    rw [hF, if_pos hc, hZ]
theorem hdr_head {t : Nat} (hv : validB (t : Int) = true) (b : List UInt8) {k : Nat} (h1 : 1 ≤ k) (hk : k < tagN (t : Int) + 1) : hdrE ((tagL t ++ b).take k) = 6 := by
  have hr := valid_range hv
  by_cases h : 255 < t
  · have hT : tagN (t : Int) = 2 := by unfold tagN; rw [if_pos (by omega)]
    have hv2 := hv
    unfold validB at hv2
    rw [if_neg (by omega)] at hv2
    simp only [Bool.and_eq_true, decide_eq_true_eq] at hv2
    have e1 : (UInt8.ofNat (t / 256)).toNat = t / 256 := ofNat_toNat (by omega)
    have e4 : t / 256 % 32 = 31 := by omega
    have hk2 : k = 1 ∨ k = 2 := by omega
    rcases hk2 with rfl | rfl
    · have e : (tagL t ++ b).take 1 = [UInt8.ofNat (t / 256)] := by unfold tagL; rw [if_pos h]; rfl
      rw [e]
      have : tagE [UInt8.ofNat (t / 256)] = 6 := by simp only [tagE, e1, if_pos e4]
      unfold hdrE
      rw [if_pos (by rw [this]; decide), this]
    · have e : (tagL t ++ b).take 2 = tagL t ++ [] := by unfold tagL; rw [if_pos h]; rfl
      rw [e]
      have ht := tag_read hv []
      have hZ : hdrZ (tagL t ++ []) = 3 := by unfold hdrZ; rw [ht.2, hT]
      unfold hdrE
      rw [if_neg (by omega), hZ, if_pos (by rw [List.append_nil, tagL_len, hT]; omega)]
  · have hT : tagN (t : Int) = 1 := by unfold tagN; rw [if_neg (by omega)]
    obtain rfl : k = 1 := by omega
    have e : (tagL t ++ b).take 1 = tagL t ++ [] := by unfold tagL; rw [if_neg h]; rfl
    rw [e]
    have ht := tag_read hv []
    have hZ : hdrZ (tagL t ++ []) = 2 := by unfold hdrZ; rw [ht.2, hT]
    unfold hdrE
    rw [if_neg (by omega), hZ, if_pos (by rw [List.append_nil, tagL_len, hT]; omega)]
theorem parse_err {l : List UInt8} {x : Int} {st : Bool} (hl : l ≠ []) (hl2 : l.length ≤ 4096) (h : pObj st 8 0 l = .error x) : parse st l = .error x := by
  unfold parse
  rw [if_neg (by omega)]
  obtain ⟨m, hm⟩ : ∃ m, l.length = m + 1 := ⟨l.length - 1, by have := List.length_pos_iff.2 hl; omega⟩
  rw [hm]
  exact loopL_err hl h
/-- a beginning of one object is cut off -/
theorem cut_head {t : Nat} (hv : validB (t : Int) = true) (b : List UInt8) {k : Nat} (h1 : 1 ≤ k) (hk : k < tagN (t : Int) + 1) : parse true ((tagL t ++ b).take k) = .error 6 := by
  have hT := tagN_le (t : Int)
  have hE := hdr_head hv b h1 hk
  refine parse_err ?_ ?_ ?_
  · intro e
    rw [e] at hE
    have := congrArg List.length e
    simp only [List.length_take, List.length_append, List.length_nil, tagL_len] at this
    have : 1 ≤ tagN (t : Int) := by unfold tagN; split <;> omega
    omega
  · rw [List.length_take]; omega
  · simp only [pObj]
    rw [if_pos (by rw [hE]; decide), hE]
theorem cut_body {t c : Nat} (hv : validB (t : Int) = true) (hc : c ≤ 127) (r : List UInt8) (hr : r.length < c) (hl : r.length ≤ 127) : parse true (tagL t ++ UInt8.ofNat c :: r) = .error 6 := by
  obtain ⟨e1, e2, e3, e4, e5⟩ := hdr_short hv hc r
  have hT := tagN_le (t : Int)
  have hlen : (tagL t ++ UInt8.ofNat c :: r).length = tagN (t : Int) + (r.length + 1) := by rw [List.length_append, tagL_len, List.length_cons]
  refine parse_err (by simp) (by omega) ?_
  have hA : admE true (tagV (tagL t ++ UInt8.ofNat c :: r)) (hdrF (tagL t ++ UInt8.ofNat c :: r)) (hdrN (tagL t ++ UInt8.ofNat c :: r)) (8 - ((7 : Nat) : Int)) 0 = 0 := by
    rw [e2, e3, e5]
    unfold admE
    rw [if_neg ?_, if_neg (by decide), if_neg (by decide)]
    rintro (⟨h, _⟩ | ⟨_, h⟩)
    · omega
    · unfold shortB at h
      rw [lb_0 hc, if_pos rfl, decide_eq_true hc] at h
      cases h
  simp only [pObj]
  rw [if_neg (by omega), if_neg (by omega), if_neg (by omega), if_pos (by rw [e4, e3, List.length_drop, hlen]; omega)]

/-- what Size answers -/
def szE (l : List UInt8) : Int := if hdrE l ≠ 0 then hdrE l else if hdrF l = 128 then 5 else 0
def szN (l : List UInt8) : Nat := if szE l = 0 then hdrS l + hdrN l else 0
def SzIs (w : World) (l : List UInt8) (e : Ending) (w' : World) : Prop := e = .returned (.tuple #[.int .i64 (szN l : Int), .int .i64 (szE l)]) ∧ Below w.heap.size w w'

theorem tlv_sizeof (A : Option Addr) (cap : Nat) (l : List UInt8) (w : World) (hs : SeesP w (· < w.heap.size) A (Us l)) (hl : l.length ≤ 140737488351232) :
    Calls Try.prog 24 #[.slice A l.length cap] w (SzIs w l) := by
  have hH := read_header A cap l w hs hl
  by_cases hE : hdrE l = 0
  · have hra := hdr_range hE
    have hsz := hdr_sizes hE
    obtain ⟨t, ht⟩ : ∃ t, t = tagV l := ⟨_, rfl⟩
    obtain ⟨f, hf⟩ : ∃ f, f = hdrF l := ⟨_, rfl⟩
    obtain ⟨n, hn⟩ : ∃ n, n = hdrN l := ⟨_, rfl⟩
    obtain ⟨s, hs'⟩ : ∃ s, s = hdrS l := ⟨_, rfl⟩
    have HH := Lib.hid (show Calls Try.prog 51 #[.slice A l.length cap] w fun e w' => e = .returned (.tuple #[.agg #[.int .i64 t, .int .u8 f, .int .i64 n, .int .i64 s], .int .i64 0]) ∧ Below w.heap.size w w' from hH.mono fun e w' h => ⟨by have h1 := h.1; rw [if_pos hE, ← ht, ← hf, ← hn, ← hs'] at h1; exact h1, h.2⟩)
    by_cases hF : f = 128
    · have hd : ∀ w', Below w.heap.size w w' → SzIs w l (.returned (.tuple #[.int .i64 0, .int .i64 5])) w' := fun w' hb => by
        have e : szE l = 5 := by unfold szE; rw [if_neg (by omega), if_pos (by omega)]
        have e2 : szN l = 0 := by unfold szN; rw [e, if_neg (by decide)]
        unfold SzIs; rw [e, e2]; exact ⟨rfl, hb⟩
      have HD := Lib.hid hd
      have d1 : ((f : Int) == 128) = true := by simp; omega
      clear hd hH hs hE hra hsz ht hf hn hs' hF
      go_enter Try.func24, Try.ntmps24
      go_wp2_with fail
      refine HH.out.mono ?_
      rintro e w1 ⟨rfl, hb⟩
      have HB := Lib.hid hb
      clear hb
      go_wp2_with fail
      go_ret2
      exact HD.out _ (HB.out.alloc HB.out.size _)
    · have hd : ∀ w', Below w.heap.size w w' → SzIs w l (.returned (.tuple #[.int .i64 ((s : Int) + n), .int .i64 0])) w' := fun w' hb => by
        have e : szE l = 0 := by unfold szE; rw [if_neg (by omega), if_neg (by omega)]
        have e2 : szN l = s + n := by unfold szN; rw [e, if_pos rfl, hn, hs']
        unfold SzIs; rw [e, e2]; exact ⟨rfl, hb⟩
      have HD := Lib.hid hd
      have d1 : ((f : Int) == 128) = false := by simp; omega
      have hn4 : n < 4294967296 := by omega
      have hs4 : s ≤ 140737488351232 := by omega
      clear hd hH hs hE hra hsz ht hf hn hs' hF
      go_enter Try.func24, Try.ntmps24
      go_wp2_with fail
      refine HH.out.mono ?_
      rintro e w1 ⟨rfl, hb⟩
      have HB := Lib.hid hb
      clear hb
      go_wp2_with fail
      go_ret2
      exact HD.out _ (HB.out.alloc HB.out.size _)
  · obtain ⟨x, hx⟩ : ∃ x, x = hdrE l := ⟨_, rfl⟩
    have HH := Lib.hid (show Calls Try.prog 51 #[.slice A l.length cap] w fun e w' => e = .returned (.tuple #[.agg #[.int .i64 0, .int .u8 0, .int .i64 0, .int .i64 0], .int .i64 x]) ∧ Below w.heap.size w w' from hH.mono fun e w' h => ⟨by have h1 := h.1; rw [if_neg hE, ← hx] at h1; exact h1, h.2⟩)
    have hd : ∀ w', Below w.heap.size w w' → SzIs w l (.returned (.tuple #[.int .i64 0, .int .i64 x])) w' := fun w' hb => by
      have e : szE l = x := by unfold szE; rw [if_pos hE, hx]
      have e2 : szN l = 0 := by unfold szN; rw [e, if_neg (by omega)]
      unfold SzIs; rw [e, e2]; exact ⟨rfl, hb⟩
    have HD := Lib.hid hd
    have d1 : (x != 0) = true := by rw [hx]; simpa using hE
    clear hd hH hs hE hx
    go_enter Try.func24, Try.ntmps24
    go_wp2_with fail
    refine HH.out.mono ?_
    rintro e w1 ⟨rfl, hb⟩
    have HB := Lib.hid hb
    clear hb
    go_wp2_with fail
    go_ret2
    exact HD.out _ (HB.out.alloc HB.out.size _)

end Go.Proofs.Ytipmmclahngabaa
