/-
  What is proved here: what the program's Encode returns, for objects that lie in memory.
-/
import Derived.Test.YtipmmclahngabaaRows
import Derived.Test.YtipmmclahngabaaKit
import Derived.Test.YtipmmclahngabaaApl
namespace Go.Proofs.Ytipmmclahngabaa
open Go.RowKit

/-- what Encode answers: the code and the bytes -/
def encE (f : F) : Int := if chkE f 1 ≠ 0 then chkE f 1 else if 256 < f.size then 2 else if 4096 < encN f then 2 else 0
def encB (f : F) : List UInt8 := if encE f = 0 then enc f else []

theorem chkE_tags : ∀ {f : F} {d : Int}, chkE f d = 0 → f.tags
  | .nil, _, _ => trivial
  | .cons t v k r, d, h => by
    by_cases h1 : chk1 t v.length k.len d = 0
    · by_cases h2 : chkE k (d + 1) = 0
      · rw [chkE_3 h1 h2] at h
        refine ⟨?_, chkE_tags h2, chkE_tags h⟩
        cases hv : validB t
        · unfold chk1 at h1; rw [if_pos hv] at h1; omega
        · exact valid_range hv
      · rw [chkE_2 h1 h2] at h; omega
    · rw [chkE_1 h1] at h; omega
theorem encN_le : ∀ {f : F}, f.ok → encN f ≤ f.size * 140737488351300
  | .nil, _ => by simp [encN]
  | .cons t v k r, h => by
    obtain ⟨_, hv, hk, hr⟩ := h
    have h1 := encN_le hk
    have h2 := encN_le hr
    have h3 := tagN_le t
    have h4 := lb_le8 (v.length + encN k)
    simp only [encN, F.size]
    omega

/-- as Gives, and the capacity is enough -/
def GivesC (w : World) (bs : List UInt8) (er : Int) (e : Ending) (w' : World) : Prop :=
  ∃ A c, e = .returned (.tuple #[.slice A bs.length c, .int .i64 er]) ∧ Sees w' w'.heap.size A (Us bs) ∧ Below w.heap.size w w' ∧ bs.length ≤ c
/-- as GivesC, and the bytes lie in memory of the call's own -/
def GivesN (w : World) (bs : List UInt8) (er : Int) (e : Ending) (w' : World) : Prop :=
  ∃ A c, e = .returned (.tuple #[.slice A bs.length c, .int .i64 er]) ∧ SeesP w' (fun b => w.heap.size ≤ b ∧ b < w'.heap.size) A (Us bs) ∧ Below w.heap.size w w' ∧ bs.length ≤ c
theorem new_of_own {w w' : World} {g k cap : Nat} {l : List UInt8} (ho : Out w' w.heap.size g k cap l) : SeesP w' (fun b => w.heap.size ≤ b ∧ b < w'.heap.size) (some ⟨g, 0, none⟩) (Us l) := by
  rcases Sees.of_own ho with h | ⟨b, o, e, hlt, hc⟩
  · exact .inl h
  · injection e with e
    injection e with e1 e2
    subst e1 e2
    exact .inr ⟨_, _, rfl, ho.lt _ rfl, hc⟩
theorem enc_fail {f : F} {x : Int} {w w' : World} (h : encE f = x) (hx : x ≠ 0) (hb : Below w.heap.size w w') : GivesN w (encB f) (encE f) (.returned (.tuple #[.slice none 0 0, .int .i64 x])) w' := by
  have : encB f = [] := by unfold encB; rw [h, if_neg hx]
  rw [this, h]
  exact ⟨none, 0, rfl, .inl rfl, hb, Nat.le_refl _⟩
theorem enc_done {f : F} {g : Nat} {w w' : World} (h : encE f = 0) (ho : Out w' w.heap.size g (encN f) (encN f) (enc f)) (hb : Below w.heap.size w w') :
    GivesN w (encB f) (encE f) (.returned (.tuple #[.slice (some ⟨g, 0, none⟩) (encN f) (encN f), .int .i64 0])) w' := by
  have : encB f = enc f := by unfold encB; rw [if_pos h]
  rw [this, h]
  refine ⟨_, encN f, by rw [enc_length], new_of_own ho, hb, by rw [enc_length]; exact Nat.le_refl _⟩

set_option maxHeartbeats 1000000 in
theorem tlv_encode_n (f : F) (A : Option Addr) (c : Nat) (w : World) (hsz : f.size < 1125899906842624) (hok : f.ok) (hs : SeesF w (· < w.heap.size) A f) :
    Calls Try.prog 17 #[.slice A f.len c] w (GivesN w (encB f) (encE f)) := by
  obtain ⟨i0, hi, hz0, hz1, hz2⟩ := info_parts info_u8b
  have hc := tlv_check 1125899906842624 f A c 1 w _ hsz (Nat.le_refl _) hok (by decide) (by decide) hs
  unfold ChkIs at hc
  obtain ⟨x, hx⟩ : ∃ x, x = chkE f 1 := ⟨_, rfl⟩
  rw [← hx] at hc
  by_cases h1 : x = 0
  · subst h1
    rw [if_pos rfl] at hc
    have HC := Lib.hid hc
    clear hc
    by_cases h2 : 256 < f.size
    · have hf := enc_fail (w := w) (w' := w) (show encE f = 2 by unfold encE; rw [if_neg (by omega), if_pos h2]) (by decide) (Below.refl _ _)
      have HF := Lib.hid hf
      have d1 : decide ((256 : Int) < (f.size : Int)) = true := by simp; omega
      clear hf h2 hx hs
      go_enter Try.func17, Try.ntmps17
      go_wp2_with (go_at_call 39; refine HC.out.mono ?_; rintro e w' ⟨rfl, rfl⟩)
      go_ret2
      exact HF.out
    · have d1 : decide ((256 : Int) < (f.size : Int)) = false := by simp; omega
      have hle := encN_le hok
      have hS := tlv_size 1125899906842624 (Nat.le_refl _) f A c w hsz hok (by omega) hs
      have HS := Lib.hid hS
      clear hS
      by_cases h3 : 4096 < encN f
      · have hf : ∀ w', Below w.heap.size w w' → GivesN w (encB f) (encE f) (.returned (.tuple #[.slice none 0 0, .int .i64 2])) w' := fun w' hb => enc_fail (show encE f = 2 by unfold encE; rw [if_neg (by omega), if_neg h2, if_pos h3]) (by decide) hb
        have HF := Lib.hid hf
        have d2 : decide ((4096 : Int) < (encN f : Int)) = true := by simp; omega
        clear hf h2 h3 hx hs hle
        go_enter Try.func17, Try.ntmps17
        go_wp2_with (first | (go_at_call 39; refine HC.out.mono ?_; rintro e w' ⟨rfl, rfl⟩) | (go_at_call 40; refine HS.out.mono ?_; rintro e w' ⟨rfl, hb⟩; have HB := Lib.hid hb; clear hb))
        go_ret2
        exact HF.out _ HB.out
      · have d2 : decide ((4096 : Int) < (encN f : Int)) = false := by simp; omega
        have hE : encE f = 0 := by unfold encE; rw [if_neg (by omega), if_neg h2, if_neg h3]
        have HA := Lib.hid (show f.ok ∧ f.tags ∧ encE f = 0 ∧ SeesF w (· < w.heap.size) A f from ⟨hok, chkE_tags hx.symm, hE, hs⟩)
        have h3 : encN f ≤ 4096 := by omega
        clear h2 hx hs hle hE hok
        go_enter Try.func17, Try.ntmps17
        go_wp2_with (first | (go_at_call 39; refine HC.out.mono ?_; rintro e w' ⟨rfl, rfl⟩) | (go_at_call 40; refine HS.out.mono ?_; rintro e w1 ⟨rfl, hb⟩; have HB := Lib.hid hb; clear hb) | (at_make; refine wpList_make_own _ rfl _ _ 27 rfl w'.heap.size 5 i0 (.int .u8 0) 1 Try.underlying27 hi hz0 hz1 _ _ _ (encN f) rfl rfl (by simp) (by rw [hz2]; omega) (by unfold maxLen; omega) HB.out.size ?_; intro w2 hown hgrow))
        have hb2 := HB.out.grown hgrow HB.out.size (by simp)
        have hA := app_list 1125899906842624 (Nat.le_refl _) f A c w'.heap.size w1.heap.size 0 (encN f) [] w2 hsz HA.out.1 HA.out.2.1 h3 (HA.out.2.2.2.keep fun _ hq => hb2.cell hq) hb2.size hown (by omega)
        rw [Nat.zero_add, List.nil_append] at hA
        refine hA.mono ?_
        rintro e w3 ⟨rfl, ho, hg⟩
        have hd := enc_done HA.out.2.2.1 ho (hb2.grown hg hb2.size (by intro k hk; injection hk with hk; rw [← hk]; exact HB.out.size))
        have HD := Lib.hid hd
        clear hd ho hg hA hb2 hown hgrow
        go_wp2_with fail
        go_ret2
        exact HD.out
  · rw [if_neg h1] at hc
    have HC := Lib.hid hc
    have hf := enc_fail (w := w) (w' := w) (show encE f = x by unfold encE; rw [if_pos (by omega)]; exact hx.symm) h1 (Below.refl _ _)
    have HF := Lib.hid hf
    have d1 : (x != 0) = true := by simpa using h1
    clear hc h1 hx hf hs
    go_enter Try.func17, Try.ntmps17
    go_wp2_with (go_at_call 39; refine HC.out.mono ?_; rintro e w' ⟨rfl, rfl⟩)
    go_ret2
    exact HF.out

theorem tlv_encode_c (f : F) (A : Option Addr) (c : Nat) (w : World) (hsz : f.size < 1125899906842624) (hok : f.ok) (hs : SeesF w (· < w.heap.size) A f) :
    Calls Try.prog 17 #[.slice A f.len c] w (GivesC w (encB f) (encE f)) :=
  (tlv_encode_n f A c w hsz hok hs).mono fun _ _ ⟨A, c, h1, h2, h3, h4⟩ => ⟨A, c, h1, h2.imp fun _ hb => hb.2, h3, h4⟩

theorem tlv_encode (f : F) (A : Option Addr) (c : Nat) (w : World) (hsz : f.size < 1125899906842624) (hok : f.ok) (hs : SeesF w (· < w.heap.size) A f) :
    Calls Try.prog 17 #[.slice A f.len c] w (Gives w (encB f) (encE f)) :=
  (tlv_encode_c f A c w hsz hok hs).mono fun _ _ ⟨A, c, h1, h2, h3, _⟩ => ⟨A, c, h1, h2, h3⟩

end Go.Proofs.Ytipmmclahngabaa
