/-
  What is proved here: what the reference's Encode and Plain return for objects whose Values have at most 4096 bytes.
-/
import Derived.Test.YtipmmclahngabaaRRaw
import Derived.Test.YtipmmclahngabaaEnc
namespace Go.Proofs.Ytipmmclahngabaa
open Go.RowKit
set_option linter.unusedVariables false

theorem F.gd_sm : ∀ {f : F} {m : Nat}, f.gd m → f.sm
  | .nil, _, _ => trivial
  | .cons t v k r, m, ⟨h1, h2, h3, h4, h5, h6, h7, h8⟩ => ⟨by omega, F.gd_sm h7, F.gd_sm h8⟩
theorem F.raw_of : ∀ {f : F} {d : Int}, chkE f d = 0 → f.sq → f.raw
  | .nil, _, _, _ => trivial
  | .cons t v k r, d, h, ⟨s1, s2, s3⟩ => by
    by_cases h1 : chk1 t v.length k.len d = 0
    · by_cases h2 : chkE k (d + 1) = 0
      · rw [chkE_3 h1 h2] at h
        refine ⟨?_, s1, ?_, ?_, F.raw_of h2 s2, F.raw_of h s3⟩
        all_goals
          unfold chk1 at h1
          split at h1
          · omega
          · rename_i hv
            split at h1
            · omega
            · rename_i hf
              first
                | exact valid_range (by cases hq : validB t; exact absurd hq (by simpa using hv); rfl)
                | (intro hc
                   have hz : ¬ 0 < v.length := fun h0 => hf (.inl ⟨hc, h0⟩)
                   exact List.eq_nil_of_length_eq_zero (by omega))
                | (intro hc
                   have hz : ¬ 0 < k.len := fun h0 => hf (.inr ⟨hc, h0⟩)
                   exact F.len_zero (by omega))
      · rw [chkE_2 h1 h2] at h; exact absurd h h2
    · rw [chkE_1 h1] at h; exact absurd h h1

/-- as GivesN, and no block means no room -/
def GivesZ (w : World) (bs : List UInt8) (er : Int) (e : Ending) (w' : World) : Prop :=
  ∃ A c, e = .returned (.tuple #[.slice A bs.length c, .int .i64 er]) ∧ SeesP w' (fun b => w.heap.size ≤ b ∧ b < w'.heap.size) A (Us bs) ∧ Below w.heap.size w w' ∧ bs.length ≤ c ∧ (A = none → c = 0)
theorem renc_fail {f : F} {x : Int} {w w' : World} (h : encE f = x) (hx : x ≠ 0) (hb : Below w.heap.size w w') : GivesZ w (encB f) (encE f) (.returned (.tuple #[.slice none 0 0, .int .i64 x])) w' := by
  have hB : encB f = [] := by unfold encB; rw [if_neg (by rw [h]; exact hx)]
  rw [hB, h]
  exact ⟨none, 0, rfl, .inl rfl, hb, Nat.le_refl _, fun _ => rfl⟩

set_option maxHeartbeats 1000000 in
theorem ref_encode_q (f : F) (A : Option Addr) (c : Nat) (w : World) (hsz : f.size < 1125899906842623) (hok : f.ok) (hsm : f.sq) (hs : SeesQ w (· < w.heap.size) A f) :
    Calls Try.prog 18 #[.slice A f.len c] w (GivesZ w (encB f) (encE f)) := by
  have hc := ref_check 1125899906842624 f A c 1 w (by omega) (Nat.le_refl _) hok (by decide) (by decide) hs.sees
  unfold RChkIs at hc
  obtain ⟨x, hx⟩ : ∃ x, x = chkE f 1 := ⟨_, rfl⟩
  rw [← hx] at hc
  have HC := Lib.hid hc
  clear hc
  by_cases h1 : x = 0
  · subst h1
    have HX := Lib.hid (show f.raw ∧ chkE f 1 = 0 from ⟨F.raw_of hx.symm hsm, hx.symm⟩)
    have HS := Lib.hid hs
    clear hx hsm hok hs
    go_enter Try.func18, Try.ntmps18
    go_wp2_with fail
    refine HC.out.mono ?_
    rintro e w1 ⟨rfl, hb1⟩
    have HB1 := Lib.hid hb1
    have HN := Lib.hid (ref_count 1125899906842624 f A c w1 _ (by omega) (Nat.le_refl _) (HS.out.sees.on hb1))
    clear hb1 HC
    go_wp2_with fail
    refine HN.out.mono ?_
    rintro e w2 ⟨m, rfl, hm, rfl⟩
    have HM := Lib.hid hm
    have hmf := hm.1
    clear hm HN
    by_cases h2 : 256 < f.size
    · have d1 : decide ((256 : Int) < (m : Int)) = true := by have := HM.out.2.2 h2; simp; omega
      have HF := Lib.hid (renc_fail (show encE f = 2 by unfold encE; rw [if_neg (by rw [HX.out.2]; decide), if_pos h2]) (by decide) HB1.out)
      clear h2 HX HS HM HB1
      go_wp2_with fail
      go_ret2
      exact HF.out
    · have d1 : decide ((256 : Int) < (m : Int)) = false := by have := HM.out.2.1 (by omega); simp; omega
      have HR := Lib.hid (ref_raw 1125899906842624 (by decide) f A c w2 (by omega) HX.out.1 (HS.out.on HB1.out))
      go_wp2_with fail
      refine HR.out.mono ?_
      rintro e w3 ⟨b, A3, c3, rfl, hcl, hcn, hss, he1, he2, hbl, hbw⟩
      have HZ := Lib.hid (show _ ∧ _ ∧ _ from ⟨hss, he1, he2⟩)
      have HB3 := Lib.hid (below_on HB1.out hbw)
      have hw2 := HB1.out.size
      have HC3 := Lib.hid (show b.length ≤ c3 ∧ (A3 = none → c3 = 0) from ⟨hcl, hcn⟩)
      clear hss he1 he2 hbw HR hcl hcn
      by_cases h3 : 4096 < encN f
      · have d2 : decide ((4096 : Int) < (b.length : Int)) = true := by have := HZ.out.2.2 h3; simp; omega
        have HF := Lib.hid (renc_fail (show encE f = 2 by unfold encE; rw [if_neg (by rw [HX.out.2]; decide), if_neg h2, if_pos h3]) (by decide) HB3.out)
        clear h2 h3 HX HS HM HB1 HZ HC3
        go_wp2_with fail
        go_ret2
        exact HF.out
      · have hbe := HZ.out.2.1 (by omega)
        have d2 : decide ((4096 : Int) < (b.length : Int)) = false := by have := enc_length f; rw [← hbe] at this; simp; omega
        have hE : encE f = 0 := by unfold encE; rw [if_neg (by rw [HX.out.2]; decide), if_neg h2, if_neg h3]
        have hB : encB f = b := by unfold encB; rw [if_pos hE, hbe]
        have HF := Lib.hid (show GivesZ w (encB f) (encE f) (.returned (.tuple #[.slice A3 b.length c3, .int .i64 0])) w3 from by
          rw [hB, hE]
          exact ⟨A3, c3, rfl, HZ.out.1.imp fun q hq => ⟨Nat.le_trans hw2 hq.1, hq.2⟩, HB3.out, HC3.out.1, HC3.out.2⟩)
        clear h2 h3 HX HS HM HB1 HZ HC3 hbe hE hB
        go_wp2_with fail
        go_ret2
        exact HF.out
  · have HF := Lib.hid (show ∀ w', Below w.heap.size w w' → GivesZ w (encB f) (encE f) (.returned (.tuple #[.slice none 0 0, .int .i64 x])) w' from fun w' hb => renc_fail (show encE f = x by unfold encE; rw [if_pos (by omega)]; exact hx.symm) h1 hb)
    have d1 : (x != 0) = true := by simpa using h1
    clear h1 hx hs hsm hok
    go_enter Try.func18, Try.ntmps18
    go_wp2_with fail
    refine HC.out.mono ?_
    rintro e w1 ⟨rfl, hb1⟩
    have HD := Lib.hid (HF.out _ hb1)
    clear hb1 HC HF
    go_wp2_with fail
    go_ret2
    exact HD.out

theorem ref_encode (f : F) (A : Option Addr) (c : Nat) (w : World) (hsz : f.size < 1125899906842623) (hok : f.ok) (hsm : f.sm) (hs : SeesF w (· < w.heap.size) A f) :
    Calls Try.prog 18 #[.slice A f.len c] w (GivesZ w (encB f) (encE f)) :=
  ref_encode_q f A c w hsz hok (F.sm_sq hsm) (hs.small hsm)

/-- bytes of the call's own -/
def NewIs (w : World) (l : List UInt8) (e : Ending) (w' : World) : Prop := ∃ A c, e = .returned (.slice A l.length c) ∧ SeesP w' (fun b => w.heap.size ≤ b ∧ b < w'.heap.size) A (Us l) ∧ Below w.heap.size w w' ∧ l.length ≤ c ∧ (A = none → c = 0)
theorem ref_plain (f : F) (A : Option Addr) (c : Nat) (w : World) (hsz : f.size < 1125899906842623) (hok : f.ok) (hsm : f.sm) (hs : SeesF w (· < w.heap.size) A f) :
    Calls Try.prog 34 #[.slice A f.len c] w (NewIs w (encB f)) := by
  have HE := Lib.hid (ref_encode f A c w hsz hok hsm hs)
  clear hs hok hsm
  go_enter Try.func34, Try.ntmps34
  go_wp2_with fail
  refine HE.out.mono ?_
  rintro e w1 ⟨A1, c1, rfl, s1, hb1, hc1, hn1⟩
  have HF := Lib.hid (show NewIs w (encB f) (.returned (.slice A1 (encB f).length c1)) w1 from ⟨A1, c1, rfl, s1, hb1, hc1, hn1⟩)
  clear s1 hb1 hc1 hn1 HE
  go_wp2_with fail
  go_ret
  exact HF.out

end Go.Proofs.Ytipmmclahngabaa
