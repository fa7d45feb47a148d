/-
  What is proved here: what the reference's list, Parse, Size and Canonical return, and the program's Canonical, for bytes that lie in memory.
-/
import Derived.Test.YtipmmclahngabaaRLs
import Derived.Test.YtipmmclahngabaaFit
import Derived.Test.YtipmmclahngabaaREnc
import Derived.Test.YtipmmclahngabaaCut
import Derived.Test.YtipmmclahngabaaPrs
namespace Go.Proofs.Ytipmmclahngabaa
open Go.RowKit
set_option linter.unusedVariables false

theorem ref_list_all (st : Bool) : ∀ k, k ≤ 8 → RAll st k
  | 0, _ => ref_list_step st 0 (by decide) (fun j h => by omega)
  | k + 1, hk => ref_list_step st (k + 1) hk (fun j h => by
    have : j = k := by omega
    subst this
    exact ref_list_all st j (by omega))

theorem ref_parse (st : Bool) (l : List UInt8) (A : Option Addr) (cap : Nat) (w : World) (hl : l.length ≤ 140737488351232) (hcap : l.length ≤ cap) (hs : SeesP w (· < w.heap.size) A (Us l)) :
    Calls Try.prog 23 #[.slice A l.length cap, .bool st] w (ParIs w (parse st l)) := by
  by_cases h : 4096 < l.length
  · have e : parse st l = .error 2 := by unfold parse; rw [if_pos h]
    rw [e]
    have d : decide ((4096 : Int) < (l.length : Int)) = true := by simp; omega
    clear h hs e
    go_enter Try.func23, Try.ntmps23
    go_wp2_with fail
    go_ret2
    exact ⟨Below.refl _ _, rfl, by decide⟩
  · have d : decide ((4096 : Int) < (l.length : Int)) = false := by simp; omega
    have hR := ref_list_all st 8 (Nat.le_refl _) false 1 0 l A cap w _ (by decide) (fun x hx => hx) (by decide) (by omega) hcap hs
    have e : parse st l = loopL (pObj st 8) l.length 0 l := by unfold parse; rw [if_neg h]
    have e2 : loopU false (pObj st 8) l.length 0 l = match parse st l with | .error e => .error e | .ok (f, c') => .ok (f, [], c') := by
      unfold loopU
      rw [if_neg (by decide), e]
      cases loopL (pObj st 8) l.length 0 l with
      | error e => rfl
      | ok q => rfl
    rw [e2] at hR
    obtain ⟨r, hrr⟩ : ∃ r, r = parse st l := ⟨_, rfl⟩
    rw [← hrr] at hR ⊢
    clear e e2 h hs hrr
    cases r with
    | error x =>
      have HR := Lib.hid hR
      clear hR
      go_enter Try.func23, Try.ntmps23
      go_wp2_with fail
      refine HR.out.mono ?_
      rintro e w1 ⟨hb, rfl, hx⟩
      have HF := Lib.hid (show _ ∧ _ from ⟨hb, hx⟩)
      clear hb hx HR
      go_wp2_with fail
      go_ret2
      exact ⟨HF.out.1, rfl, HF.out.2⟩
    | ok q =>
      obtain ⟨f, n⟩ := q
      have HR := Lib.hid hR
      clear hR
      go_enter Try.func23, Try.ntmps23
      go_wp2_with fail
      refine HR.out.mono ?_
      rintro e w1 ⟨hb, A1, c1, rfl, s1⟩
      have HF := Lib.hid (show _ ∧ _ from ⟨hb, s1⟩)
      clear hb s1 HR
      go_wp2_with fail
      go_ret2
      exact ⟨HF.out.1, A1, c1, rfl, HF.out.2⟩

theorem ref_sizeof (A : Option Addr) (cap : Nat) (l : List UInt8) (w : World) (p : Nat → Prop) (hs : SeesP w p A (Us l)) (hl : l.length ≤ 140737488351232) (hcap : l.length ≤ cap) :
    Calls Try.prog 25 #[.slice A l.length cap] w fun e w' => e = .returned (.tuple #[.int .i64 (szN l : Int), .int .i64 (szE l)]) ∧ ∃ q, w' = w.drewN q := by
  have HTG := ref_tag A cap l w p hs hl
  unfold RTagIs at HTG
  obtain ⟨x, hx⟩ : ∃ x, x = tagE l := ⟨_, rfl⟩
  rw [← hx] at HTG
  by_cases hx0 : x = 0
  · subst hx0
    rw [if_pos rfl, if_pos rfl] at HTG
    have hT := hx.symm
    have htl := tagN_len hT
    have hE0 : szE l ≠ 0 → szN l = 0 := fun h => by unfold szN; rw [if_neg h]
    obtain ⟨t, ht⟩ : ∃ t, t = tagV l := ⟨_, rfl⟩
    have htv : t ≤ 65535 := by rw [ht]; exact tagV_le l
    obtain ⟨z, hz⟩ : ∃ z, z = tagN (t : Nat) := ⟨_, rfl⟩
    rw [← ht] at HTG htl
    rw [← hz] at HTG htl
    obtain ⟨xs, hxs⟩ : ∃ xs, xs = rzE (consB (t : Int)) false (l.drop z) := ⟨_, rfl⟩
    obtain ⟨N, hN⟩ : ∃ N, N = if xs = 0 then rzN (l.drop z) else 0 := ⟨_, rfl⟩
    obtain ⟨K, hK⟩ : ∃ K, K = if xs = 0 then rzK (l.drop z) else 0 := ⟨_, rfl⟩
    have hRl : (l.drop z).length = l.length - z := List.length_drop
    have HSZ : ∀ (As : Option Addr) (u : World), SeesP u p As (Us (l.drop z)) → Calls Try.prog 53 #[.slice As (l.length - z) (cap - z), .bool (consB (t : Int)), .bool false] u fun e w' => e = .returned (.tuple #[.int .i64 N, .int .i64 (K : Int), .int .i64 xs]) ∧ w' = u := fun As u hu => by
      have h := ref_size (consB (t : Int)) false As (cap - z) (l.drop z) u p hu (by omega)
      unfold RSizIs at h
      rw [hRl, ← hxs, ← hN] at h
      rw [hK]
      split
      · rename_i h0; rw [if_pos h0] at h; exact h
      · rename_i h0; rw [if_neg h0] at h; exact h
    have HS1 := Lib.hid HSZ
    have HCn := Lib.hid (fun u => ref_cons (t : Int) (by omega) (by omega) u)
    obtain ⟨b0, o0, rfl, hp0, hg0⟩ := sees_byte hs (k := 0) (by omega)
    clear hg0
    have HB := Lib.hid hs
    have hfin : (xs ≠ 0 → szE l = xs) ∧ (xs = 0 → N < 0 → szE l = 5) ∧ (xs = 0 → 0 ≤ N → szE l = 0 ∧ (szN l : Int) = (z : Int) + (K : Int) + N ∧ N < 4294967296) ∧ K ≤ 5 ∧ -1 ≤ N := by
      have hzt : l.drop z = l.drop (tagN (tagV l : Nat)) := by rw [hz, ht]
      refine ⟨fun h => ?_, fun h hn => ?_, fun h hn => ?_, ?_, ?_⟩
      · unfold szE
        by_cases hE : hdrE l = 0
        · obtain ⟨h1, _, _⟩ := rz_good (st := false) hT hE
          rw [hxs, hzt, ht, h1] at h ⊢
          rw [if_neg (by omega)]
          by_cases hf : hdrF l = 128
          · rw [if_pos hf]; split <;> simp_all
          · rw [if_neg hf, if_neg (by simp [hf])]
        · rw [if_pos hE, hxs, hzt, ht, rz_bad hT hE]
      · have hx2 := h
        rw [hxs, hzt, ht] at hx2
        obtain ⟨h1, h2, h3, h4⟩ := rz_fine (st := false) hT hx2
        rw [hN, if_pos h, hzt, h3] at hn
        unfold szE
        rw [if_neg (by omega)]
        by_cases hf : hdrF l = 128
        · rw [if_pos hf]
        · rw [if_neg hf] at hn; omega
      · have hx2 := h
        rw [hxs, hzt, ht] at hx2
        obtain ⟨h1, h2, h3, h4⟩ := rz_fine (st := false) hT hx2
        have hrg := (hdr_range h1).2.2
        rw [hN, if_pos h, hzt, h3] at hn ⊢
        have hf : hdrF l ≠ 128 := fun hf => by rw [if_pos hf] at hn; omega
        rw [if_neg hf]
        have he : szE l = 0 := by unfold szE; rw [if_neg (by omega), if_neg hf]
        refine ⟨he, ?_, by omega⟩
        unfold szN
        rw [if_pos he, hK, if_pos h, ← h4, hz, ht]
        omega
      · rw [hK]
        split
        · rename_i h
          have hx2 := h
          rw [hxs, hzt, ht] at hx2
          obtain ⟨h1, h2, h3, h4⟩ := rz_fine (st := false) hT hx2
          have : hdrS l ≤ tagN (tagV l : Nat) + 5 := by
            have hEE := h1
            unfold hdrE at hEE
            unfold hdrS hdrZ
            split at hEE
            · omega
            · split at hEE
              · omega
              · split at hEE
                · omega
                · split <;> omega
          rw [hzt]; omega
        · omega
      · rw [hN]
        split
        · unfold rzN; split
          · omega
          · split <;> omega
        · omega
    have HF := Lib.hid (show (xs ≠ 0 → szE l = xs) ∧ (xs = 0 → N < 0 → szE l = 5) ∧ (xs = 0 → 0 ≤ N → szE l = 0 ∧ (szN l : Int) = (z : Int) + (K : Int) + N ∧ N < 4294967296) ∧ (szE l ≠ 0 → szN l = 0) from ⟨hfin.1, hfin.2.1, hfin.2.2.1, hE0⟩)
    have hK5 := hfin.2.2.2.1
    have hN1 := hfin.2.2.2.2
    have hz2 : z ≤ 2 := by rw [hz]; exact tagN_le _
    clear HSZ hx ht hz hxs hN hK hRl hfin hE0 hT hs
    go_enter Try.func25, Try.ntmps25
    go_upto_if 16 with (go_at_call 52; refine HTG.mono ?_; rintro e w1 ⟨rfl, hq1⟩; have HQ1 := Lib.hid hq1; clear hq1)
    clear HTG
    go_upto_region 4 with fail
    have HS2 := Lib.hid (show ∀ As n, SeesP w p As (Us (l.drop z)) → Calls Try.prog 53 #[.slice As (l.length - z) (cap - z), .bool (consB (t : Int)), .bool false] (w1.drewN n) fun e w' => e = .returned (.tuple #[.int .i64 N, .int .i64 (K : Int), .int .i64 xs]) ∧ w' = w1.drewN n from fun As n hu => HS1.out As _ (by
      obtain ⟨q, rfl⟩ := HQ1.out
      exact hu.keep fun _ _ => rfl))
    have HR := Lib.hid (show ∀ n : Nat, ∃ q, w1.drewN n = w.drewN q from fun n => by
      obtain ⟨q, rfl⟩ := HQ1.out
      exact ⟨_, World.drewN_drewN _ _ _⟩)
    go_cut [6, 7, 8] from 9 to 37 (fun v6 v7 v8 wx => v8 = .int .i64 (K : Int) ∧ v6 = .int .i64 xs ∧ v7 = .int .i64 N ∧ Hid (∃ q, wx = w.drewN q))
    case first =>
      by_cases hca : cap = z
      · have HS3 := Lib.hid (fun n => HS2.out (some ⟨b0, o0, none⟩) n (sees_empty (by omega)))
        have e0 : cap - z = 0 := by omega
        rw [e0] at HS3
        have hcE : (cap = z) = True := eq_true hca
        clear HS1 HS2 hca HF
        go_quiet ((first | (go_at_call 15; exact Calls.quiet_of_same (HCn.out _)) | (go_at_call 53; exact Calls.quiet_of_same (HS3.out _))))
        go_wp2_with fail
        go_meet
        exact ⟨rfl, rfl, rfl, Lib.hid (HR.out _)⟩
      · have hca2 : z < cap := by omega
        have HS3 := Lib.hid (fun n => HS2.out (some ⟨b0, o0 + z, none⟩) n (sees_drop HB.out (by omega)))
        clear HS1 HS2 HF
        go_quiet ((first | (go_at_call 15; exact Calls.quiet_of_same (HCn.out _)) | (go_at_call 53; exact Calls.quiet_of_same (HS3.out _))))
        go_wp2_with fail
        go_meet
        exact ⟨rfl, rfl, rfl, Lib.hid (HR.out _)⟩
    case rest =>
      obtain ⟨rfl, rfl, rfl, hq⟩ := hcut
      clear HS1 HS2 HR HQ1 HB HCn
      by_cases hxs : xs = 0
      · subst hxs
        by_cases hn : N < 0
        · have d1 : decide (N < 0) = true := by simpa using hn
          have he := HF.out.2.1 rfl hn
          have HD := Lib.hid (show szE l = 5 ∧ szN l = 0 from ⟨he, HF.out.2.2.2 (by rw [he]; decide)⟩)
          clear HF he hn
          go_wp2_with fail
          go_ret2
          rw [HD.out.1, HD.out.2]
          exact ⟨rfl, hq.out⟩
        · have d1 : decide (N < 0) = false := by simpa using hn
          have he := HF.out.2.2.1 rfl (by omega)
          have HD := Lib.hid (show szE l = 0 ∧ (szN l : Int) = (z : Int) + (K : Int) + N from ⟨he.1, he.2.1⟩)
          have hn32 := he.2.2
          clear HF he
          go_wp2_with fail
          go_ret2
          rw [HD.out.1, HD.out.2]
          exact ⟨rfl, hq.out⟩
      · have d1 : (xs != 0) = true := by simpa using hxs
        have he := HF.out.1 hxs
        have HD := Lib.hid (show szE l = xs ∧ szN l = 0 from ⟨he, HF.out.2.2.2 (by rw [he]; exact hxs)⟩)
        clear HF he hxs
        go_wp2_with fail
        go_ret2
        rw [HD.out.1, HD.out.2]
        exact ⟨rfl, hq.out⟩
  · rw [if_neg hx0, if_neg hx0] at HTG
    have he : szE l = x := by unfold szE; rw [hdrE_tag (by omega), ← hx, if_pos hx0]
    have hn : szN l = 0 := by unfold szN; rw [he, if_neg hx0]
    have d1 : (x != 0) = true := by simpa using hx0
    rw [he, hn]
    clear hx hx0 he hn
    go_enter Try.func25, Try.ntmps25
    go_wp2_with (go_at_call 52; refine HTG.mono ?_; rintro e w1 ⟨rfl, hq1⟩; have HQ1 := Lib.hid hq1; clear hq1)
    go_ret2
    exact ⟨rfl, HQ1.out⟩

/-- what Canonical answers -/
def canE : Except Int (F × Nat) → Int
  | .error x => x
  | .ok (f, _) => encE f
def canB : Except Int (F × Nat) → List UInt8
  | .error _ => []
  | .ok (f, _) => encB f
theorem F.fit_sm : ∀ {f : F} {m : Nat}, f.fit m → f.sm
  | .nil, _, _ => trivial
  | .cons t v k r, m, ⟨h1, h2, h3, h4, h5, h6, h7⟩ => ⟨h5, F.fit_sm h6, F.fit_sm h7⟩

theorem tlv_canonical (l : List UInt8) (A : Option Addr) (cap : Nat) (w : World) (hl : l.length ≤ 140737488351232) (hcap : l.length ≤ cap) (hs : SeesP w (· < w.heap.size) A (Us l)) :
    Calls Try.prog 26 #[.slice A l.length cap] w (GivesN w (canB (parse false l)) (canE (parse false l))) := by
  have hP := tlv_parse false l A cap w hl hcap hs
  obtain ⟨r, hr⟩ : ∃ r, r = parse false l := ⟨_, rfl⟩
  rw [← hr] at hP ⊢
  have HP := Lib.hid hP
  clear hP hs
  cases r with
  | error x =>
    go_enter Try.func26, Try.ntmps26
    go_wp2_with fail
    refine HP.out.mono ?_
    rintro e w1 ⟨hb1, rfl, hx⟩
    have d1 : (x != 0) = true := by simpa using hx
    have HF := Lib.hid hb1
    clear hr HP hb1 hx
    go_wp2_with fail
    go_ret2
    exact ⟨none, 0, rfl, .inl rfl, HF.out, Nat.le_refl _⟩
  | ok q =>
    obtain ⟨f, n⟩ := q
    obtain ⟨h1, h2⟩ := parse_fits hr.symm
    have HX := Lib.hid (show f.size < 1125899906842624 ∧ f.ok from ⟨by omega, F.fit_ok h1⟩)
    clear hr h1 h2
    go_enter Try.func26, Try.ntmps26
    go_wp2_with fail
    refine HP.out.mono ?_
    rintro e w1 ⟨hb1, A1, c1, rfl, hs1⟩
    have HE := Lib.hid (tlv_encode_n f A1 c1 w1 HX.out.1 HX.out.2 (hs1.imp fun b hb => hb.2))
    have HB := Lib.hid hb1
    clear HP hb1 hs1
    go_wp2_with fail
    refine HE.out.mono ?_
    rintro e w2 ⟨A2, c2, rfl, s2, hb2, hc2⟩
    have HF := Lib.hid (show GivesN w (encB f) (encE f) (.returned (.tuple #[.slice A2 (encB f).length c2, .int .i64 (encE f)])) w2 from ⟨A2, c2, rfl, s2.imp fun b hb => ⟨Nat.le_trans HB.out.size hb.1, hb.2⟩, below_on HB.out hb2, hc2⟩)
    clear s2 hb2 hc2 HE HB
    go_wp2_with fail
    go_ret2
    exact HF.out
theorem ref_canonical (l : List UInt8) (A : Option Addr) (cap : Nat) (w : World) (hl : l.length ≤ 140737488351232) (hcap : l.length ≤ cap) (hs : SeesP w (· < w.heap.size) A (Us l)) :
    Calls Try.prog 27 #[.slice A l.length cap] w (GivesN w (canB (parse false l)) (canE (parse false l))) := by
  have hP := ref_parse false l A cap w hl hcap hs
  obtain ⟨r, hr⟩ : ∃ r, r = parse false l := ⟨_, rfl⟩
  rw [← hr] at hP ⊢
  have HP := Lib.hid hP
  clear hP hs
  cases r with
  | error x =>
    go_enter Try.func27, Try.ntmps27
    go_wp2_with fail
    refine HP.out.mono ?_
    rintro e w1 ⟨hb1, rfl, hx⟩
    have d1 : (x != 0) = true := by simpa using hx
    have HF := Lib.hid hb1
    clear hr HP hb1 hx
    go_wp2_with fail
    go_ret2
    exact ⟨none, 0, rfl, .inl rfl, HF.out, Nat.le_refl _⟩
  | ok q =>
    obtain ⟨f, n⟩ := q
    obtain ⟨h1, h2⟩ := parse_fits hr.symm
    have HX := Lib.hid (show f.size < 1125899906842623 ∧ f.ok ∧ f.sm from ⟨by omega, F.fit_ok h1, F.fit_sm h1⟩)
    clear hr h1 h2
    go_enter Try.func27, Try.ntmps27
    go_wp2_with fail
    refine HP.out.mono ?_
    rintro e w1 ⟨hb1, A1, c1, rfl, hs1⟩
    have HE := Lib.hid (ref_encode f A1 c1 w1 HX.out.1 HX.out.2.1 HX.out.2.2 (hs1.imp fun b hb => hb.2))
    have HB := Lib.hid hb1
    clear HP hb1 hs1
    go_wp2_with fail
    refine HE.out.mono ?_
    rintro e w2 ⟨A2, c2, rfl, s2, hb2, hc2, _⟩
    have HF := Lib.hid (show GivesN w (encB f) (encE f) (.returned (.tuple #[.slice A2 (encB f).length c2, .int .i64 (encE f)])) w2 from ⟨A2, c2, rfl, s2.imp fun b hb => ⟨Nat.le_trans HB.out.size hb.1, hb.2⟩, below_on HB.out hb2, hc2⟩)
    clear s2 hb2 hc2 HE HB
    go_wp2_with fail
    go_ret2
    exact HF.out

end Go.Proofs.Ytipmmclahngabaa
