/-
  What is proved here: what the reference's Encode and Plain return for objects whose Values have at most 4096 bytes.
-/
import Derived.Test.YtkgfdbbdmchmeaaDoorZ31
import Derived.Test.YtkgfdbbdmchmeaaDoorZ13
import Derived.Test.YtkgfdbbdmchmeaaDoorZ22
import Derived.Test.YtkgfdbbdmchmeaaDoorZ1
import Derived.Test.YtkgfdbbdmchmeaaDoorZ17
import Derived.Test.YtkgfdbbdmchmeaaDoorZ19
import Derived.Test.YtkgfdbbdmchmeaaDoorZ20
import Derived.Test.YtkgfdbbdmchmeaaDoorRows
import Derived.Test.YtkgfdbbdmchmeaaDoorZ28
import Derived.BigQuiet
import Derived.Lib.Strings
import Derived.Lib.Slices
import Derived.Lib.Small
import Derived.Lib.Walk
import Derived.Lib.BitFns
import Derived.Deep.RegionWith
import Derived.Laws.ResultCell
import Derived.Laws.Rows
import Derived.ProofKit
import Derived.OpenShut
import Derived.ShutString
import Derived.ChangeOld
import Derived.SizedLaws
import Derived.Deep.CutRange
import Derived.Laws.AppendOwnNone
import Derived.Deep.RegionLaw
import Derived.Deep.AppendLies
import Derived.Lib.AppendZerosOnto
import Derived.Deep.DeepMust
namespace Go.Proofs.YtkgfdbbdmchmeaaDoor
open Go.RowKit
set_option maxRecDepth 8000
set_option linter.unusedVariables false
theorem F.gd_sm : ∀ {f : F} {m : Nat}, f.gd m → f.sm
  | .nil, _, _ => trivial
  | .cons t v k r, m, ⟨h1, h2, h3, h4, h5, h6, h7, h8⟩ => ⟨by omega, F.gd_sm h7, F.gd_sm h8⟩
theorem F.raw_of : ∀ {f : F} {d : Int}, chkE f d = 0 → f.sq → f.raw
  | .nil, _, _, _ => trivial
  | .cons t v k r, d, h, ⟨s1, s2, s3⟩ => by
    by_cases h1 : chk1 t v.length k.len d = 0
    · by_cases h2 : chkE k (d + 1) = 0
      · rw [chkE_3 h1 h2] at h
        refine ⟨?_, s1, ?_, ?_, F.raw_of h2 s2, F.raw_of h s3⟩
        all_goals
          unfold chk1 at h1
          split at h1
          · omega
          · rename_i hv
            split at h1
            · omega
            · rename_i hf
              first
                | exact valid_range (by cases hq : validB t; exact absurd hq (by simpa using hv); rfl)
                | (intro hc
                   have hz : ¬ 0 < v.length := fun h0 => hf (.inl ⟨hc, h0⟩)
                   exact List.eq_nil_of_length_eq_zero (by omega))
                | (intro hc
                   have hz : ¬ 0 < k.len := fun h0 => hf (.inr ⟨hc, h0⟩)
                   exact F.len_zero (by omega))
      · rw [chkE_2 h1 h2] at h; exact absurd h h2
    · rw [chkE_1 h1] at h; exact absurd h h1
def GivesZ (w : World) (bs : List UInt8) (er : Int) (e : Ending) (w' : World) : Prop :=
  ∃ A c, e = .returned (.tuple #[.slice A bs.length c, .int .i64 er]) ∧ SeesP w' (fun b => w.heap.size ≤ b ∧ b < w'.heap.size) A (Us bs) ∧ Below w.heap.size w w' ∧ bs.length ≤ c ∧ (A = none → c = 0)
theorem renc_fail {f : F} {x : Int} {w w' : World} (h : encE f = x) (hx : x ≠ 0) (hb : Below w.heap.size w w') : GivesZ w (encB f) (encE f) (.returned (.tuple #[.slice none 0 0, .int .i64 x])) w' := by
  have hB : encB f = [] := by unfold encB; rw [if_neg (by rw [h]; exact hx)]
  rw [hB, h]
  exact ⟨none, 0, rfl, .inl rfl, hb, Nat.le_refl _, fun _ => rfl⟩
set_option maxHeartbeats 1000000 in
theorem ref_encode_q (f : F) (A : Option Addr) (c : Nat) (w : World) (hsz : f.size < 1125899906842623) (hok : f.ok) (hsm : f.sq) (hs : SeesQ w (· < w.heap.size) A f) :
    Calls Tryd.prog 30 #[.slice A f.len c] w (GivesZ w (encB f) (encE f)) := by
  have hc := ref_check 1125899906842624 f A c 1 w (by omega) (Nat.le_refl _) hok (by decide) (by decide) hs.sees
  unfold RChkIs at hc
  obtain ⟨x, hx⟩ : ∃ x, x = chkE f 1 := ⟨_, rfl⟩
  rw [← hx] at hc
  have HC := Lib.hid hc
  clear hc
  by_cases h1 : x = 0
  · subst h1
    have HX := Lib.hid (show f.raw ∧ chkE f 1 = 0 from ⟨F.raw_of hx.symm hsm, hx.symm⟩)
    have HS := Lib.hid hs
    clear hx hsm hok hs
    go_enter Tryd.func30, Tryd.ntmps30
    go_wp2_with fail
    refine HC.out.mono ?_
    rintro e w1 ⟨rfl, hb1⟩
    have HB1 := Lib.hid hb1
    have HN := Lib.hid (ref_count 1125899906842624 f A c w1 _ (by omega) (Nat.le_refl _) (HS.out.sees.on hb1))
    clear hb1 HC
    go_wp2_with fail
    refine HN.out.mono ?_
    rintro e w2 ⟨m, rfl, hm, rfl⟩
    have HM := Lib.hid hm
    have hmf := hm.1
    clear hm HN
    by_cases h2 : 256 < f.size
    · have d1 : decide ((256 : Int) < (m : Int)) = true := by have := HM.out.2.2 h2; simp; omega
      have HF := Lib.hid (renc_fail (show encE f = 2 by unfold encE; rw [if_neg (by rw [HX.out.2]; decide), if_pos h2]) (by decide) HB1.out)
      clear h2 HX HS HM HB1
      go_wp2_with fail
      go_ret2
      exact HF.out
    · have d1 : decide ((256 : Int) < (m : Int)) = false := by have := HM.out.2.1 (by omega); simp; omega
      have HR := Lib.hid (ref_raw 1125899906842624 (by decide) f A c w2 (by omega) HX.out.1 (HS.out.on HB1.out))
      go_wp2_with fail
      refine HR.out.mono ?_
      rintro e w3 ⟨b, A3, c3, rfl, hcl, hcn, hss, he1, he2, hbl, hbw⟩
      have HZ := Lib.hid (show _ ∧ _ ∧ _ from ⟨hss, he1, he2⟩)
      have HB3 := Lib.hid (below_on HB1.out hbw)
      have hw2 := HB1.out.size
      have HC3 := Lib.hid (show b.length ≤ c3 ∧ (A3 = none → c3 = 0) from ⟨hcl, hcn⟩)
      clear hss he1 he2 hbw HR hcl hcn
      by_cases h3 : 4096 < encN f
      · have d2 : decide ((4096 : Int) < (b.length : Int)) = true := by have := HZ.out.2.2 h3; simp; omega
        have HF := Lib.hid (renc_fail (show encE f = 2 by unfold encE; rw [if_neg (by rw [HX.out.2]; decide), if_neg h2, if_pos h3]) (by decide) HB3.out)
        clear h2 h3 HX HS HM HB1 HZ HC3
        go_wp2_with fail
        go_ret2
        exact HF.out
      · have hbe := HZ.out.2.1 (by omega)
        have d2 : decide ((4096 : Int) < (b.length : Int)) = false := by have := enc_length f; rw [← hbe] at this; simp; omega
        have hE : encE f = 0 := by unfold encE; rw [if_neg (by rw [HX.out.2]; decide), if_neg h2, if_neg h3]
        have hB : encB f = b := by unfold encB; rw [if_pos hE, hbe]
        have HF := Lib.hid (show GivesZ w (encB f) (encE f) (.returned (.tuple #[.slice A3 b.length c3, .int .i64 0])) w3 from by
          rw [hB, hE]
          exact ⟨A3, c3, rfl, HZ.out.1.imp fun q hq => ⟨Nat.le_trans hw2 hq.1, hq.2⟩, HB3.out, HC3.out.1, HC3.out.2⟩)
        clear h2 h3 HX HS HM HB1 HZ HC3 hbe hE hB
        go_wp2_with fail
        go_ret2
        exact HF.out
  · have HF := Lib.hid (show ∀ w', Below w.heap.size w w' → GivesZ w (encB f) (encE f) (.returned (.tuple #[.slice none 0 0, .int .i64 x])) w' from fun w' hb => renc_fail (show encE f = x by unfold encE; rw [if_pos (by omega)]; exact hx.symm) h1 hb)
    have d1 : (x != 0) = true := by simpa using h1
    clear h1 hx hs hsm hok
    go_enter Tryd.func30, Tryd.ntmps30
    go_wp2_with fail
    refine HC.out.mono ?_
    rintro e w1 ⟨rfl, hb1⟩
    have HD := Lib.hid (HF.out _ hb1)
    clear hb1 HC HF
    go_wp2_with fail
    go_ret2
    exact HD.out
end Go.Proofs.YtkgfdbbdmchmeaaDoor
namespace Go.Proofs.YtkgfdbbdmchmeaaDoor
open Go.RowKit
set_option maxRecDepth 8000
set_option linter.unusedVariables false
set_option linter.unusedSimpArgs false
def wrF (n : Int) (f : F) : F := .cons (gtV n) [] f .nil
def wrE (n : Int) (f : F) : Int := if gtE n = 0 then encE (wrF n f) else gtE n
def wrB (n : Int) (f : F) : List UInt8 := if gtE n = 0 then encB (wrF n f) else []
theorem gtV_bd (n : Int) : 0 ≤ gtV n ∧ gtV n ≤ 119 := by
  by_cases h : n < 1 ∨ 18 < n
  · rw [(gt_no h).1]; decide
  · obtain ⟨k, hk⟩ : ∃ k : Nat, n = (k : Int) + 1 := ⟨(n - 1).toNat, by omega⟩
    have hk18 : k < 18 := by omega
    rw [(gt_yes hk hk18).1]
    have := tagsG_bd k hk18
    omega
theorem wrF_ok {n : Int} {f : F} (h : f.ok) : (wrF n f).ok := by
  have := gtV_bd n
  exact ⟨by omega, Nat.zero_le _, h, trivial⟩
theorem wrF_sq {n : Int} {f : F} (h : f.sq) : (wrF n f).sq := ⟨Nat.zero_le _, h, trivial⟩
theorem wrF_size (n : Int) (f : F) : (wrF n f).size = f.size + 1 := by simp [wrF, F.size]
theorem wrF_sees {w : World} {g : Nat} {n : Int} {f : F} {A : Option Addr} {ck : Nat} (hr : RowV w g (nodV (gtV n) none 0 0 A f.len ck)) (hs : SeesQ w (· < w.heap.size) A f) : SeesQ w (· < w.heap.size) (some ⟨g, 0, none⟩) (wrF n f) := by
  obtain ⟨ks, k1, k2⟩ := hs
  exact ⟨_, .inr ⟨g, 0, rfl, hr.lt, fun j hj => by rw [Nat.zero_add, hr.cell]; rfl⟩, none, 0, A, ck, ks, [], rfl, ⟨fun _ => rfl, fun h => absurd h (by simp)⟩, .inl rfl, k1, k2, rfl⟩
set_option maxHeartbeats 1600000 in
theorem r_wrap (n : Int) (f : F) (lk : Nat) (hlk : f.len = lk) (A : Option Addr) (c : Nat) (w : World) (ht : TabG w) (hlo : -9223372036854775808 ≤ n) (hhi : n ≤ 9223372036854775807) (hsz : f.size < 1125899906842620) (hok : f.ok) (hq : f.sq) (hs : SeesQ w (· < w.heap.size) A f) :
    Calls Tryd.prog 16 #[.int .i64 n, .slice A lk c] w (GivesZ w (wrB n f) (wrE n f)) := by
  have HG := Lib.hid (r_tag n w ht hlo hhi)
  have HS := Lib.hid (show _ ∧ _ from ⟨hs, hlk⟩)
  have HE : Hid (∀ (A : Option Addr) (c : Nat) (w : World), SeesQ w (· < w.heap.size) A (wrF n f) → Calls Tryd.prog 30 #[.slice A 1 c] w (GivesZ w (encB (wrF n f)) (encE (wrF n f)))) := Lib.hid (fun A c w h => ref_encode_q (wrF n f) A c w (by rw [wrF_size]; omega) (wrF_ok hok) (wrF_sq hq) h)
  have HW := Lib.hid (fun (g : Nat) (u : World) (ck : Nat) (h1 : RowV u g (nodV (gtV n) none 0 0 A f.len ck)) (h2 : SeesQ u (· < u.heap.size) A f) => wrF_sees h1 h2)
  have hb1 : wrB n f = if gtE n = 0 then encB (wrF n f) else [] := rfl
  have hb2 : wrE n f = if gtE n = 0 then encE (wrF n f) else gtE n := rfl
  obtain ⟨W, hWr⟩ : ∃ z, wrF n f = z := ⟨_, rfl⟩
  rw [hWr] at HE HW hb1 hb2
  obtain ⟨tv, htv⟩ : ∃ z, gtV n = z := ⟨_, rfl⟩
  obtain ⟨te, hte⟩ : ∃ z, gtE n = z := ⟨_, rfl⟩
  rw [htv] at HG HW
  rw [hte] at HG hb1 hb2
  by_cases h0 : te = 0
  · have d0 : (te != 0) = false := by simpa using h0
    rw [if_pos h0] at hb1 hb2
    have HF := Lib.hid (show wrB n f = encB W ∧ wrE n f = encE W from ⟨hb1, hb2⟩)
    subst h0
    clear hb1 hb2 hWr htv hte ht hs hlk hsz hok hq hlo hhi
    go_enter Tryd.func16, Tryd.ntmps16
    go_wp2_with (first
      | (go_at_call 6; ((with_reducible refine HG.out.mono ?_); rintro e w1 ⟨rfl, hw1⟩); (have hw2 := hw1.symm; clear hw1; subst hw2))
      | (go_at_call 31; ((with_reducible refine (r_cons tv A lk c _).mono ?_); rintro e w2 ⟨rfl, hb⟩); have H2 := Lib.hid hb; clear hb)
      | ((with_reducible refine at_any_ (d := 19) ?_); go_must (refine wpList_bslV rfl 31 50 1 _ rfl Tryd.underlying31 (pe1 rfl) (bs1 _ _ _) ?_); intro g5 w3 hf hr; have H3 := Lib.hid (show Below w.heap.size w w3 ∧ SeesQ w3 (· < w3.heap.size) (some ⟨g5, 0, none⟩) W from ⟨below_on H2.out hf.bw, HW.out g5 w3 c (by rw [HS.out.2]; exact hr) (HS.out.1.on (below_on H2.out hf.bw))⟩); clear hf hr)
      | (go_at_call 30; ((with_reducible refine (HE.out _ _ _ H3.out.2).mono ?_); rintro e w4 ⟨A4, c4, rfl, h1, h2, h3⟩); have H4 := Lib.hid (show _ ∧ _ ∧ _ from ⟨h1, h2, h3⟩); clear h1 h2 h3))
    have HD := Lib.hid (show GivesZ w (wrB n f) (wrE n f) (.returned (.tuple #[.slice A4 (encB W).length c4, .int .i64 (encE W)])) w4 from by
      rw [HF.out.1, HF.out.2]
      exact ⟨A4, c4, rfl, H4.out.1.imp fun b hb => ⟨Nat.le_trans H3.out.1.size hb.1, hb.2⟩, below_on H3.out.1 H4.out.2.1, H4.out.2.2⟩)
    go_ret2
    exact HD.out
  · have d0 : (te != 0) = true := by simpa using h0
    rw [if_neg h0] at hb1 hb2
    have HD := Lib.hid (show GivesZ w (wrB n f) (wrE n f) (.returned (.tuple #[.slice none 0 0, .int .i64 te])) w from by
      rw [hb1, hb2]
      exact ⟨none, 0, rfl, .inl rfl, Below.refl _ _, Nat.le_refl _, fun _ => rfl⟩)
    clear hb1 hb2 hWr htv hte ht hs hlk hsz hok hq h0 hlo hhi HE HW
    go_enter Tryd.func16, Tryd.ntmps16
    go_wp2_with (first
      | (go_at_call 6; ((with_reducible refine HG.out.mono ?_); rintro e w1 ⟨rfl, hw1⟩); (have hw2 := hw1.symm; clear hw1; subst hw2)))
    go_ret2
    exact HD.out
end Go.Proofs.YtkgfdbbdmchmeaaDoor
