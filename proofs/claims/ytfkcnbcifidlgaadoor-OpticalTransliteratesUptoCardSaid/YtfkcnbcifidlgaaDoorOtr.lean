/-
  What is proved here: what the reference's Transliterate returns, for texts of at most 2^24 bytes.
-/
import Derived.Test.YtfkcnbcifidlgaaDoorOlx
import Derived.Laws.Cover4
namespace Go.Proofs.YtfkcnbcifidlgaaDoor
open Go.RowKit

/-- the text of the runes; none: a rune that is not permitted -/
def trL : List Nat → Bool → List UInt8 → Option (List UInt8)
  | [], _, t => some t
  | c :: R, g, t =>
    if c = 39 ∨ c = 44 ∨ c = 46 then trL R g t
    else if c = 32 ∨ c = 45 then trL R true t
    else match letP c with
      | none => none
      | some x => trL R false (t ++ (if g = true ∧ t ≠ [] then [32] else []) ++ x)

theorem findR_mem {n : Nat} : ∀ {L : List Rw} {x : List UInt8}, findR n L = some x → ∃ r, r ∈ L ∧ r.2 = x ∧ n ∈ r.1
  | [], _, h => by cases h
  | r :: L, x, h => by
    unfold findR at h
    by_cases hm : n ∈ r.1
    · rw [if_pos hm] at h; exact ⟨r, by simp, Option.some.inj h, hm⟩
    · rw [if_neg hm] at h
      obtain ⟨r2, h1, h2⟩ := findR_mem h
      exact ⟨r2, by simp [h1], h2⟩
def capB (b : UInt8) : Bool := decide (65 ≤ b.toNat) && decide (b.toNat ≤ 90)
theorem rows_caps : rowsP.all (fun r => r.2.all capB && decide (r.2 ≠ [])) = true := by decide +kernel
theorem letP_some {n : Nat} {x : List UInt8} (h : letP n = some x) : x ≠ [] ∧ x.length ≤ 2 ∧ x.all capB = true := by
  unfold letP at h
  by_cases h1 : 65 ≤ n ∧ n ≤ 90
  · rw [if_pos h1] at h
    obtain rfl := Option.some.inj h
    have : (UInt8.ofNat n).toNat = n := nat_byte (by omega)
    refine ⟨by simp, by simp, ?_⟩
    simp only [List.all_cons, List.all_nil, Bool.and_true, capB, this, Bool.and_eq_true, decide_eq_true_eq]
    omega
  · rw [if_neg h1] at h
    by_cases h2 : 97 ≤ n ∧ n ≤ 122
    · rw [if_pos h2] at h
      obtain rfl := Option.some.inj h
      have : (UInt8.ofNat (n - 32)).toNat = n - 32 := nat_byte (by omega)
      refine ⟨by simp, by simp, ?_⟩
      simp only [List.all_cons, List.all_nil, Bool.and_true, capB, this, Bool.and_eq_true, decide_eq_true_eq]
      omega
    · rw [if_neg h2] at h
      obtain ⟨r, h3, h4, h5⟩ := findR_mem h
      have h6 := List.all_eq_true.1 rows_caps r h3
      simp only [Bool.and_eq_true, decide_eq_true_eq] at h6
      rw [← h4]
      exact ⟨h6.2, (row_ok h3).2.2.2, h6.1⟩

theorem tr_mark {R : List Nat} {k : Nat} (hk : k < R.length) (h : R[k] = 39 ∨ R[k] = 44 ∨ R[k] = 46) (g : Bool) (t : List UInt8) : trL (R.drop k) g t = trL (R.drop (k + 1)) g t := by
  rw [List.drop_eq_getElem_cons hk]; simp only [trL]; rw [if_pos h]
theorem tr_gap {R : List Nat} {k : Nat} (hk : k < R.length) (h : R[k] = 32 ∨ R[k] = 45) (g : Bool) (t : List UInt8) : trL (R.drop k) g t = trL (R.drop (k + 1)) true t := by
  rw [List.drop_eq_getElem_cons hk]; simp only [trL]; rw [if_neg (by omega), if_pos h]
theorem tr_bad {R : List Nat} {k : Nat} (hk : k < R.length) (h : ¬ (R[k] = 39 ∨ R[k] = 44 ∨ R[k] = 46)) (h2 : ¬ (R[k] = 32 ∨ R[k] = 45)) (hl : letP R[k] = none) (g : Bool) (t : List UInt8) : trL (R.drop k) g t = none := by
  rw [List.drop_eq_getElem_cons hk]; simp only [trL]; rw [if_neg h, if_neg h2, hl]
theorem tr_good {R : List Nat} {k : Nat} (hk : k < R.length) (h : ¬ (R[k] = 39 ∨ R[k] = 44 ∨ R[k] = 46)) (h2 : ¬ (R[k] = 32 ∨ R[k] = 45)) {x : List UInt8} (hl : letP R[k] = some x) (g : Bool) (t : List UInt8) :
    trL (R.drop k) g t = trL (R.drop (k + 1)) false (t ++ (if g = true ∧ t ≠ [] then [32] else []) ++ x) := by
  rw [List.drop_eq_getElem_cons hk]; simp only [trL]; rw [if_neg h, if_neg h2, hl]

theorem bytes_eq {a b : ByteArray} (h : a.toList = b.toList) : a = b := by
  have ha := S_toList a.data.toList
  have hb := S_toList b.data.toList
  rw [← S_of] at ha hb
  rw [S_of a, S_of b, ← ha, ← hb, h]
/-- what the runes encode to -/
def backB (R : List Nat) : ByteArray := runesBytes (R.map fun (n : Nat) => (n : Int))
theorem conv_back (R : List Nat) (w : World) (b cap : Nat) (h : ∀ j, (hj : j < R.length) → w.cell? ⟨b, j, none⟩ = some (.int .i32 (R[j] : Nat))) :
    (convert 47 9 (.slice (some ⟨b, 0, none⟩) R.length cap)).run Tryd.prog w = .ok (.string (backB R)) w := by
  have := run_convert_runes (P := Tryd.prog) w 47 9 21 ⟨b, 0, none⟩ R.length cap (R.map fun (n : Nat) => (n : Int)) (by simp) Tryd.underlying47 Tryd.underlying21 Tryd.underlying9 (fun j hj => by
    have hj : j < R.length := by simpa using hj
    have h1 := h j hj
    have h2 : (⟨b, 0, none⟩ : Addr).add j = ⟨b, j, none⟩ := by
      unfold Addr.add
      by_cases e : j = 0
      · rw [if_pos e, e]
      · rw [if_neg e]; simp
    rw [h2, h1]
    simp [List.getD, hj])
  rw [this, List.take_of_length_le (by simp)]
  rfl

set_option maxRecDepth 40000 in
set_option maxHeartbeats 8000000 in
theorem r_tr_bad (s : ByteArray) (hs : s.size ≤ 16777216) (hv : backB (rl s s.size 0) ≠ s) (w : World) :
    Calls Tryd.prog 17 #[.string s] w fun e w' => e = .returned (.tuple #[.string ⟨#[]⟩, .int .i64 1]) ∧ Below w.heap.size w w' := by
  have hcv := conv_runes s (by omega) w
  have hci := cells_i32
  obtain ⟨R, hR⟩ : ∃ R, rl s s.size 0 = R := ⟨_, rfl⟩
  rw [hR] at hcv hv
  have hbz : Below w.heap.size w (w.drew.alloc (runeCells w R)) := (Below.refl _ w).drew.alloc (by exact Nat.le_refl _) _
  have hcb := fun cap => conv_back R (w.drew.alloc (runeCells w R)) w.heap.size cap (fun j hj => rune_cell hj)
  obtain ⟨wz, hwz⟩ : ∃ wz, w.drew.alloc (runeCells w R) = wz := ⟨_, rfl⟩
  rw [hwz] at hcv hbz hcb
  obtain ⟨B, hB⟩ : ∃ B, backB R = B := ⟨_, rfl⟩
  rw [hB] at hcb hv
  have hne : (B.toList == s.toList) = false := by
    rw [beq_eq_false_iff_ne]
    intro e
    exact hv (bytes_eq e)
  clear hwz hB hv hR
  go_enter Tryd.func17, Tryd.ntmps17
  go_wp2_with fail
  go_ret2
  exact ⟨rfl, hbz⟩

set_option maxRecDepth 40000 in
set_option maxHeartbeats 8000000 in
theorem r_tr_good (s : ByteArray) (hs : s.size ≤ 16777216) (hv : backB (rl s s.size 0) = s) (w : World) (hT : TabL 4 rowsR w) :
    Calls Tryd.prog 17 #[.string s] w fun e w' => e = .returned (.tuple #[.string (S ((trL (rl s s.size 0) false []).getD [])), .int .i64 (if (trL (rl s s.size 0) false []).isSome then 0 else 12)]) ∧ Below w.heap.size w w' := by
  have hcv := conv_runes s (by omega) w
  have hci := cells_i32
  have hRl := rl_len s s.size 0
  obtain ⟨R, hR⟩ : ∃ R, rl s s.size 0 = R := ⟨_, rfl⟩
  rw [hR] at hcv hv hRl ⊢
  have hR24 : R.length ≤ 16777216 := by omega
  have hbz : Below w.heap.size w (w.drew.alloc (runeCells w R)) := (Below.refl _ w).drew.alloc (by exact Nat.le_refl _) _
  have hcb := fun cap => conv_back R (w.drew.alloc (runeCells w R)) w.heap.size cap (fun j hj => rune_cell hj)
  have hcz : ∀ j, (hj : j < R.length) → (w.drew.alloc (runeCells w R)).cell? ⟨w.heap.size, j, none⟩ = some (.int .i32 (R[j] : Nat)) := fun j hj => rune_cell hj
  obtain ⟨wz, hwz⟩ : ∃ wz, w.drew.alloc (runeCells w R) = wz := ⟨_, rfl⟩
  rw [hwz] at hcv hbz hcb hcz
  rw [hv] at hcb
  have hTz := hT.below (by decide) hbz
  have HTZ := Lib.hid hTz
  have HCZ := Lib.hid hcz
  obtain ⟨rs, hrs⟩ : ∃ rs, S ((trL R false []).getD []) = rs := ⟨_, rfl⟩
  obtain ⟨rc, hrc⟩ : ∃ rc : Int, (if (trL R false []).isSome then 0 else 12) = rc := ⟨_, rfl⟩
  rw [hrs, hrc]
  have HRS := Lib.hid hrs
  have HRC := Lib.hid hrc
  clear hwz hv hR hRl hTz hcz hT hrs hrc
  go_enter Tryd.func17, Tryd.ntmps17
  go_wp2_with fail
  go_loopw [5, 6, 7] (fun vo vg vi wr => ∃ (k : Nat) (t : List UInt8) (g : Bool) (o : ByteArray), vo = .string o ∧ vg = .bool g ∧ vi = .int .i64 k ∧ k ≤ R.length ∧ Hid (o = S t) ∧ Hid (t.length ≤ 3 * k) ∧ Hid (trL (R.drop k) g t = trL R false []) ∧ Below wz.heap.size wz wr) (fun _ _ vi _ => R.length - (intOf vi).toNat)
  case atStart => exact ⟨0, [], false, ⟨#[]⟩, by go_num, by go_num, by go_num, by omega, Lib.hid rfl, Lib.hid (by simp), Lib.hid rfl, Below.refl _ _⟩
  case round =>
    obtain ⟨k, t, g, o, rfl, rfl, rfl, hk, HO, HL, HF, hbw⟩ := hrel
    by_cases hkl : k < R.length
    · have hck := cell_bl (HCZ.out k hkl) hbw
      have dk : (k : Int) < R.length := by omega
      have bk : (0 : Int) ≤ k := by omega
      obtain ⟨c, hc⟩ : ∃ c, R[k] = c := ⟨_, rfl⟩
      have HC := Lib.hid hc
      rw [hc] at hck
      obtain ⟨m, hm⟩ : ∃ m : Int, (c : Int) = m := ⟨_, rfl⟩
      have HM := Lib.hid hm
      rw [hm] at hck
      have hkl2 := Lib.hid hkl
      clear hc hm
      by_cases hmark : c = 39 ∨ c = 44 ∨ c = 46
      · have HF2 : Hid (trL (R.drop (k + 1)) g t = trL R false []) := Lib.hid (by rw [← HF.out, tr_mark hkl (by rw [HC.out]; exact hmark)])
        have hmm : m = 39 ∨ m = 44 ∨ m = 46 := by have := HM.out; omega
        clear hmark
        rcases hmm with rfl | rfl | rfl
        all_goals
          go_wp2_with fail
          go_roundw
          case rel => exact ⟨k + 1, t, g, o, rfl, rfl, by go_num, by omega, HO, Lib.hid (by have := HL.out; omega), HF2, hbw⟩
          case measure => simp [intOf]; omega
      · by_cases hgap : c = 32 ∨ c = 45
        · have HF2 : Hid (trL (R.drop (k + 1)) true t = trL R false []) := Lib.hid (by rw [← HF.out, tr_gap hkl (by rw [HC.out]; exact hgap)])
          have hmm : m = 32 ∨ m = 45 := by have := HM.out; omega
          clear hmark hgap
          rcases hmm with rfl | rfl
          all_goals
            go_wp2_with fail
            go_roundw
            case rel => exact ⟨k + 1, t, true, o, rfl, rfl, by go_num, by omega, HO, Lib.hid (by have := HL.out; omega), HF2, hbw⟩
            case measure => simp [intOf]; omega
        · have q1 : (m == 39) = false := by rw [beq_eq_false_iff_ne]; have := HM.out; omega
          have q2 : (m == 44) = false := by rw [beq_eq_false_iff_ne]; have := HM.out; omega
          have q3 : (m == 46) = false := by rw [beq_eq_false_iff_ne]; have := HM.out; omega
          have q4 : (m == 32) = false := by rw [beq_eq_false_iff_ne]; have := HM.out; omega
          have q5 : (m == 45) = false := by rw [beq_eq_false_iff_ne]; have := HM.out; omega
          have hle := r_let c wr (HTZ.out.below (by decide) hbw)
          rw [HM.out] at hle
          rcases hlp : letP c with _ | x
          · have hF3 := tr_bad hkl (by rw [HC.out]; exact hmark) (by rw [HC.out]; exact hgap) (by rw [HC.out]; exact hlp) g t
            rw [HF.out] at hF3
            have e1 : rs = ⟨#[]⟩ := by rw [← HRS.out, hF3]; rfl
            have e2 : rc = 12 := by rw [← HRC.out, hF3]; rfl
            rw [hlp] at hle
            have hle2 : Calls Tryd.prog 34 #[.int .i32 m] wr fun e w' => e = .returned (.string ⟨#[]⟩) ∧ Below wr.heap.size wr w' := hle
            have HLE := Lib.hid hle2
            subst e1 e2
            clear hmark hgap hle hle2 hlp hF3 HF HRS HRC
            go_wp2_with (go_at_call 34; refine HLE.out.mono ?_; rintro e w' ⟨rfl, hw⟩)
            go_leave
            go_ret2
            exact ⟨rfl, below_on hbz (below_on hbw hw)⟩
          · obtain ⟨x1, x2, x3⟩ := letP_some hlp
            have hF3 := tr_good hkl (by rw [HC.out]; exact hmark) (by rw [HC.out]; exact hgap) (by rw [HC.out]; exact hlp) g t
            rw [HF.out] at hF3
            rw [hlp] at hle
            obtain ⟨ox, hox⟩ : ∃ ox, S x = ox := ⟨_, rfl⟩
            have hle2 : Calls Tryd.prog 34 #[.int .i32 m] wr fun e w' => e = .returned (.string ox) ∧ Below wr.heap.size wr w' := by rw [← hox]; exact hle
            have HLE := Lib.hid hle2
            have hxe := s_ne hox.symm x1
            have HOX := Lib.hid hox
            have hos : o.size ≤ 60000000 := by rw [HO.out, S_size]; have := HL.out; omega
            have hxs : ox.size ≤ 2 := by rw [← hox, S_size]; exact x2
            have HX2 := Lib.hid x2
            have HF4 := Lib.hid hF3.symm
            clear hmark hgap hle hle2 hlp hF3 HF HRS HRC hox x1 x2 x3
            by_cases ht : g = true ∧ t ≠ []
            · have hto := s_ne HO.out ht.2
              have HF5 : Hid (trL (R.drop (k + 1)) false (t ++ [32] ++ x) = trL R false []) := Lib.hid (by have := HF4.out; rw [if_pos ht] at this; exact this)
              have hg := ht.1
              have ho1 : (o ++ (⟨#[32]⟩ : ByteArray)).size ≤ 60000001 := by rw [ByteArray.size_append]; have : (⟨#[32]⟩ : ByteArray).size = 1 := rfl; omega
              subst hg
              clear ht HF4
              go_wp2_with (go_at_call 34; refine HLE.out.mono ?_; rintro e w' ⟨rfl, hw⟩)
              go_roundw
              case rel => exact ⟨k + 1, t ++ [32] ++ x, false, _, rfl, by go_num, by go_num, by omega, Lib.hid (by rw [HO.out, ← HOX.out]; show S t ++ S [32] ++ S x = _; rw [S_append, S_append]), Lib.hid (by have := HL.out; have := HX2.out; simp; omega), HF5, below_on hbw hw⟩
              case measure => simp [intOf]; omega
            · have HF5 : Hid (trL (R.drop (k + 1)) false (t ++ x) = trL R false []) := Lib.hid (by have := HF4.out; rw [if_neg ht, List.append_nil] at this; exact this)
              clear HF4
              by_cases hg : g = true
              · have hto := s_nil HO.out (by by_cases e : t = []; exact e; exact absurd ⟨hg, e⟩ ht)
                subst hg
                clear ht
                go_wp2_with (go_at_call 34; refine HLE.out.mono ?_; rintro e w' ⟨rfl, hw⟩)
                go_roundw
                case rel => exact ⟨k + 1, t ++ x, false, _, rfl, by go_num, by go_num, by omega, Lib.hid (by rw [HO.out, ← HOX.out, S_append]), Lib.hid (by have := HL.out; have := HX2.out; simp; omega), HF5, below_on hbw hw⟩
                case measure => simp [intOf]; omega
              · have hg : g = false := by simpa using hg
                subst hg
                clear ht
                go_wp2_with (go_at_call 34; refine HLE.out.mono ?_; rintro e w' ⟨rfl, hw⟩)
                go_roundw
                case rel => exact ⟨k + 1, t ++ x, false, _, rfl, by go_num, by go_num, by omega, Lib.hid (by rw [HO.out, ← HOX.out, S_append]), Lib.hid (by have := HL.out; have := HX2.out; simp; omega), HF5, below_on hbw hw⟩
                case measure => simp [intOf]; omega
    · have dk : ¬ (k : Int) < R.length := by omega
      have hF3 : trL R false [] = some t := by rw [← HF.out, List.drop_of_length_le (by omega)]; rfl
      have e1 : rs = o := by rw [← HRS.out, hF3, HO.out]; rfl
      have e2 : rc = 0 := by rw [← HRC.out, hF3]; rfl
      subst e1 e2
      clear hF3 HF HRS HRC
      go_wp2_with fail
      go_leave
      go_ret2
      exact ⟨rfl, below_on hbz hbw⟩

end Go.Proofs.YtfkcnbcifidlgaaDoor
