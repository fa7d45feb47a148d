/-
  What is proved here: whether a text is a name, by the program and by the reference, for every text of at most 2^47 bytes.
-/
import Derived.Test.YtdlcoilpkelbaaaGreatDoorRows
import Derived.Test.YtdlcoilpkelbaaaGreatDoorKit
import Derived.Test.YtdlcoilpkelbaaaGreatDoorStr
import Derived.Test.YtdlcoilpkelbaaaGreatDoorOv
namespace Go.Proofs.YtdlcoilpkelbaaaGreatDoor
open Go.RowKit

/-- a letter A to Z -/
def ltrB (n : Int) : Bool := decide (65 ≤ n ∧ n ≤ 90)
/-- a space with letters beside it -/
def gapL (x : List UInt8) (i : Nat) : Bool := decide (cB x i = 32 ∧ 0 < i ∧ i + 1 < x.length ∧ ltrB (cB x (i - 1)) = true ∧ ltrB (cB x (i + 1)) = true)
def okP (x : List UInt8) (i : Nat) : Bool := ltrB (cB x i) || gapL x i
def okR (x : List UInt8) (i : Nat) : Bool := decide (if cB x i = 32 then 0 < i ∧ i + 1 < x.length ∧ cB x (i - 1) ≠ 32 else ltrB (cB x i) = true)
/-- whether a text is a name -/
def nameL (x : List UInt8) : Bool := decide (∀ i, i < x.length → okP x i = true)
theorem nameL_bad {x : List UInt8} {k : Nat} (hk : k < x.length) (h : okP x k = false) : nameL x = false := by
  unfold nameL
  rw [decide_eq_false_iff_not]
  intro h2
  rw [h2 k hk] at h
  cases h
theorem nameL_good {x : List UInt8} (h : ∀ k, k < x.length → okP x k = true) : nameL x = true := by
  unfold nameL; exact decide_eq_true h
theorem nameL_at {x : List UInt8} (h : nameL x = true) : ∀ k, k < x.length → okP x k = true := by
  unfold nameL at h; exact of_decide_eq_true h
theorem okP_let {x : List UInt8} {i : Nat} (h : ltrB (cB x i) = true) : okP x i = true := by unfold okP; rw [h]; rfl
theorem okR_of {x : List UInt8} (h : ∀ k, k < x.length → okP x k = true) (i : Nat) (hi : i < x.length) : okR x i = true := by
  have h0 := h i hi
  unfold okR okP at *
  by_cases e : cB x i = 32
  · have e2 : ltrB (cB x i) = false := by rw [e]; rfl
    rw [e2, Bool.false_or] at h0
    unfold gapL at h0
    have h1 := of_decide_eq_true h0
    simp only [e, if_true]
    refine decide_eq_true ⟨h1.2.1, h1.2.2.1, fun e3 => ?_⟩
    have := h1.2.2.2.1
    rw [e3] at this
    cases this
  · simp only [e, if_false]
    rw [Bool.or_eq_true] at h0
    rcases h0 with h0 | h0
    · simpa using h0
    · unfold gapL at h0
      exact absurd (of_decide_eq_true h0).1 e
theorem okP_of {x : List UInt8} (h : ∀ k, k < x.length → okR x k = true) (i : Nat) (hi : i < x.length) : okP x i = true := by
  have h0 := h i hi
  unfold okR at h0
  have h1 := of_decide_eq_true h0
  by_cases e : cB x i = 32
  · simp only [e, if_true] at h1
    have hL := h (i - 1) (by omega)
    have hR := h (i + 1) (by omega)
    unfold okR at hL hR
    have hL := of_decide_eq_true hL
    have hR := of_decide_eq_true hR
    simp only [h1.2.2, if_false] at hL
    have hne : cB x (i + 1) ≠ 32 := by
      intro e2
      simp only [e2, if_true, Nat.add_sub_cancel] at hR
      exact hR.2.2 e
    simp only [hne, if_false] at hR
    unfold okP gapL
    rw [Bool.or_eq_true]
    exact .inr (decide_eq_true ⟨e, h1.1, h1.2.1, hL, hR⟩)
  · simp only [e, if_false] at h1
    exact okP_let h1

theorem gap_cases (a p q : Int) (i n : Nat) : a ≠ 32 ∨ (a = 32 ∧ i = 0) ∨ (a = 32 ∧ 0 < i ∧ n ≤ i + 1) ∨ (a = 32 ∧ 0 < i ∧ i + 1 < n ∧ p < 65) ∨ (a = 32 ∧ 0 < i ∧ i + 1 < n ∧ 90 < p) ∨
    (a = 32 ∧ 0 < i ∧ i + 1 < n ∧ 65 ≤ p ∧ p ≤ 90 ∧ q < 65) ∨ (a = 32 ∧ 0 < i ∧ i + 1 < n ∧ 65 ≤ p ∧ p ≤ 90 ∧ 90 < q) ∨ (a = 32 ∧ 0 < i ∧ i + 1 < n ∧ 65 ≤ p ∧ p ≤ 90 ∧ 65 ≤ q ∧ q ≤ 90) := by omega
theorem gap_no {x : List UInt8} {i : Nat} (h : ¬ (cB x i = 32 ∧ 0 < i ∧ i + 1 < x.length ∧ ltrB (cB x (i - 1)) = true ∧ ltrB (cB x (i + 1)) = true)) : gapL x i = false := decide_eq_false h
theorem ltr_no {n : Int} (h : n < 65 ∨ 90 < n) : ltrB n = false := by unfold ltrB; exact decide_eq_false (by omega)
theorem ltr_yes {n : Int} (h1 : 65 ≤ n) (h2 : n ≤ 90) : ltrB n = true := by unfold ltrB; exact decide_eq_true ⟨h1, h2⟩

theorem p_letter (n : Int) (b : Bool) (hb : ltrB n = b) (w : World) :
    Calls Tryz.prog 88 #[.int .u8 n] w fun e w' => e = .returned (.bool b) ∧ w' = w := by
  have h : n < 65 ∨ 90 < n ∨ (65 ≤ n ∧ n ≤ 90) := by omega
  rcases h with h | h | h
  · rw [ltr_no (.inl h)] at hb
    subst hb
    go_enter Tryz.func88, Tryz.ntmps88
    go_wp2
    go_ret
    exact ⟨rfl, rfl⟩
  · rw [ltr_no (.inr h)] at hb
    subst hb
    have d : decide (n ≤ 90) = false := by simp; omega
    go_enter Tryz.func88, Tryz.ntmps88
    go_wp2
    go_ret
    exact ⟨rfl, rfl⟩
  · rw [ltr_yes h.1 h.2] at hb
    subst hb
    obtain ⟨h1, h2⟩ := h
    go_enter Tryz.func88, Tryz.ntmps88
    go_wp2
    go_ret
    exact ⟨rfl, rfl⟩

set_option maxHeartbeats 800000 in
theorem p_gap (s : ByteArray) (x : List UInt8) (hx : s = S x) (i : Nat) (hi : i < s.size) (b : Bool) (hb : gapL x i = b) (w : World) (hm : s.size ≤ 140737488355328) :
    Calls Tryz.prog 89 #[.string s, .int .i64 i] w fun e w' => e = .returned (.bool b) ∧ w' = w := by
  have hl : s.size = x.length := by rw [hx, S_size]
  have h0 := s_at hx i hi
  rcases gap_cases (cB x i) (cB x (i - 1)) (cB x (i + 1)) i x.length with h | h | h | h | h | h | h | h
  · rw [gap_no (fun g => h g.1)] at hb
    subst hb
    rw [← h0] at h
    clear h0 hl hx
    have d0 : ((s[i].toNat : Int) == 32) = false := by simpa using h
    go_enter Tryz.func89, Tryz.ntmps89
    go_wp2
    go_ret
    exact ⟨rfl, rfl⟩
  · obtain ⟨h, rfl⟩ := h
    rw [gap_no (fun g => absurd g.2.1 (by omega))] at hb
    subst hb
    rw [← h0] at h
    clear h0 hl hx
    go_enter Tryz.func89, Tryz.ntmps89
    go_wp2
    go_ret
    exact ⟨rfl, rfl⟩
  · obtain ⟨h, hp, hn⟩ := h
    rw [gap_no (fun g => absurd g.2.2.1 (by omega))] at hb
    subst hb
    rw [← h0] at h
    rw [← hl] at hn
    clear h0 hl hx
    go_enter Tryz.func89, Tryz.ntmps89
    go_wp2
    go_ret
    exact ⟨rfl, rfl⟩
  all_goals
    obtain ⟨j, rfl⟩ : ∃ j, i = j + 1 := ⟨i - 1, by omega⟩
    rw [Nat.add_sub_cancel] at h
    have hxl : j + 1 + 1 < x.length := by omega
    have hlt : j + 1 + 1 < s.size := by omega
    have hja : j < s.size := by omega
    have h1 := s_at hx j hja
    have h2 := s_at hx (j + 1 + 1) hlt
    have hv : gapL x (j + 1) = decide (cB x (j + 1) = 32 ∧ j + 1 + 1 < x.length ∧ ltrB (cB x j) = true ∧ ltrB (cB x (j + 1 + 1)) = true) := by
      unfold gapL; rw [Nat.add_sub_cancel]; congr 1; apply propext; constructor
      · rintro ⟨a, _, c⟩; exact ⟨a, c⟩
      · rintro ⟨a, c⟩; exact ⟨a, by omega, c⟩
    rw [hv] at hb
    clear hv
    simp only [← h0, ← h1, ← h2, hxl, true_and] at h hb
    have HB := Lib.hid hb
    clear h0 h1 h2 hl hx hb hxl
  · obtain ⟨a1, _, a4⟩ := h
    have hf : b = false := by rw [← HB.out]; exact decide_eq_false (fun g => by rw [ltr_no (.inl a4)] at g; exact absurd g.2.1 (by decide))
    subst hf
    clear HB
    go_enter Tryz.func89, Tryz.ntmps89
    go_wp2
    go_ret
    exact ⟨rfl, rfl⟩
  · obtain ⟨a1, _, a4⟩ := h
    have hf : b = false := by rw [← HB.out]; exact decide_eq_false (fun g => by rw [ltr_no (.inr a4)] at g; exact absurd g.2.1 (by decide))
    subst hf
    clear HB
    go_enter Tryz.func89, Tryz.ntmps89
    go_wp2
    go_ret
    exact ⟨rfl, rfl⟩
  · obtain ⟨a1, _, a4, a5, a6⟩ := h
    have hf : b = false := by rw [← HB.out]; exact decide_eq_false (fun g => by rw [ltr_no (.inl a6)] at g; exact absurd g.2.2 (by decide))
    subst hf
    clear HB
    go_enter Tryz.func89, Tryz.ntmps89
    go_wp2
    go_ret
    exact ⟨rfl, rfl⟩
  · obtain ⟨a1, _, a4, a5, a6⟩ := h
    have hf : b = false := by rw [← HB.out]; exact decide_eq_false (fun g => by rw [ltr_no (.inr a6)] at g; exact absurd g.2.2 (by decide))
    subst hf
    clear HB
    have d9 : decide ((s[j + 1 + 1].toNat : Int) ≤ 90) = false := by simp; omega
    go_enter Tryz.func89, Tryz.ntmps89
    go_wp2
    go_ret
    exact ⟨rfl, rfl⟩
  · obtain ⟨a1, _, a4, a5, a6, a7⟩ := h
    have hf : b = true := by rw [← HB.out]; exact decide_eq_true ⟨a1, ltr_yes a4 a5, ltr_yes a6 a7⟩
    subst hf
    clear HB
    go_enter Tryz.func89, Tryz.ntmps89
    go_wp2
    go_ret
    exact ⟨rfl, rfl⟩

set_option maxHeartbeats 800000 in
theorem p_name (s : ByteArray) (x : List UInt8) (hx : s = S x) (w : World) (hm : s.size ≤ 140737488355328) :
    Calls Tryz.prog 43 #[.string s] w fun e w' => e = .returned (.bool (nameL x)) ∧ w' = w := by
  have hl : s.size = x.length := by rw [hx, S_size]
  have HX := Lib.hid hx
  have HL := Lib.hid hl
  obtain ⟨N, hN⟩ : ∃ N, nameL x = N := ⟨_, rfl⟩
  rw [hN]
  have HN := Lib.hid hN
  clear hx hl hN
  go_enter Tryz.func43, Tryz.ntmps43
  go_wp2
  go_loop [6] (fun i => ∃ k : Nat, k ≤ s.size ∧ i = .int .i64 k ∧ Hid (∀ j, j < k → okP x j = true)) (fun i => s.size - (intOf i).toNat)
  case atStart => exact ⟨0, Nat.zero_le _, rfl, Lib.hid (fun j h => by omega)⟩
  case round =>
    obtain ⟨k, hk, rfl, HG⟩ := hrel
    by_cases hlt : k < s.size
    · have hc := s_at HX.out k hlt
      obtain ⟨b, hb⟩ : ∃ b, ltrB (cB x k) = b := ⟨_, rfl⟩
      obtain ⟨g, hg⟩ : ∃ g, gapL x k = g := ⟨_, rfl⟩
      have hbs : ltrB ((s[k]'hlt).toNat : Int) = b := by rw [hc]; exact hb
      have HB := Lib.hid hb
      have HBS := Lib.hid hbs
      have HGP := Lib.hid hg
      clear hb hbs hg hc
      rcases b with _ | _
      · rcases g with _ | _
        · have hf : N = false := by rw [← HN.out]; exact nameL_bad (k := k) (by have := HL.out; omega) (by unfold okP; rw [HB.out, HGP.out]; rfl)
          subst hf
          go_wp2_with (first
            | (go_at_call 88; refine (p_letter _ false HBS.out _).mono ?_; rintro e w' ⟨rfl, rfl⟩)
            | (go_at_call 89; refine (p_gap _ x HX.out k hlt false HGP.out _ hm).mono ?_; rintro e w' ⟨rfl, rfl⟩))
          go_ret
          exact ⟨rfl, rfl⟩
        · go_wp2_with (first
            | (go_at_call 88; refine (p_letter _ false HBS.out _).mono ?_; rintro e w' ⟨rfl, rfl⟩)
            | (go_at_call 89; refine (p_gap _ x HX.out k hlt true HGP.out _ hm).mono ?_; rintro e w' ⟨rfl, rfl⟩))
          go_round
          case rel =>
            refine ⟨k + 1, by omega, by go_num, Lib.hid (fun j hj => ?_)⟩
            rcases Nat.lt_or_ge j k with h | h
            · exact HG.out j h
            · obtain rfl : j = k := by omega
              unfold okP; rw [HB.out, HGP.out]; rfl
          case measure => simp [intOf]; omega
      · go_wp2_with (go_at_call 88; refine (p_letter _ true HBS.out _).mono ?_; rintro e w' ⟨rfl, rfl⟩)
        go_round
        case rel =>
          refine ⟨k + 1, by omega, by go_num, Lib.hid (fun j hj => ?_)⟩
          rcases Nat.lt_or_ge j k with h | h
          · exact HG.out j h
          · obtain rfl : j = k := by omega
            exact okP_let HB.out
        case measure => simp [intOf]; omega
    · have hf : N = true := by rw [← HN.out]; exact nameL_good (fun j hj => HG.out j (by have := HL.out; omega))
      subst hf
      go_wp2
      go_ret
      exact ⟨rfl, rfl⟩

theorem name_cases (a q : Int) (i n : Nat) (hi : i < n) : (a = 32 ∧ i = 0) ∨ (a = 32 ∧ 0 < i ∧ i + 1 = n) ∨ (a = 32 ∧ 0 < i ∧ i + 1 < n ∧ q = 32) ∨ (a = 32 ∧ 0 < i ∧ i + 1 < n ∧ q ≠ 32) ∨
    (a ≠ 32 ∧ a < 65) ∨ (a ≠ 32 ∧ 90 < a) ∨ (a ≠ 32 ∧ 65 ≤ a ∧ a ≤ 90) := by omega
theorem okR_no {x : List UInt8} {i : Nat} (h : ¬ (if cB x i = 32 then 0 < i ∧ i + 1 < x.length ∧ cB x (i - 1) ≠ 32 else ltrB (cB x i) = true)) : okR x i = false := decide_eq_false h
theorem nameR_bad {x : List UInt8} {k : Nat} (hk : k < x.length) (h : okR x k = false) : nameL x = false := by
  rcases hb : nameL x with _ | _
  · rfl
  · have := okR_of (nameL_at hb) k hk
    rw [h] at this
    cases this
theorem nameR_good {x : List UInt8} (h : ∀ k, k < x.length → okR x k = true) : nameL x = true := nameL_good (okP_of h)

set_option maxHeartbeats 1600000 in
theorem r_name (s : ByteArray) (x : List UInt8) (hx : s = S x) (w : World) (hm : s.size ≤ 140737488355328) :
    Calls Tryz.prog 51 #[.string s] w fun e w' => e = .returned (.bool (nameL x)) ∧ w' = w := by
  have hl : s.size = x.length := by rw [hx, S_size]
  have HX := Lib.hid hx
  have HL := Lib.hid hl
  obtain ⟨N, hN⟩ : ∃ N, nameL x = N := ⟨_, rfl⟩
  rw [hN]
  have HN := Lib.hid hN
  clear hx hl hN
  go_enter Tryz.func51, Tryz.ntmps51
  go_wp2
  go_loop [3] (fun i => ∃ k : Nat, k ≤ s.size ∧ i = .int .i64 k ∧ Hid (∀ j, j < k → okR x j = true)) (fun i => s.size - (intOf i).toNat)
  case atStart => exact ⟨0, Nat.zero_le _, rfl, Lib.hid (fun j h => by omega)⟩
  case round =>
    obtain ⟨k, hk, rfl, HG⟩ := hrel
    by_cases hlt : k < s.size
    · have hc := s_at HX.out k hlt
      have hgood : okR x k = true → Hid (∀ j, j < k + 1 → okR x j = true) := fun h => Lib.hid (fun j hj => by
        rcases Nat.lt_or_ge j k with h2 | h2
        · exact HG.out j h2
        · obtain rfl : j = k := by omega
          exact h)
      have hbad : okR x k = false → N = false := fun h => by rw [← HN.out]; exact nameR_bad (k := k) (by have := HL.out; omega) h
      rcases name_cases (cB x k) (cB x (k - 1)) k s.size hlt with h | h | h | h | h | h | h
      · obtain ⟨h, rfl⟩ := h
        have hf := hbad (okR_no (by simp [h]))
        subst hf
        rw [← hc] at h
        clear hc hgood hbad
        go_wp2
        go_ret
        exact ⟨rfl, rfl⟩
      · obtain ⟨h, h0, h1⟩ := h
        have hf := hbad (okR_no (by simp only [h, if_true]; intro g; have := HL.out; omega))
        subst hf
        rw [← hc] at h
        clear hc hgood hbad
        have d0 : ((k : Int) == 0) = false := by simp; omega
        have d1 : ((k : Int) == (s.size : Int) - 1) = true := by simp; omega
        go_wp2
        go_ret
        exact ⟨rfl, rfl⟩
      · obtain ⟨h, h0, h1, h2⟩ := h
        have hf := hbad (okR_no (by simp only [h, if_true]; intro g; exact g.2.2 h2))
        subst hf
        obtain ⟨j, rfl⟩ : ∃ j, k = j + 1 := ⟨k - 1, by omega⟩
        rw [Nat.add_sub_cancel] at h2
        have hja : j < s.size := by omega
        have hcj := s_at HX.out j hja
        rw [← hc] at h
        rw [← hcj] at h2
        clear hc hcj hgood hbad
        have d0 : (((j : Int) + 1) == 0) = false := by simp; omega
        have d1 : (((j : Int) + 1) == (s.size : Int) - 1) = false := by simp; omega
        go_wp2
        go_ret
        exact ⟨rfl, rfl⟩
      · obtain ⟨h, h0, h1, h2⟩ := h
        have HQ := hgood (by unfold okR; simp only [h, if_true]; exact decide_eq_true ⟨h0, by have := HL.out; omega, h2⟩)
        obtain ⟨j, rfl⟩ : ∃ j, k = j + 1 := ⟨k - 1, by omega⟩
        rw [Nat.add_sub_cancel] at h2
        have hja : j < s.size := by omega
        have hcj := s_at HX.out j hja
        rw [← hc] at h
        rw [← hcj] at h2
        clear hc hcj hgood hbad
        have d0 : (((j : Int) + 1) == 0) = false := by simp; omega
        have d1 : (((j : Int) + 1) == (s.size : Int) - 1) = false := by simp; omega
        have d2 : ((s[j].toNat : Int) == 32) = false := by simpa using h2
        go_wp2
        go_round
        case rel => exact ⟨j + 1 + 1, by omega, by go_num, HQ⟩
        case measure => simp [intOf]; omega
      · obtain ⟨h, h0⟩ := h
        have hf := hbad (okR_no (by simp only [h, if_false]; rw [ltr_no (.inl h0)]; decide))
        subst hf
        rw [← hc] at h h0
        clear hc hgood hbad
        have d2 : ((s[k].toNat : Int) == 32) = false := by simpa using h
        have d3 : ((s[k].toNat : Int) != 32) = true := by simpa using h
        have d4 : decide ((s[k].toNat : Int) < 65) = true := by simpa using h0
        go_wp2
        go_ret
        exact ⟨rfl, rfl⟩
      · obtain ⟨h, h0⟩ := h
        have hf := hbad (okR_no (by simp only [h, if_false]; rw [ltr_no (.inr h0)]; decide))
        subst hf
        rw [← hc] at h h0
        clear hc hgood hbad
        have d2 : ((s[k].toNat : Int) == 32) = false := by simpa using h
        have d3 : ((s[k].toNat : Int) != 32) = true := by simpa using h
        have d4 : decide ((s[k].toNat : Int) < 65) = false := by simp; omega
        have d5 : decide ((90 : Int) < (s[k].toNat : Int)) = true := by simpa using h0
        go_wp2
        go_ret
        exact ⟨rfl, rfl⟩
      · obtain ⟨h, h0, h1⟩ := h
        have HQ := hgood (by unfold okR; simp only [h, if_false]; rw [ltr_yes h0 h1]; rfl)
        rw [← hc] at h h0 h1
        clear hc hgood hbad
        have d2 : ((s[k].toNat : Int) == 32) = false := by simpa using h
        have d3 : ((s[k].toNat : Int) != 32) = true := by simpa using h
        have d4 : decide ((s[k].toNat : Int) < 65) = false := by simp; omega
        have d5 : decide ((90 : Int) < (s[k].toNat : Int)) = false := by simp; omega
        go_wp2
        go_round
        case rel => exact ⟨k + 1, by omega, by go_num, HQ⟩
        case measure => simp [intOf]; omega
    · have hf : N = true := by rw [← HN.out]; exact nameR_good (fun j hj => HG.out j (by have := HL.out; omega))
      subst hf
      go_wp2
      go_ret
      exact ⟨rfl, rfl⟩

end Go.Proofs.YtdlcoilpkelbaaaGreatDoor
