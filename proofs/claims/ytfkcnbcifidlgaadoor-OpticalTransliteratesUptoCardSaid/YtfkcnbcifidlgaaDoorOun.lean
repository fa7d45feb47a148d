/-
  What is proved here: what Transliterate returns is a name, and a name stays as it is; plain facts only.
-/
import Derived.Test.YtfkcnbcifidlgaaDoorOtp
import Derived.Test.YtfkcnbcifidlgaaDoorOrp
namespace Go.Proofs.YtfkcnbcifidlgaaDoor
open Go.RowKit
set_option linter.unusedSimpArgs false

def Ltr (x : List UInt8) (i : Nat) : Prop := 65 ≤ cB x i ∧ cB x i ≤ 90
def Nm (x : List UInt8) : Prop := ∀ k, k < x.length → Ltr x k ∨ (cB x k = 32 ∧ 0 < k ∧ k + 1 < x.length ∧ Ltr x (k - 1) ∧ Ltr x (k + 1))
theorem nm_iff (x : List UInt8) : nameL x = true ↔ Nm x := by
  constructor
  · intro h k hk
    have := nameL_at h k hk
    unfold okP gapL ltrB at this
    simp only [Bool.or_eq_true, decide_eq_true_eq] at this
    exact this
  · intro h
    refine nameL_good fun k hk => ?_
    have := h k hk
    unfold okP gapL ltrB
    simp only [Bool.or_eq_true, decide_eq_true_eq]
    exact this
theorem caps_ltr {x : List UInt8} (h : x.all capB = true) (i : Nat) (hi : i < x.length) : Ltr x i := by
  have := List.all_eq_true.1 h x[i] (List.getElem_mem hi)
  simp only [capB, Bool.and_eq_true, decide_eq_true_eq] at this
  unfold Ltr
  rw [cB_get hi]
  omega
theorem nm_app {t x : List UInt8} (h : Nm t) (hx : x.all capB = true) : Nm (t ++ x) := by
  intro k hk
  have hap := fun i => cB_app t x i
  unfold Ltr
  rw [List.length_append] at hk ⊢
  by_cases c : k < t.length
  · rw [hap k, if_pos c]
    rcases h k c with h1 | ⟨h1, h2, h3, h4, h5⟩
    · exact .inl h1
    · right
      rw [hap (k - 1), if_pos (by omega), hap (k + 1), if_pos h3]
      exact ⟨h1, h2, by omega, h4, h5⟩
  · left
    rw [hap k, if_neg c]
    exact caps_ltr hx (k - t.length) (by omega)
theorem nm_gap {t x : List UInt8} (h : Nm t) (ht : t ≠ []) (hx : x.all capB = true) (hx0 : x ≠ []) : Nm (t ++ [32] ++ x) := by
  have hl : 0 < t.length := List.length_pos_iff.2 ht
  have hxl : 0 < x.length := List.length_pos_iff.2 hx0
  have hlast : Ltr t (t.length - 1) := by
    rcases h (t.length - 1) (by omega) with h1 | ⟨_, _, h3, _⟩
    · exact h1
    · omega
  have hap : ∀ i, cB (t ++ [32] ++ x) i = if i < t.length then cB t i else if i = t.length then 32 else cB x (i - (t.length + 1)) := by
    intro i
    rw [cB_app, cB_app, List.length_append]
    by_cases c : i < t.length
    · rw [if_pos (by simp; omega), if_pos c, if_pos c]
    · rw [if_neg c]
      by_cases c2 : i = t.length
      · rw [if_pos (by simp; omega), if_neg c, if_pos c2, c2, Nat.sub_self]; rfl
      · rw [if_neg (by simp; omega), if_neg c, if_neg c2]; rfl
  intro k hk
  unfold Ltr
  rw [List.length_append, List.length_append] at hk ⊢
  simp only [List.length_cons, List.length_nil, Nat.zero_add] at hk ⊢
  by_cases c : k < t.length
  · rw [hap k, if_pos c]
    rcases h k c with h1 | ⟨h1, h2, h3, h4, h5⟩
    · exact .inl h1
    · right
      rw [hap (k - 1), if_pos (by omega), hap (k + 1), if_pos h3]
      exact ⟨h1, h2, by omega, h4, h5⟩
  · by_cases c2 : k = t.length
    · right
      subst c2
      rw [hap, if_neg c, if_pos rfl, hap (t.length - 1), if_pos (by omega), hap (t.length + 1), if_neg (by omega), if_neg (by omega), Nat.sub_self]
      exact ⟨rfl, hl, by omega, hlast, caps_ltr hx 0 hxl⟩
    · left
      rw [hap, if_neg c, if_neg c2]
      exact caps_ltr hx _ (by omega)

theorem tr_name : ∀ (R : List Nat) (g : Bool) (t y : List UInt8), Nm t → trL R g t = some y → Nm y
  | [], _, t, y, h, e => by
    have : t = y := Option.some.inj e
    rw [← this]; exact h
  | c :: R, g, t, y, h, e => by
    by_cases h1 : c = 39 ∨ c = 44 ∨ c = 46
    · rw [tr1_mark h1] at e; exact tr_name R g t y h e
    · by_cases h2 : c = 32 ∨ c = 45
      · rw [tr1_gap h2] at e; exact tr_name R true t y h e
      · rcases hl : letP c with _ | x
        · rw [tr1_bad h1 h2 hl] at e; cases e
        · rw [tr1_good h1 h2 hl] at e
          obtain ⟨x1, _, x3⟩ := letP_some hl
          refine tr_name R false _ y ?_ e
          by_cases hg : g = true ∧ t ≠ []
          · rw [if_pos hg]; exact nm_gap h hg.2 x3 x1
          · rw [if_neg hg, List.append_nil]; exact nm_app h x3

/-! ### a name stays as it is -/
theorem nm_low {y : List UInt8} (h : Nm y) : ∀ b, b ∈ y → b.toNat < 128 := by
  intro b hb
  obtain ⟨k, hk, e⟩ := List.getElem_of_mem hb
  have h1 := cB_get hk
  rw [e] at h1
  rcases h k hk with h2 | ⟨h2, _⟩
  · unfold Ltr at h2; omega
  · omega
theorem rl_low (y : List UInt8) (h : ∀ b, b ∈ y → b.toNat < 128) : ∀ (f k : Nat), y.length ≤ k + f → rl (S y) f k = (y.drop k).map (·.toNat) := by
  intro f
  induction f with
  | zero => intro k hk; rw [List.drop_of_length_le (by omega)]; rfl
  | succ f ih =>
    intro k hk
    unfold rl
    rw [S_size]
    by_cases hl : k < y.length
    · have hd : Utf8.decode (S y) k = (y[k].toNat, 1) := by
        rw [Lib.decode_N, S_data]
        have e0 : y.getD k 0 = y[k] := by simp [List.getD, hl]
        rw [e0]
        unfold Lib.decodeN
        rw [if_pos (h _ (List.getElem_mem hl))]
      rw [if_pos hl, hd, List.drop_eq_getElem_cons hl]
      dsimp only
      rw [ih (k + 1) (by omega)]
      rfl
    · rw [if_neg hl, List.drop_of_length_le (by omega)]; rfl
theorem letP_cap {n : Nat} (h1 : 65 ≤ n) (h2 : n ≤ 90) : letP n = some [UInt8.ofNat n] := by unfold letP; rw [if_pos ⟨h1, h2⟩]
theorem tr_self (y : List UInt8) (h : Nm y) : ∀ (n k : Nat), y.length - k = n → k ≤ y.length → ∀ (g : Bool) (t : List UInt8), ((g = false ∧ t = y.take k) ∨ (g = true ∧ 1 ≤ k ∧ cB y (k - 1) = 32 ∧ t = y.take (k - 1))) → trL ((y.drop k).map (·.toNat)) g t = some y := by
  intro n
  induction n with
  | zero =>
    intro k hn hk g t hs
    rw [List.drop_of_length_le (by omega)]
    rcases hs with ⟨_, e⟩ | ⟨_, h1, h2, _⟩
    · rw [e, List.take_of_length_le (by omega)]; rfl
    · rcases h (k - 1) (by omega) with h3 | ⟨_, _, h3, _⟩
      · unfold Ltr at h3; omega
      · omega
  | succ n ih =>
    intro k hn hk g t hs
    have hl : k < y.length := by omega
    have hc := cB_get hl
    rw [List.drop_eq_getElem_cons hl, List.map_cons]
    have hk1 := h k hl
    unfold Ltr at hk1
    rcases hk1 with h1 | ⟨h1, h2, h3, h4, h5⟩
    · have hb : UInt8.ofNat (y[k].toNat) = y[k] := by simp
      rw [tr1_good (by omega) (by omega) (letP_cap (by omega) (by omega)), hb]
      refine ih (k + 1) (by omega) (by omega) false _ (.inl ⟨rfl, ?_⟩)
      rcases hs with ⟨eg, e⟩ | ⟨eg, g1, g2, e⟩
      · rw [if_neg (by rw [eg]; simp), List.append_nil, e, List.take_succ_eq_append_getElem hl]
      · have g3 : 0 < k - 1 := by
          rcases h (k - 1) (by omega) with h6 | ⟨_, h6, _⟩
          · unfold Ltr at h6; omega
          · exact h6
        have hk2 : k - 1 < y.length := by omega
        have g4 : y[k - 1] = 32 := by
          rw [cB_get hk2] at g2
          exact UInt8.toNat_inj.1 (by show _ = 32; omega)
        have ht : t ≠ [] := by
          rw [e]; intro e2
          have := congrArg List.length e2
          rw [List.length_take] at this
          simp only [List.length_nil] at this
          omega
        rw [if_pos ⟨eg, ht⟩, e, List.take_succ_eq_append_getElem hl]
        congr 1
        have h7 := List.take_succ_eq_append_getElem hk2
        rw [g4, show k - 1 + 1 = k by omega] at h7
        exact h7.symm
    · rw [tr1_gap (by omega)]
      refine ih (k + 1) (by omega) (by omega) true t (.inr ⟨rfl, by omega, by rw [Nat.add_sub_cancel]; exact h1, ?_⟩)
      rw [Nat.add_sub_cancel]
      rcases hs with ⟨_, e⟩ | ⟨_, g1, g2, _⟩
      · exact e
      · omega
/-- a name is valid, and what stands for it is the name -/
theorem name_stays (y : List UInt8) (h : Nm y) : Lib.validD (S y).data.toList = true ∧ trL (rl (S y) (S y).size 0) false [] = some y := by
  have hr := rl_low y (nm_low h) (S y).size 0 (by rw [S_size]; omega)
  rw [List.drop_zero] at hr
  constructor
  · rcases valid_iff (S y) with h1 | h1
    · exact h1.1
    · refine absurd ?_ h1.2
      rw [backB_L, hr]
      congr 1
      have hlow := nm_low h
      clear h hr h1
      induction y with
      | nil => rfl
      | cons b y ih =>
        have hb := hlow b (by simp)
        simp only [List.map_cons, backL]
        rw [ih (fun c hc => hlow c (by simp [hc]))]
        have : Lib.encodeRune ((b.toNat : Nat) : Int) = [b] := by
          unfold Lib.encodeRune
          rw [Lib.encodeRuneZ_one (by omega) (by omega)]
          simp
        rw [this]; rfl
  · rw [hr]
    have := tr_self y h y.length 0 (by omega) (by omega) false [] (.inl ⟨rfl, rfl⟩)
    rw [List.drop_zero] at this
    exact this

end Go.Proofs.YtfkcnbcifidlgaaDoor
