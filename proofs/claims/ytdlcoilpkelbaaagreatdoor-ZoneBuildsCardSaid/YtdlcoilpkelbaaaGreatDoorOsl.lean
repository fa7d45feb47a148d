/-
  What is proved here: the names of a field, by the program and by the reference, for every field of at most 2^47 bytes.
-/
import Derived.Test.YtdlcoilpkelbaaaGreatDoorOsp
import Derived.Test.YtdlcoilpkelbaaaGreatDoorLy
import Derived.Test.YtdlcoilpkelbaaaGreatDoorOm
import Derived.Test.YtdlcoilpkelbaaaGreatDoorShf
namespace Go.Proofs.YtdlcoilpkelbaaaGreatDoor
open Go.RowKit

/-- letters and fillers alone -/
def fieldB (x : List UInt8) : Bool := decide (∀ k, k < x.length → ltrB (cB x k) = true ∨ cB x k = 60)
theorem field_bad {x : List UInt8} {k : Nat} (hk : k < x.length) (h1 : ltrB (cB x k) = false) (h2 : cB x k ≠ 60) : fieldB x = false := by
  unfold fieldB
  rw [decide_eq_false_iff_not]
  intro h
  rcases h k hk with h | h
  · rw [h1] at h; cases h
  · exact h2 h
theorem field_good {x : List UInt8} (h : ∀ k, k < x.length → ltrB (cB x k) = true ∨ cB x k = 60) : fieldB x = true := by unfold fieldB; exact decide_eq_true h
theorem field_at {x : List UInt8} (h : fieldB x = true) : ∀ k, k < x.length → ltrB (cB x k) = true ∨ cB x k = 60 := by unfold fieldB at h; exact of_decide_eq_true h

theorem p_field (s : ByteArray) (x : List UInt8) (hx : s = S x) (w : World) (hm : s.size ≤ 140737488355328) :
    Calls Tryz.prog 122 #[.string s] w fun e w' => e = .returned (.bool (fieldB x)) ∧ w' = w := by
  have hl : s.size = x.length := by rw [hx, S_size]
  have HX := Lib.hid hx
  have HL := Lib.hid hl
  obtain ⟨N, hN⟩ : ∃ N, fieldB x = N := ⟨_, rfl⟩
  rw [hN]
  have HN := Lib.hid hN
  clear hx hl hN
  go_enter Tryz.func122, Tryz.ntmps122
  go_wp2
  go_loop [6] (fun i => ∃ k : Nat, k ≤ s.size ∧ i = .int .i64 k ∧ Hid (∀ j, j < k → ltrB (cB x j) = true ∨ cB x j = 60)) (fun i => s.size - (intOf i).toNat)
  case atStart => exact ⟨0, Nat.zero_le _, rfl, Lib.hid (fun j h => by omega)⟩
  case round =>
    obtain ⟨k, hk, rfl, HG⟩ := hrel
    by_cases hlt : k < s.size
    · have hc := s_at HX.out k hlt
      obtain ⟨b, hb⟩ : ∃ b, ltrB (cB x k) = b := ⟨_, rfl⟩
      have hbs : ltrB ((s[k]'hlt).toNat : Int) = b := by rw [hc]; exact hb
      have HB := Lib.hid hb
      have HBS := Lib.hid hbs
      clear hb hbs
      have hgood : (ltrB (cB x k) = true ∨ cB x k = 60) → Hid (∀ j, j < k + 1 → ltrB (cB x j) = true ∨ cB x j = 60) := fun h => Lib.hid (fun j hj => by
        rcases Nat.lt_or_ge j k with h2 | h2
        · exact HG.out j h2
        · obtain rfl : j = k := by omega
          exact h)
      rcases b with _ | _
      · by_cases h60 : cB x k = 60
        · have HQ := hgood (.inr h60)
          rw [← hc] at h60
          clear hc hgood
          have d0 : ((s[k].toNat : Int) != 60) = false := by rw [h60]; rfl
          go_wp2_with (go_at_call 88; refine (p_letter 60 false (by decide) _).mono ?_; rintro e w' ⟨rfl, hw⟩; rw [hw]; clear hw)
          go_round
          case rel => exact ⟨k + 1, by omega, by go_num, HQ⟩
          case measure => simp [intOf]; omega
        · have hf : N = false := by rw [← HN.out]; exact field_bad (k := k) (by have := HL.out; omega) HB.out h60
          subst hf
          rw [← hc] at h60
          clear hc hgood
          have d0 : ((s[k].toNat : Int) != 60) = true := by simpa using h60
          go_wp2_with (go_at_call 88; refine (p_letter _ false HBS.out _).mono ?_; rintro e w' ⟨rfl, hw⟩; rw [hw]; clear hw)
          go_ret
          exact ⟨rfl, rfl⟩
      · have HQ := hgood (.inl HB.out)
        clear hc hgood
        go_wp2_with (go_at_call 88; refine (p_letter _ true HBS.out _).mono ?_; rintro e w' ⟨rfl, hw⟩; rw [hw]; clear hw)
        go_round
        case rel => exact ⟨k + 1, by omega, by go_num, HQ⟩
        case measure => simp [intOf]; omega
    · have hf : N = true := by rw [← HN.out]; exact field_good (fun j hj => HG.out j (by have := HL.out; omega))
      subst hf
      go_wp2
      go_ret
      exact ⟨rfl, rfl⟩

/-- without the fillers at the end -/
def trimT (x : List UInt8) : List UInt8 := Lib.trimRightB x 60
theorem trim_take (x : List UInt8) : ∃ k, k ≤ x.length ∧ trimT x = x.take k ∧ (∀ j, k ≤ j → j < x.length → cB x j = 60) ∧ (0 < k → cB x (k - 1) ≠ 60) := by
  have key : ∀ n, n ≤ x.length → (∀ j, n ≤ j → j < x.length → cB x j = 60) → ∃ k, k ≤ n ∧ (∀ j, k ≤ j → j < x.length → cB x j = 60) ∧ (0 < k → cB x (k - 1) ≠ 60) := by
    intro n
    induction n with
    | zero => intro _ h; exact ⟨0, Nat.le_refl _, h, fun h => by omega⟩
    | succ n ih =>
      intro hn h
      by_cases e : cB x n = 60
      · obtain ⟨k, h1, h2, h3⟩ := ih (by omega) (fun j j1 j2 => by
          rcases Nat.lt_or_ge n j with h4 | h4
          · exact h j h4 j2
          · rw [show j = n by omega]; exact e)
        exact ⟨k, by omega, h2, h3⟩
      · exact ⟨n + 1, Nat.le_refl _, h, fun _ => e⟩
  obtain ⟨k, h1, h2, h3⟩ := key x.length (Nat.le_refl _) (fun j j1 j2 => by omega)
  refine ⟨k, h1, ?_, h2, h3⟩
  refine Lib.trimRightB_take x 60 k h1 (fun j b hj hb => ?_) (fun b hk hb => ?_)
  · obtain ⟨hl, rfl⟩ := List.getElem?_eq_some_iff.1 hb
    exact get_60 hl (h2 j hj hl)
  · obtain ⟨hl, rfl⟩ := List.getElem?_eq_some_iff.1 hb
    intro e
    exact h3 hk (by rw [cB_get hl, e]; rfl)
theorem trim_uniq {x : List UInt8} {k : Nat} (h1 : k ≤ x.length) (h2 : ∀ j, k ≤ j → j < x.length → cB x j = 60) (h3 : 0 < k → cB x (k - 1) ≠ 60) : trimT x = x.take k := by
  refine Lib.trimRightB_take x 60 k h1 (fun j b hj hb => ?_) (fun b hk hb => ?_)
  · obtain ⟨hl, rfl⟩ := List.getElem?_eq_some_iff.1 hb
    exact get_60 hl (h2 j hj hl)
  · obtain ⟨hl, rfl⟩ := List.getElem?_eq_some_iff.1 hb
    intro e
    exact h3 hk (by rw [cB_get hl, e]; rfl)
theorem trim_last (x : List UInt8) : trimT x = [] ∨ cB (trimT x) ((trimT x).length - 1) ≠ 60 := by
  obtain ⟨k, h1, h2, h3, h4⟩ := trim_take x
  rcases Nat.eq_zero_or_pos k with e | e
  · exact .inl (by rw [h2, e]; rfl)
  · refine .inr ?_
    rw [h2, List.length_take, Nat.min_eq_left h1, cB_take (by omega)]
    exact h4 e
theorem trim_chars {x : List UInt8} (h : fieldB x = true) : ∀ k, k < (trimT x).length → ltrB (cB (trimT x) k) = true ∨ cB (trimT x) k = 60 := by
  obtain ⟨n, h1, h2, _, _⟩ := trim_take x
  intro k hk
  rw [h2] at hk ⊢
  simp at hk
  rw [cB_take (by omega)]
  exact field_at h k (by omega)
theorem trim_full {x : List UInt8} (h : x ≠ []) : (trimT x).length = x.length ↔ cB x (x.length - 1) ≠ 60 := by
  have hp := List.length_pos_iff.2 h
  obtain ⟨n, h1, h2, h3, h4⟩ := trim_take x
  rw [h2, List.length_take, Nat.min_eq_left h1]
  constructor
  · intro e; rw [← e]; exact h4 (by omega)
  · intro e
    rcases Nat.lt_or_ge n x.length with h5 | h5
    · exact absurd (h3 (x.length - 1) (by omega) (by omega)) e
    · omega
theorem trim_len (x : List UInt8) : (trimT x).length ≤ x.length := by
  obtain ⟨n, h1, h2, _⟩ := trim_take x
  rw [h2]; simp; omega

/-- what Split answers: the code, the names, whether nothing was cut off -/
def spE (x : List UInt8) : Int := if x.length < 1 ∨ 64 < x.length then 2 else if fieldB x = false then 12 else if surL (trimT x) ≠ [] ∧ nameL (surL (trimT x)) = true ∧ nameL (givL (trimT x)) = true then 0 else 1
def spA (x : List UInt8) : List UInt8 := if spE x = 0 then surL (trimT x) else []
def spB (x : List UInt8) : List UInt8 := if spE x = 0 then givL (trimT x) else []
def spF (x : List UInt8) : Bool := if spE x = 0 then decide (cB x (x.length - 1) ≠ 60) else false
theorem sp_no {x : List UInt8} {e : Int} (h : spE x = e) (he : e ≠ 0) : spA x = [] ∧ spB x = [] ∧ spF x = false := by
  have : spE x ≠ 0 := by rw [h]; exact he
  unfold spA spB spF
  rw [if_neg this, if_neg this, if_neg this]
  exact ⟨rfl, rfl, rfl⟩
theorem sp_yes {x : List UInt8} (h : spE x = 0) : spA x = surL (trimT x) ∧ spB x = givL (trimT x) ∧ spF x = decide (cB x (x.length - 1) ≠ 60) := by
  unfold spA spB spF
  rw [if_pos h, if_pos h, if_pos h]
  exact ⟨rfl, rfl, rfl⟩

/-- without the fillers at the end, by the reference -/
theorem r_trim (s : ByteArray) (x : List UInt8) (hx : s = S x) (w : World) (hm : s.size ≤ 140737488355328) :
    Calls Tryz.prog 65 #[.string s] w fun e w' => e = .returned (.string (S (trimT x))) ∧ w' = w := by
  have hl : s.size = x.length := by rw [hx, S_size]
  have HX := Lib.hid hx
  have HL := Lib.hid hl
  clear hx hl
  go_enter Tryz.func65, Tryz.ntmps65
  go_wp2
  go_loop [3] (fun i => ∃ k : Nat, k ≤ s.size ∧ i = .int .i64 k ∧ Hid (∀ j, k ≤ j → j < x.length → cB x j = 60)) (fun i => (intOf i).toNat)
  case atStart => exact ⟨s.size, Nat.le_refl _, rfl, Lib.hid (fun j h1 h2 => by have := HL.out; omega)⟩
  case round =>
    obtain ⟨k, hk, rfl, HG⟩ := hrel
    rcases Nat.eq_zero_or_pos k with e | e
    · subst e
      have he : S (trimT x) = ByteArray.empty := by rw [trim_uniq (Nat.zero_le _) HG.out (fun h => by omega)]; rfl
      have HE := Lib.hid he
      clear he
      go_wp2
      go_ret
      exact ⟨by rw [HE.out]; rfl, rfl⟩
    · obtain ⟨j, rfl⟩ : ∃ j, k = j + 1 := ⟨k - 1, by omega⟩
      have hja : j < s.size := by omega
      have hc := s_at HX.out j hja
      by_cases h60 : cB x j = 60
      · have HQ : Hid (∀ i, j ≤ i → i < x.length → cB x i = 60) := Lib.hid (fun i h1 h2 => by
          rcases Nat.lt_or_ge j i with h | h
          · exact HG.out i h h2
          · rw [show i = j by omega]; exact h60)
        rw [← hc] at h60
        clear hc
        go_wp2
        go_round
        case rel => exact ⟨j, by omega, by go_num, HQ⟩
        case measure => simp [intOf]
      · have he : S (trimT x) = s.extract 0 (j + 1) := by rw [trim_uniq (by have := HL.out; omega) HG.out (fun _ => h60), HX.out, S_extract]; simp
        have HE := Lib.hid he
        rw [← hc] at h60
        clear hc he
        have d0 : ((s[j].toNat : Int) == 60) = false := by simpa using h60
        go_wp2
        go_ret
        exact ⟨by rw [HE.out]; rfl, rfl⟩

/-- four results -/
theorem results_4 {fn : Func} {t u v z : Tmp} (h : fn.results = #[.tmp t, .tmp u, .tmp v, .tmp z]) (tmps : Array Value) (P : Program) (w : World) :
    (results fn tmps).run P w = .ok (.tuple #[tmps.getD t undef, tmps.getD u undef, tmps.getD v undef, tmps.getD z undef]) w := by
  simp [results, h]
theorem ret4 {P : Program} {fn : Func} {t u v z : Tmp} (h : fn.results = #[.tmp t, .tmp u, .tmp v, .tmp z]) {a : Act} {w : World} {post : Ending → World → Prop} (hd : a.defers = [])
    (hp : post (.returned (.tuple #[a.tmps.getD t undef, a.tmps.getD u undef, a.tmps.getD v undef, a.tmps.getD z undef])) w) : bodyPost P fn post .ret a w :=
  bodyPost_ret (results_4 h _ _ _) hd hp
theorem p_ex_fs (s : ByteArray) (x : List UInt8) (hx : s = S x) (w : World) (hm : s.size ≤ 140737488355328) :
    Calls Tryz.prog 104 #[.string s, .int .u8 60, .int .u8 32] w fun e w' => e = .returned (.string (S (exL 60 32 x))) ∧ Below w.heap.size w w' := p_exchange s x hx 60 32 w hm
theorem p_trim (s : ByteArray) (x : List UInt8) (hx : s = S x) (w : World) (hm : s.size ≤ 140737488355328) :
    Calls Tryz.prog 120 #[.string s, .string ⟨#[60]⟩] w fun e w' => e = .returned (.string (S (trimT x))) ∧ w' = w := by
  have h := sh_strings_TrimRight_one s 60 (by decide) w (by omega)
  rw [show s.data.toList = x by rw [hx, S_data]] at h
  exact h
theorem p_cut (s : ByteArray) (x : List UInt8) (hx : s = S x) (m : Int) (w : World) (hs : s.size ≤ 64) (hm : w.cell? ⟨2, 0, none⟩ = some (.int .i64 m)) :
    Calls Tryz.prog 121 #[.string s, .string ⟨#[60, 60]⟩] w fun e w' => e = .returned (.tuple #[.string (S (Lib.cut x [60, 60]).1), .string (S (Lib.cut x [60, 60]).2.1), .bool (Lib.cut x [60, 60]).2.2]) ∧ ∃ n, w' = w.drewN n := by
  have h := sh_strings_Cut s ⟨#[60, 60]⟩ m w (by omega) hm
  rw [show s.data.toList = x by rw [hx, S_data]] at h
  exact h

set_option maxHeartbeats 1600000 in
theorem p_split (s : ByteArray) (x : List UInt8) (hx : s = S x) (w : World) (hm : s.size ≤ 140737488355328) (mx : Int) (hmx : w.cell? ⟨2, 0, none⟩ = some (.int .i64 mx)) :
    Calls Tryz.prog 101 #[.string s] w fun e w' => e = .returned (.tuple #[.string (S (spA x)), .string (S (spB x)), .bool (spF x), .int .i64 (spE x)]) ∧ Below w.heap.size w w' := by
  have hl : s.size = x.length := by rw [hx, S_size]
  have HX := Lib.hid hx
  have HL := Lib.hid hl
  have HMX := Lib.hid hmx
  clear hx hmx
  by_cases h1 : x.length < 1 ∨ 64 < x.length
  · have e : spE x = 2 := by unfold spE; rw [if_pos h1]
    obtain ⟨a1, a2, a3⟩ := sp_no e (by decide)
    rw [a1, a2, a3, e]
    rw [← hl] at h1
    clear hl e a1 a2 a3
    rcases h1 with h1 | h1
    all_goals
      go_enter Tryz.func101, Tryz.ntmps101
      go_wp2_with fail
      refine ret4 rfl rfl ?_
      exact ⟨rfl, Below.refl _ _⟩
  · have b1 : 1 ≤ s.size := by omega
    have b2 : s.size ≤ 64 := by omega
    rcases hf : fieldB x with _ | _
    · have e : spE x = 12 := by unfold spE; rw [if_neg h1, if_pos hf]
      obtain ⟨a1, a2, a3⟩ := sp_no e (by decide)
      rw [a1, a2, a3, e]
      have HF := Lib.hid hf
      clear hl e a1 a2 a3 h1 hf
      go_enter Tryz.func101, Tryz.ntmps101
      go_wp2_with (go_at_call 122; refine (p_field s x HX.out _ hm).mono ?_; rintro e w' ⟨rfl, hw⟩; rw [hw, HF.out]; clear hw)
      refine ret4 rfl rfl ?_
      exact ⟨rfl, Below.refl _ _⟩
    · have HF := Lib.hid hf
      obtain ⟨T, hT⟩ : ∃ T, S (trimT x) = T := ⟨_, rfl⟩
      have hTs : T.size = (trimT x).length := by rw [← hT, S_size]
      have hT64 : T.size ≤ 64 := by have := trim_len x; omega
      obtain ⟨FA, hFA⟩ : ∃ FA, S (Lib.cut (trimT x) [60, 60]).1 = FA := ⟨_, rfl⟩
      obtain ⟨FB, hFB⟩ : ∃ FB, S (Lib.cut (trimT x) [60, 60]).2.1 = FB := ⟨_, rfl⟩
      obtain ⟨SA, hSA⟩ : ∃ SA, S (surL (trimT x)) = SA := ⟨_, rfl⟩
      obtain ⟨SB, hSB⟩ : ∃ SB, S (givL (trimT x)) = SB := ⟨_, rfl⟩
      have hca : (Lib.cut (trimT x) [60, 60]).1.length ≤ 64 ∧ (Lib.cut (trimT x) [60, 60]).2.1.length ≤ 64 := by
        have := trim_len x
        unfold Lib.cut
        split
        · simp; omega
        · simp; omega
      have hA64 : FA.size ≤ 140737488355328 := by rw [← hFA, S_size]; omega
      have hB64 : FB.size ≤ 140737488355328 := by rw [← hFB, S_size]; omega
      have hSA64 : SA.size ≤ 140737488355328 := by rw [← hSA, S_size]; unfold surL; rw [exL_length]; omega
      have hSB64 : SB.size ≤ 140737488355328 := by rw [← hSB, S_size]; unfold givL; rw [exL_length]; omega
      have HT := Lib.hid hT
      have HFA := Lib.hid hFA
      have HFB := Lib.hid hFB
      have HSA := Lib.hid hSA
      have HSB := Lib.hid hSB
      have hfull : ((T.size : Int) == (s.size : Int)) = decide (cB x (x.length - 1) ≠ 60) := by
        rw [hTs, hl]
        have hne : x ≠ [] := by intro e; rw [e] at hl; simp only [List.length_nil] at hl; omega
        by_cases e : (trimT x).length = x.length
        · rw [e, decide_eq_true ((trim_full hne).1 e)]; simp
        · rw [decide_eq_false (fun e2 => e ((trim_full hne).2 e2))]; rw [beq_eq_false_iff_ne]; omega
      obtain ⟨FU, hFU⟩ : ∃ FU, decide (cB x (x.length - 1) ≠ 60) = FU := ⟨_, rfl⟩
      rw [hFU] at hfull
      have HFU := Lib.hid hFU
      clear hT hFA hFB hca hFU
      by_cases n0 : surL (trimT x) = []
      · have e : spE x = 1 := by unfold spE; rw [if_neg h1, if_neg (by rw [hf]; decide), if_neg (fun g => g.1 n0)]
        obtain ⟨a1, a2, a3⟩ := sp_no e (by decide)
        rw [a1, a2, a3, e]
        have hem := s_nil hSA.symm n0
        clear hl e a1 a2 a3 h1 hf hSA hSB n0 hTs
        go_enter Tryz.func101, Tryz.ntmps101
        go_wp2_with (first
          | (go_at_call 122; refine (p_field s x HX.out _ hm).mono ?_; rintro e w' ⟨rfl, hw⟩; rw [hw, HF.out]; clear hw)
          | (go_at_call 120; refine (p_trim s x HX.out _ hm).mono ?_; rintro e w' ⟨rfl, hw⟩; rw [hw, HT.out]; clear hw)
          | (go_at_call 121; refine (p_cut T _ HT.out.symm mx _ hT64 HMX.out).mono ?_; rintro e w1 ⟨rfl, hw1⟩; rw [HFA.out, HFB.out])
          | (go_at_call 104; first
            | ((with_reducible refine (p_ex_fs FA _ HFA.out.symm _ hA64).mono ?_); rintro e w2 ⟨rfl, hw2⟩; rw [show S (exL 60 32 (Lib.cut (trimT x) [60, 60]).1) = SA from HSA.out])
            | ((with_reducible refine (p_ex_fs FB _ HFB.out.symm _ hB64).mono ?_); rintro e w3 ⟨rfl, hw3⟩; rw [show S (exL 60 32 (Lib.cut (trimT x) [60, 60]).2.1) = SB from HSB.out])))
        refine ret4 rfl rfl ?_
        exact ⟨rfl, below_on (below_on (below_dr hw1) hw2) hw3⟩
      · have hne := s_ne hSA.symm n0
        rcases hna : nameL (surL (trimT x)) with _ | _
        · have e : spE x = 1 := by unfold spE; rw [if_neg h1, if_neg (by rw [hf]; decide), if_neg (fun g => by rw [hna] at g; exact absurd g.2.1 (by decide))]
          obtain ⟨a1, a2, a3⟩ := sp_no e (by decide)
          rw [a1, a2, a3, e]
          have HNA := Lib.hid hna
          clear hl e a1 a2 a3 h1 hf hSA hSB n0 hTs hna
          go_enter Tryz.func101, Tryz.ntmps101
          go_wp2_with (first
            | (go_at_call 122; refine (p_field s x HX.out _ hm).mono ?_; rintro e w' ⟨rfl, hw⟩; rw [hw, HF.out]; clear hw)
            | (go_at_call 120; refine (p_trim s x HX.out _ hm).mono ?_; rintro e w' ⟨rfl, hw⟩; rw [hw, HT.out]; clear hw)
            | (go_at_call 121; refine (p_cut T _ HT.out.symm mx _ hT64 HMX.out).mono ?_; rintro e w1 ⟨rfl, hw1⟩; rw [HFA.out, HFB.out])
            | (go_at_call 104; first
              | ((with_reducible refine (p_ex_fs FA _ HFA.out.symm _ hA64).mono ?_); rintro e w2 ⟨rfl, hw2⟩; rw [show S (exL 60 32 (Lib.cut (trimT x) [60, 60]).1) = SA from HSA.out])
              | ((with_reducible refine (p_ex_fs FB _ HFB.out.symm _ hB64).mono ?_); rintro e w3 ⟨rfl, hw3⟩; rw [show S (exL 60 32 (Lib.cut (trimT x) [60, 60]).2.1) = SB from HSB.out]))
            | (go_at_call 43; first
              | (with_reducible refine (p_name SA _ HSA.out.symm _ hSA64).mono ?_; rintro e w' ⟨rfl, hw⟩; rw [hw, HNA.out]; clear hw)
              | (with_reducible refine (p_name SB _ HSB.out.symm _ hSB64).mono ?_; rintro e w' ⟨rfl, hw⟩; rw [hw, HNB.out]; clear hw)))
          refine ret4 rfl rfl ?_
          exact ⟨rfl, below_on (below_on (below_dr hw1) hw2) hw3⟩
        · have HNA := Lib.hid hna
          rcases hnb : nameL (givL (trimT x)) with _ | _
          · have e : spE x = 1 := by unfold spE; rw [if_neg h1, if_neg (by rw [hf]; decide), if_neg (fun g => by rw [hnb] at g; exact absurd g.2.2 (by decide))]
            obtain ⟨a1, a2, a3⟩ := sp_no e (by decide)
            rw [a1, a2, a3, e]
            have HNB := Lib.hid hnb
            clear hl e a1 a2 a3 h1 hf hSA hSB n0 hTs hna hnb
            go_enter Tryz.func101, Tryz.ntmps101
            go_wp2_with (first
              | (go_at_call 122; refine (p_field s x HX.out _ hm).mono ?_; rintro e w' ⟨rfl, hw⟩; rw [hw, HF.out]; clear hw)
              | (go_at_call 120; refine (p_trim s x HX.out _ hm).mono ?_; rintro e w' ⟨rfl, hw⟩; rw [hw, HT.out]; clear hw)
              | (go_at_call 121; refine (p_cut T _ HT.out.symm mx _ hT64 HMX.out).mono ?_; rintro e w1 ⟨rfl, hw1⟩; rw [HFA.out, HFB.out])
              | (go_at_call 104; first
                | ((with_reducible refine (p_ex_fs FA _ HFA.out.symm _ hA64).mono ?_); rintro e w2 ⟨rfl, hw2⟩; rw [show S (exL 60 32 (Lib.cut (trimT x) [60, 60]).1) = SA from HSA.out])
                | ((with_reducible refine (p_ex_fs FB _ HFB.out.symm _ hB64).mono ?_); rintro e w3 ⟨rfl, hw3⟩; rw [show S (exL 60 32 (Lib.cut (trimT x) [60, 60]).2.1) = SB from HSB.out]))
              | (go_at_call 43; first
                | (with_reducible refine (p_name SA _ HSA.out.symm _ hSA64).mono ?_; rintro e w' ⟨rfl, hw⟩; rw [hw, HNA.out]; clear hw)
                | (with_reducible refine (p_name SB _ HSB.out.symm _ hSB64).mono ?_; rintro e w' ⟨rfl, hw⟩; rw [hw, HNB.out]; clear hw)))
            refine ret4 rfl rfl ?_
            exact ⟨rfl, below_on (below_on (below_dr hw1) hw2) hw3⟩
          · have e : spE x = 0 := by unfold spE; rw [if_neg h1, if_neg (by rw [hf]; decide), if_pos ⟨n0, hna, hnb⟩]
            obtain ⟨a1, a2, a3⟩ := sp_yes e
            rw [a1, a2, a3, e, HSA.out, HSB.out, HFU.out]
            have HNB := Lib.hid hnb
            clear hl e a1 a2 a3 h1 hf hSA hSB n0 hTs hna hnb
            go_enter Tryz.func101, Tryz.ntmps101
            go_wp2_with (first
              | (go_at_call 122; refine (p_field s x HX.out _ hm).mono ?_; rintro e w' ⟨rfl, hw⟩; rw [hw, HF.out]; clear hw)
              | (go_at_call 120; refine (p_trim s x HX.out _ hm).mono ?_; rintro e w' ⟨rfl, hw⟩; rw [hw, HT.out]; clear hw)
              | (go_at_call 121; refine (p_cut T _ HT.out.symm mx _ hT64 HMX.out).mono ?_; rintro e w1 ⟨rfl, hw1⟩; rw [HFA.out, HFB.out])
              | (go_at_call 104; first
                | ((with_reducible refine (p_ex_fs FA _ HFA.out.symm _ hA64).mono ?_); rintro e w2 ⟨rfl, hw2⟩; rw [show S (exL 60 32 (Lib.cut (trimT x) [60, 60]).1) = SA from HSA.out])
                | ((with_reducible refine (p_ex_fs FB _ HFB.out.symm _ hB64).mono ?_); rintro e w3 ⟨rfl, hw3⟩; rw [show S (exL 60 32 (Lib.cut (trimT x) [60, 60]).2.1) = SB from HSB.out]))
              | (go_at_call 43; first
                | (with_reducible refine (p_name SA _ HSA.out.symm _ hSA64).mono ?_; rintro e w' ⟨rfl, hw⟩; rw [hw, HNA.out]; clear hw)
                | (with_reducible refine (p_name SB _ HSB.out.symm _ hSB64).mono ?_; rintro e w' ⟨rfl, hw⟩; rw [hw, HNB.out]; clear hw)))
            refine ret4 rfl rfl ?_
            exact ⟨rfl, below_on (below_on (below_dr hw1) hw2) hw3⟩

end Go.Proofs.YtdlcoilpkelbaaaGreatDoor
