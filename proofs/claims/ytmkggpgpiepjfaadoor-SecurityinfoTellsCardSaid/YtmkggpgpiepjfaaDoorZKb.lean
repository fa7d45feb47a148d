/-
  What is proved here: infos are read as they were written, and written as they were read (without a program).
-/
import Derived.Test.YtmkggpgpiepjfaaDoorZG16
import Derived.Test.YtmkggpgpiepjfaaDoorZJs
namespace Go.Proofs.YtmkggpgpiepjfaaDoor
open Go.RowKit
set_option maxRecDepth 8000
set_option linter.unusedVariables false
set_option linter.unusedSimpArgs false
theorem numL_1 {n : Nat} (h : n < 256) : numL (octL n 1) = n := by
  have e : List.range 1 = [0] := rfl
  simp [octL, e, octAt, numL, UInt8.toNat_ofNat']
  omega
theorem octL_4 (n : Nat) : octL n 4 = [UInt8.ofNat (n / 16777216), UInt8.ofNat (n / 65536), UInt8.ofNat (n / 256), UInt8.ofNat n] := by
  have e : List.range 4 = [0, 1, 2, 3] := rfl
  simp [octL, e, octAt]
theorem octL_1 (n : Nat) : octL n 1 = [UInt8.ofNat n] := by
  have e : List.range 1 = [0] := rfl
  simp [octL, e, octAt]
theorem numL_4b {n : Nat} (h : n < 4294967296) : numL (octL n 4) = n := by
  rw [octL_4]
  simp only [numL, List.foldl_cons, List.foldl_nil, UInt8.toNat_ofNat']
  omega
theorem u8_back {a : UInt8} {n : Nat} (h : n % 256 = a.toNat) : UInt8.ofNat n = a := by
  apply UInt8.toNat_inj.1
  rw [UInt8.toNat_ofNat']
  exact h
theorem oct_back1 {v : List UInt8} (h : v.length = 1) : octL (numL v) 1 = v := by
  obtain ⟨a, rfl⟩ := List.length_eq_one_iff.1 h
  rw [octL_1]
  congr 1
  apply u8_back
  simp only [numL, List.foldl_cons, List.foldl_nil]
  have := a.toNat_lt
  omega
theorem oct_back4 {v : List UInt8} (h : v.length = 4) : octL (numL v) 4 = v := by
  obtain ⟨a, b, c, d, rfl⟩ : ∃ a b c d, v = [a, b, c, d] := by
    match v, h with
    | [a, b, c, d], _ => exact ⟨a, b, c, d, rfl⟩
  rw [octL_4]
  have ha := a.toNat_lt
  have hb := b.toNat_lt
  have hc := c.toNat_lt
  have hd := d.toNat_lt
  simp only [numL, List.foldl_cons, List.foldl_nil]
  rw [u8_back (a := a) (by omega), u8_back (a := b) (by omega), u8_back (a := c) (by omega), u8_back (a := d) (by omega)]
theorem one_parts {x : Im} (h : oneI x = 0) : 2 ≤ x.p ∧ x.p ≤ 6 ∧ 1 ≤ x.v ∧ x.v ≤ 255 ∧ parB x = true ∧ kidB x = true ∧ keyB x = true := by
  unfold oneI at h
  split at h
  · cases h
  · rename_i h1
    split at h
    · cases h
    · rename_i h2
      split at h
      · cases h
      · rename_i h3
        have h2 : rngI x = true := by simpa using h2
        unfold rngI at h2
        simp only [Bool.and_eq_true, decide_eq_true_eq] at h2
        exact ⟨by omega, by omega, h2.1.1, h2.1.2, h2.2.1, h2.2.2, by simpa using h3⟩
theorem idT_id {p : Int} (h2 : 2 ≤ p) (h6 : p ≤ 6) : idT (idL p) = some p := by
  have h := idT_at (v := idL p) (j := (p - 2).toNat) (by omega) (by congr 1; omega)
  rw [h]
  congr 1
  omega
theorem infT_back {x : Im} (h : oneI x = 0) : infT 48 (kidF x) = some x := by
  obtain ⟨h2, h6, h1, h255, hp, hi, hk⟩ := one_parts h
  have e : infT 48 (kidF x) = numT ⟨x.p, 0, 0, 0, 0⟩ (numsI x.p) (numF x (numsI x.p)) := by
    show (if (48 : Int) = 48 ∧ (6 : Int) = 6 then match idT (idL x.p) with
      | none => none
      | some p => numT ⟨p, 0, 0, 0, 0⟩ (numsI p) (numF x (numsI x.p)) else none) = _
    rw [if_pos ⟨rfl, rfl⟩, idT_id h2 h6]
  rw [e]
  obtain ⟨p, v, a, k, i⟩ := x
  simp only at h2 h6 h1 h255
  have nv : ((numL (octL v.toNat 1) : Nat) : Int) = v := by rw [numL_1 (by omega)]; omega
  have hps : p = 2 ∨ p = 3 ∨ p = 4 ∨ p = 5 ∨ p = 6 := by omega
  rcases hps with rfl | rfl | rfl | rfl | rfl
  · have hp : 0 ≤ a ∧ a ≤ 31 := by simpa [parB, pwB] using hp
    have hi0 : i = 0 := by simpa [kidB] using hi
    have hk0 : k = 0 := by simpa [keyB] using hk
    subst hi0 hk0
    have na : ((numL (octL a.toNat 1) : Nat) : Int) = a := by rw [numL_1 (by omega)]; omega
    show (if (2 : Int) = 2 ∧ (octL v.toNat 1).length = 1 then (if (2 : Int) = 2 ∧ (octL a.toNat 1).length = 1 then some (⟨2, ((numL (octL v.toNat 1) : Nat) : Int), ((numL (octL a.toNat 1) : Nat) : Int), 0, 0⟩ : Im) else none) else none) = _
    rw [if_pos ⟨rfl, octL_length _ _⟩, if_pos ⟨rfl, octL_length _ _⟩, nv, na]
  · have hp : 0 ≤ a ∧ a ≤ 31 := by simpa [parB, pwB] using hp
    have hi0 : i = 0 := by simpa [kidB] using hi
    have hk0 : k = 0 := by simpa [keyB] using hk
    subst hi0 hk0
    have na : ((numL (octL a.toNat 1) : Nat) : Int) = a := by rw [numL_1 (by omega)]; omega
    show (if (2 : Int) = 2 ∧ (octL v.toNat 1).length = 1 then (if (2 : Int) = 2 ∧ (octL a.toNat 1).length = 1 then some (⟨3, ((numL (octL v.toNat 1) : Nat) : Int), ((numL (octL a.toNat 1) : Nat) : Int), 0, 0⟩ : Im) else none) else none) = _
    rw [if_pos ⟨rfl, octL_length _ _⟩, if_pos ⟨rfl, octL_length _ _⟩, nv, na]
  · have ha0 : a = 0 := by simpa [parB, pwB] using hp
    have hi : 0 ≤ i ∧ i ≤ 255 := by simpa [kidB] using hi
    have hk : elB k = true := by simpa [keyB] using hk
    have hkb := elB_bd hk
    subst ha0
    have nk : ((numL (octL k.toNat 4) : Nat) : Int) = k := by rw [numL_4b (by omega)]; omega
    have ni : ((numL (octL i.toNat 1) : Nat) : Int) = i := by rw [numL_1 (by omega)]; omega
    show (if (2 : Int) = 2 ∧ (octL v.toNat 1).length = 1 then (if (4 : Int) = 4 ∧ (octL k.toNat 4).length = 4 then (if (2 : Int) = 2 ∧ (octL i.toNat 1).length = 1 then some (⟨4, ((numL (octL v.toNat 1) : Nat) : Int), 0, ((numL (octL k.toNat 4) : Nat) : Int), ((numL (octL i.toNat 1) : Nat) : Int)⟩ : Im) else none) else none) else none) = _
    rw [if_pos ⟨rfl, octL_length _ _⟩, if_pos ⟨rfl, octL_length _ _⟩, if_pos ⟨rfl, octL_length _ _⟩, nv, nk, ni]
  · have ha0 : a = 0 := by simpa [parB, pwB] using hp
    have hi0 : i = 0 := by simpa [kidB] using hi
    have hk0 : k = 0 := by simpa [keyB] using hk
    subst ha0 hi0 hk0
    show (if (2 : Int) = 2 ∧ (octL v.toNat 1).length = 1 then some (⟨5, ((numL (octL v.toNat 1) : Nat) : Int), 0, 0, 0⟩ : Im) else none) = _
    rw [if_pos ⟨rfl, octL_length _ _⟩, nv]
  · have ha0 : a = 0 := by simpa [parB, pwB] using hp
    have hi0 : i = 0 := by simpa [kidB] using hi
    have hk0 : k = 0 := by simpa [keyB] using hk
    subst ha0 hi0 hk0
    show (if (2 : Int) = 2 ∧ (octL v.toNat 1).length = 1 then some (⟨6, ((numL (octL v.toNat 1) : Nat) : Int), 0, 0, 0⟩ : Im) else none) = _
    rw [if_pos ⟨rfl, octL_length _ _⟩, nv]
theorem infsT_back : ∀ {L : List Im}, (∀ x ∈ L, oneI x = 0) → infsT (objsI L) = some L
  | [], _ => rfl
  | x :: r, h => by
    show (match infT 48 (kidF x) with
      | none => none
      | some y => (infsT (objsI r)).map (y :: ·)) = _
    rw [infT_back (h x (List.mem_cons_self ..)), infsT_back fun y hy => h y (List.mem_cons_of_mem _ hy)]
    rfl
theorem lstI_back {L : List Im} (h : vaE L = 0) : lstI (setF L) = some L := by
  show (if (49 : Int) = 49 then infsT (objsI L) else none) = _
  rw [if_pos rfl]
  exact infsT_back fun x hx => chkI_all (vaE_none h).2 x hx
theorem numsI_all (p : Int) : ∀ e ∈ numsI p, (e.1 = 2 ∨ e.1 = 4) ∧ (e.2.1 = 1 ∨ e.2.1 = 4) ∧ 1 ≤ e.2.2 ∧ e.2.2 < 5 := by
  intro e he
  unfold numsI at he
  rcases List.mem_cons.1 he with rfl | he
  · decide
  · split at he
    · rcases List.mem_cons.1 he with rfl | he
      · decide
      · cases he
    · split at he
      · rcases List.mem_cons.1 he with rfl | he
        · decide
        · rcases List.mem_cons.1 he with rfl | he
          · decide
          · cases he
      · cases he
theorem prim24 {t : Int} (h : t = 2 ∨ t = 4) : validB t = true ∧ consB t = false ∧ tagN t = 1 := by
  rcases h with rfl | rfl <;> decide
theorem numF_fit (x : Im) {m : Nat} (hm : 1 ≤ m) : ∀ l : List (Int × Nat × Nat), (∀ e ∈ l, (e.1 = 2 ∨ e.1 = 4) ∧ (e.2.1 = 1 ∨ e.2.1 = 4) ∧ 1 ≤ e.2.2 ∧ e.2.2 < 5) → (numF x l).fit m
  | [], _ => trivial
  | (t, s, c) :: r, h => by
    obtain ⟨h1, h2, _⟩ := h (t, s, c) (List.mem_cons_self ..)
    obtain ⟨a, b, _⟩ := prim24 h1
    refine ⟨hm, a, fun hc => (by rw [b] at hc; cases hc), fun _ => rfl, ?_, trivial, numF_fit x hm r fun e he => h e (List.mem_cons_of_mem _ he)⟩
    rw [octL_length]
    simp only at h2
    omega
theorem objsI_fit {m : Nat} (hm : 2 ≤ m) : ∀ L : List Im, (objsI L).fit m
  | [] => trivial
  | x :: r => ⟨by omega, by decide, fun _ => rfl, fun h => absurd h (by decide), Nat.zero_le _, ⟨by omega, by decide, fun h => absurd h (by decide), fun _ => rfl, by rw [idL_len]; decide, trivial, numF_fit x (by omega) _ (numsI_all x.p)⟩, objsI_fit hm r⟩
theorem setF_fit (L : List Im) : (setF L).fit 8 := ⟨by decide, by decide, fun _ => rfl, fun h => absurd h (by decide), Nat.zero_le _, objsI_fit (by decide) L, trivial⟩
theorem numsI_le3 (p : Int) : (numsI p).length ≤ 3 := by
  unfold numsI
  split
  · decide
  · split <;> decide
theorem numF_sz (x : Im) : ∀ l : List (Int × Nat × Nat), (numF x l).size = l.length
  | [] => rfl
  | (t, s, c) :: r => by simp only [numF, F.size, List.length_cons]; rw [numF_sz x r]; omega
theorem objsI_sz : ∀ L : List Im, (objsI L).size ≤ 5 * L.length
  | [] => Nat.le_refl _
  | x :: r => by
    have h := objsI_sz r
    have h2 := numsI_le3 x.p
    simp only [objsI, kidF, F.size, List.length_cons, numF_sz]
    omega
theorem setF_sz {L : List Im} (h : L.length ≤ 16) : (setF L).size ≤ 256 := by
  have := objsI_sz L
  simp only [setF, F.size]
  omega
theorem numF_encN (x : Im) : ∀ l : List (Int × Nat × Nat), (∀ e ∈ l, (e.1 = 2 ∨ e.1 = 4) ∧ (e.2.1 = 1 ∨ e.2.1 = 4) ∧ 1 ≤ e.2.2 ∧ e.2.2 < 5) → encN (numF x l) ≤ 6 * l.length
  | [], _ => Nat.le_refl _
  | (t, s, c) :: r, h => by
    have h0 := numF_encN x r fun e he => h e (List.mem_cons_of_mem _ he)
    obtain ⟨h1, h2, _⟩ := h (t, s, c) (List.mem_cons_self ..)
    obtain ⟨_, _, h3⟩ := prim24 h1
    simp only at h2
    simp only [numF, encN, octL_length, List.length_cons, h3]
    have : lb (s + 0) = 0 := lb_0 (by omega)
    rw [this]
    omega
theorem kidF_encN (x : Im) : encN (kidF x) ≤ 29 := by
  have h := numF_encN x _ (numsI_all x.p)
  have h2 := numsI_le3 x.p
  have e6 : tagN 6 = 1 := rfl
  simp only [kidF, encN, idL_len, e6]
  have : lb (9 + 0) = 0 := lb_0 (by omega)
  rw [this]
  omega
theorem objsI_encN : ∀ L : List Im, encN (objsI L) ≤ 31 * L.length
  | [] => Nat.le_refl _
  | x :: r => by
    have h := objsI_encN r
    have h2 := kidF_encN x
    have e48 : tagN 48 = 1 := rfl
    simp only [objsI, encN, List.length_nil, e48, List.length_cons]
    have : lb (0 + encN (kidF x)) = 0 := lb_0 (by omega)
    rw [this]
    omega
theorem setF_encN {L : List Im} (h : L.length ≤ 16) : encN (setF L) ≤ 4096 := by
  have h1 := objsI_encN L
  have e49 : tagN 49 = 1 := rfl
  simp only [setF, encN, List.length_nil, e49]
  have : lb (0 + encN (objsI L)) ≤ 8 := lb_le8 _
  omega
theorem fit_chk : ∀ {f : F} {m : Nat} {d : Int}, f.fit m → (m : Int) + d ≤ 9 → chkE f d = 0
  | .nil, _, _, _, _ => rfl
  | .cons t v k r, m, d, h, hd => by
    obtain ⟨h1, h2, h3, h4, h5, h6, h7⟩ := h
    have hc : chk1 t v.length k.len d = 0 := by
      unfold chk1
      rw [if_neg (by rw [h2]; decide)]
      have : ¬ ((consB t = true ∧ 0 < v.length) ∨ (consB t = false ∧ 0 < k.len)) := by
        rintro (⟨a, b⟩ | ⟨a, b⟩)
        · rw [h3 a] at b; simp at b
        · rw [h4 a] at b; simp [F.len] at b
      rw [if_neg this, if_neg (by omega)]
    have hk : chkE k (d + 1) = 0 := fit_chk h6 (by omega)
    rw [chkE_3 hc hk]
    exact fit_chk h7 hd
theorem setF_encE {L : List Im} (h : vaE L = 0) : encE (setF L) = 0 := by
  have hl := vaE_len h
  have h1 : chkE (setF L) 1 = 0 := fit_chk (setF_fit L) (by decide)
  have h2 := setF_sz hl
  have h3 := setF_encN hl
  unfold encE
  rw [if_neg (by rw [h1]; decide), if_neg (by omega), if_neg (by omega)]
theorem se_ok {L : List Im} (h : vaE L = 0) : seE L = 0 ∧ seB L = enc (setF L) := by
  have h1 := setF_encE h
  unfold seE seB
  rw [if_pos h, if_pos h]
  refine ⟨h1, ?_⟩
  unfold encB
  rw [if_pos h1]
theorem read_back {L : List Im} (h : vaE L = 0) : deE (parse true (seB L)) = 0 ∧ deL (parse true (seB L)) = L := by
  have hl := vaE_len h
  rw [(se_ok h).2, parse_fit (setF_fit L) (loose_enc true _ (Nat.le_trans (setF_encN hl) (by decide))) (by rw [enc_length]; exact setF_encN hl) (setF_sz hl)]
  obtain ⟨h1, h2⟩ := deL_list (q := (setF L).size) (lstI_back h)
  rw [h2, h1, if_pos h]
  exact ⟨h, rfl⟩
theorem loopL_ne {ob : Nat → List UInt8 → Except Int ObR} (h : ∀ c l e, ob c l = .error e → e ≠ 0) : ∀ m c l e, loopL ob m c l = .error e → e ≠ 0
  | 0, c, l, e, h2 => by cases h2
  | m + 1, c, [], e, h2 => by cases h2
  | m + 1, c, a :: l, e, h2 => by
    unfold loopL at h2
    rcases ho : ob c (a :: l) with x | ⟨t, v, k, rest, c'⟩
    · rw [ho] at h2
      injection h2 with h2
      subst h2
      exact h _ _ _ ho
    · rw [ho] at h2
      simp only at h2
      rcases hl : loopL ob m c' rest with x | ⟨f, c''⟩
      · rw [hl] at h2
        injection h2 with h2
        subst h2
        exact loopL_ne h _ _ _ _ hl
      · rw [hl] at h2; cases h2
theorem loopM_ne {ob : Nat → List UInt8 → Except Int ObR} (h : ∀ c l e, ob c l = .error e → e ≠ 0) : ∀ m c l e, loopM ob m c l = .error e → e ≠ 0
  | 0, c, l, e, h2 => by
    have : (6 : Int) = e := by injection h2
    omega
  | m + 1, c, l, e, h2 => by
    unfold loopM at h2
    split at h2
    · have : (6 : Int) = e := by injection h2
      omega
    · split at h2
      · cases h2
      · rcases ho : ob c l with x | ⟨t, v, k, rest, c'⟩
        · rw [ho] at h2
          injection h2 with h2
          subst h2
          exact h _ _ _ ho
        · rw [ho] at h2
          simp only at h2
          rcases hl : loopM ob m c' rest with x | ⟨f, r, c''⟩
          · rw [hl] at h2
            injection h2 with h2
            subst h2
            exact loopM_ne h _ _ _ _ hl
          · rw [hl] at h2; cases h2
theorem pObj_ne (st : Bool) : ∀ k c l e, pObj st k c l = .error e → e ≠ 0
  | 0, c, l, e, h => by
    unfold pObj at h
    split at h
    · rename_i h1
      injection h with h
      rw [← h]; exact h1
    · injection h with h
      rw [← h]
      unfold admE
      split
      · decide
      · rw [if_pos (by decide)]
        decide
  | k + 1, c, l, e, h => by
    unfold pObj at h
    split at h
    · rename_i h1
      injection h with h
      rw [← h]; exact h1
    · split at h
      · rename_i h1
        injection h with h
        rw [← h]; exact h1
      · split at h
        · rcases hl : loopM (pObj st k) (l.drop (hdrS l)).length (c + 1) (l.drop (hdrS l)) with x | ⟨f, r, c''⟩
          · rw [hl] at h
            injection h with h
            subst h
            exact loopM_ne (pObj_ne st k) _ _ _ _ hl
          · rw [hl] at h; cases h
        · split at h
          · have : (6 : Int) = e := by injection h
            omega
          · split at h
            · cases h
            · rcases hl : loopL (pObj st k) (hdrN l) (c + 1) ((l.drop (hdrS l)).take (hdrN l)) with x | ⟨f, c''⟩
              · rw [hl] at h
                injection h with h
                subst h
                exact loopL_ne (pObj_ne st k) _ _ _ _ hl
              · rw [hl] at h; cases h
theorem parse_ne {st : Bool} {b : List UInt8} {e : Int} (h : parse st b = .error e) : e ≠ 0 := by
  unfold parse at h
  split at h
  · have : (2 : Int) = e := by injection h
    omega
  · exact loopL_ne (pObj_ne st 8) _ _ _ _ h
theorem Im.get_put (x : Im) {c d : Nat} (n : Int) (hc : c < 5) (hd : d < 5) : (x.put c n).get d = if d = c then n else x.get d := by
  have h1 : c = 0 ∨ c = 1 ∨ c = 2 ∨ c = 3 ∨ c = 4 := by omega
  have h2 : d = 0 ∨ d = 1 ∨ d = 2 ∨ d = 3 ∨ d = 4 := by omega
  rcases h1 with rfl | rfl | rfl | rfl | rfl <;> rcases h2 with rfl | rfl | rfl | rfl | rfl <;> rfl
theorem numT_keep : ∀ {l : List (Int × Nat × Nat)} {y x : Im} {f : F} {d : Nat}, numT y l f = some x → d < 5 → (∀ e ∈ l, e.2.2 ≠ d ∧ e.2.2 < 5) → x.get d = y.get d
  | [], y, x, .nil, d, h, _, _ => by injection h with h; rw [h]
  | [], y, x, .cons _ _ _ _, d, h, _, _ => by cases h
  | (t, s, c) :: r, y, x, .nil, d, h, _, _ => by cases h
  | (t, s, c) :: r, y, x, .cons t' v k g, d, h, hd, hl => by
    unfold numT at h
    split at h
    · have h1 := numT_keep h hd fun e he => hl e (List.mem_cons_of_mem _ he)
      obtain ⟨h2, h3⟩ := hl (t, s, c) (List.mem_cons_self ..)
      rw [h1, Im.get_put y _ h3 hd, if_neg (fun e => h2 e.symm)]
    · cases h
theorem numT_form : ∀ {l : List (Int × Nat × Nat)} {y x : Im} {f : F} {m : Nat}, numT y l f = some x → f.fit m → (∀ e ∈ l, (e.1 = 2 ∨ e.1 = 4) ∧ (e.2.1 = 1 ∨ e.2.1 = 4) ∧ 1 ≤ e.2.2 ∧ e.2.2 < 5) → (l.map (·.2.2)).Nodup → f = numF x l
  | [], y, x, .nil, m, h, _, _, _ => rfl
  | [], y, x, .cons _ _ _ _, m, h, _, _, _ => by cases h
  | (t, s, c) :: r, y, x, .nil, m, h, _, _, _ => by cases h
  | (t, s, c) :: r, y, x, .cons t' v k g, m, h, hf, hl, hn => by
    unfold numT at h
    split at h
    · rename_i h0
      obtain ⟨h1, h2⟩ := h0
      subst h1
      obtain ⟨a1, a2, _, a4⟩ := hl (t', s, c) (List.mem_cons_self ..)
      simp only [List.map_cons, List.nodup_cons] at hn
      have hk : k = .nil := hf.2.2.2.1 (prim24 a1).2.1
      have hx : x.get c = ((numL v : Nat) : Int) := by
        rw [numT_keep h a4 (fun e he => ⟨fun e2 => hn.1 (List.mem_map.2 ⟨e, he, e2⟩), (hl e (List.mem_cons_of_mem _ he)).2.2.2⟩), Im.get_put _ _ a4 a4, if_pos rfl]
      have hv : octL (x.get c).toNat s = v := by
        rw [hx, Int.toNat_natCast]
        simp only at a2
        rcases a2 with rfl | rfl
        · exact oct_back1 h2
        · exact oct_back4 h2
      show F.cons t' v k g = .cons t' (octL (x.get c).toNat s) .nil (numF x r)
      rw [hv, hk, numT_form h hf.2.2.2.2.2.2 (fun e he => hl e (List.mem_cons_of_mem _ he)) hn.2]
    · cases h
theorem numsI_nodup (p : Int) : ((numsI p).map (·.2.2)).Nodup := by
  unfold numsI
  split
  · decide
  · split <;> decide
theorem infT_form {t : Int} {k : F} {x : Im} {m : Nat} (h : infT t k = some x) (hf : k.fit m) : t = 48 ∧ k = kidF x := by
  match k, h with
  | .cons t0 v0 k0 r, h =>
    have h9 : (if t = 48 ∧ t0 = 6 then match idT v0 with
      | none => none
      | some p => numT ⟨p, 0, 0, 0, 0⟩ (numsI p) r else none) = some x := h
    split at h9
    · rename_i h0
      obtain ⟨h1, h2⟩ := h0
      subst h2
      rcases hid : idT v0 with _ | p
      · rw [hid] at h9; cases h9
      · rw [hid] at h9
        have hv := (idT_some hid).1
        have hk : k0 = .nil := hf.2.2.2.1 (by decide)
        have hp : x.p = p := numT_keep (d := 0) h9 (by decide) fun e he => ⟨by have := (numsI_all p e he).2.2.1; omega, (numsI_all p e he).2.2.2⟩
        have hr := numT_form h9 hf.2.2.2.2.2.2 (numsI_all p) (numsI_nodup p)
        refine ⟨h1, ?_⟩
        unfold kidF
        rw [hp, ← hr, hk, hv]
    · cases h9
theorem infsT_form : ∀ {k : F} {L : List Im} {m : Nat}, infsT k = some L → k.fit m → k = objsI L
  | .nil, L, m, h, _ => by cases h; rfl
  | .cons t v kk r, L, m, h, hf => by
    have h : (match infT t kk with
      | none => none
      | some x => (infsT r).map (x :: ·)) = some L := h
    rcases hx : infT t kk with _ | x
    · rw [hx] at h; cases h
    · rw [hx] at h
      rcases hr : infsT r with _ | L'
      · rw [hr] at h; cases h
      · rw [hr] at h
        have e : x :: L' = L := by injection h
        subst e
        obtain ⟨h1, h2⟩ := infT_form hx hf.2.2.2.2.2.1
        subst h1
        have h3 := infsT_form hr hf.2.2.2.2.2.2
        have h4 : v = [] := hf.2.2.1 (by decide)
        rw [h2, h3, h4]
        rfl
theorem lstI_form {f : F} {L : List Im} {m : Nat} (h : lstI f = some L) (hf : f.fit m) : f = setF L := by
  match f, h with
  | .cons t v k .nil, h =>
    have h : (if t = 49 then infsT k else none) = some L := h
    split at h
    · rename_i h1
      subst h1
      have h2 := infsT_form h hf.2.2.2.2.2.1
      have h4 : v = [] := hf.2.2.1 (by decide)
      rw [h2, h4]
      rfl
    · cases h
theorem write_back {c : List UInt8} (h : deE (parse true c) = 0) : vaE (deL (parse true c)) = 0 ∧ seE (deL (parse true c)) = 0 ∧ seB (deL (parse true c)) = c := by
  rcases hp : parse true c with x | ⟨f, q⟩
  · rw [hp] at h
    have h : x = 0 := h
    subst h
    exact absurd rfl (parse_ne hp)
  · rw [hp] at h
    rcases hl : lstI f with _ | L
    · have := (deL_no (q := q) hl).2
      rw [this] at h; cases h
    · obtain ⟨e1, e2⟩ := deL_list (q := q) hl
      rw [e2] at h
      rw [e1, if_pos h]
      have hf := lstI_form hl (parse_fits hp).1
      have hs := strict_back hp
      rw [hf] at hs
      refine ⟨h, ?_, ?_⟩
      · exact (se_ok h).1
      · unfold seB
        rw [if_pos h]
        exact hs.2.1
end Go.Proofs.YtmkggpgpiepjfaaDoor
