/-
  What is proved here: plain facts: what is padded is unpadded, what is sealed is opened, and the reverse. Nothing of the program is used.
-/
import Derived.Test.YtipkaeeimohmpaaMo
namespace Go.Proofs.Ytipkaeeimohmpaa
open Go.RowKit
set_option linter.unusedVariables false

theorem getD_eq {l : List UInt8} {k : Nat} (h : k < l.length) : l.getD k 0 = l[k] := by simp [List.getD, h]
theorem xor16_get {x y : List UInt8} {k : Nat} (h : k < 16) : (xor16 x y).getD k 0 = x.getD k 0 ^^^ y.getD k 0 := by
  rw [getD_eq (by rw [xor16_length]; exact h)]
  simp [xor16]
theorem list16 {a b : List UInt8} (ha : a.length = 16) (hb : b.length = 16) (h : ∀ k, k < 16 → a.getD k 0 = b.getD k 0) : a = b := by
  apply List.ext_getElem (by omega)
  intro i h1 h2
  rw [← getD_eq h1, ← getD_eq h2]
  exact h i (by omega)
theorem xor16_back {a b : List UInt8} (ha : a.length = 16) : xor16 (xor16 a b) b = a :=
  list16 (xor16_length _ _) ha fun k hk => by rw [xor16_get hk, xor16_get hk, UInt8.xor_assoc, UInt8.xor_self, UInt8.xor_zero]
theorem blk16_app {p q : List UInt8} {n k : Nat} (hp : p.length = 16 * n) (hk : k < n) : blk16 (p ++ q) k = blk16 p k := by
  unfold blk16
  rw [List.drop_append_of_le_length (by omega), List.take_append_of_le_length (by rw [List.length_drop]; omega)]
theorem blk16_last {p q : List UInt8} {n : Nat} (hp : p.length = 16 * n) (hq : q.length = 16) : blk16 (p ++ q) n = q := by
  unfold blk16
  rw [← hp, List.drop_left, List.take_of_length_le (by omega)]
theorem seal_blk {key iv p : List UInt8} (hiv : iv.length = 16) (k : Nat) : ∀ m, k < m → blk16 (sealN key iv p m) k = stN key iv p (k + 1)
  | 0, h => by omega
  | m + 1, h => by
    by_cases e : k = m
    · subst e
      rw [sealN, blk16_last (sealN_length hiv k) (stN_length hiv _)]
    · rw [sealN, blk16_app (sealN_length hiv m) (by omega)]
      exact seal_blk hiv k m (by omega)
theorem open_blk {key iv p : List UInt8} (k : Nat) : ∀ m, k < m → blk16 (openN key iv p m) k = xor16 (decL key (blk16 p k)) (pvN iv p k)
  | 0, h => by omega
  | m + 1, h => by
    by_cases e : k = m
    · subst e
      rw [openN, blk16_last (openN_length key iv p k) (xor16_length _ _)]
    · rw [openN, blk16_app (openN_length key iv p m) (by omega)]
      exact open_blk k m (by omega)
theorem take_blk {p : List UInt8} (k : Nat) : p.take (16 * k) ++ blk16 p k = p.take (16 * (k + 1)) := by
  unfold blk16
  rw [show 16 * (k + 1) = 16 * k + 16 by omega, List.take_add]
theorem pv_seal {key iv p : List UInt8} (hiv : iv.length = 16) (m : Nat) : ∀ k, k ≤ m → pvN iv (sealN key iv p m) k = stN key iv p k
  | 0, _ => rfl
  | k + 1, h => by rw [pvN, seal_blk hiv k m (by omega)]
theorem open_seal {key iv p : List UInt8} {m : Nat} (hk : key.length = 16) (hiv : iv.length = 16) (hp : p.length = 16 * m) : ∀ k, k ≤ m → openN key iv (sealN key iv p m) k = p.take (16 * k)
  | 0, _ => by simp [openN]
  | k + 1, h => by
    rw [openN, open_seal hk hiv hp k (by omega), pv_seal hiv m k (by omega), seal_blk hiv k m (by omega), stN, dec_enc hk (xor16_length _ _), xor16_back (blk16_length hp (by omega)), take_blk]
theorem st_open {key iv p : List UInt8} {m : Nat} (hk : key.length = 16) (hiv : iv.length = 16) (hp : p.length = 16 * m) : ∀ k, k ≤ m → stN key iv (openN key iv p m) k = pvN iv p k
  | 0, _ => rfl
  | k + 1, h => by
    rw [stN, st_open hk hiv hp k (by omega), open_blk k m (by omega), xor16_back (decL_length _ _), enc_dec hk (blk16_length hp (by omega)), pvN]
theorem seal_open {key iv p : List UInt8} {m : Nat} (hk : key.length = 16) (hiv : iv.length = 16) (hp : p.length = 16 * m) : ∀ k, k ≤ m → sealN key iv (openN key iv p m) k = p.take (16 * k)
  | 0, _ => by simp [sealN]
  | k + 1, h => by
    rw [sealN, seal_open hk hiv hp k (by omega), st_open hk hiv hp (k + 1) h, pvN, take_blk]

theorem open_seal_all {key iv p : List UInt8} (hk : key.length = 16) (hiv : iv.length = 16) (hp : p.length % 16 = 0) : openB key iv (sealB key iv p) = p ∧ (sealB key iv p).length = p.length := by
  have hp2 : p.length = 16 * (p.length / 16) := by omega
  have e0 : vE key.length iv.length p.length = 0 := by simp [vE, hk, hiv, hp]
  have es : sealB key iv p = sealN key iv p (p.length / 16) := if_pos e0
  have hl : (sealB key iv p).length = p.length := by rw [es, sealN_length hiv]; omega
  refine ⟨?_, hl⟩
  unfold openB
  rw [hl, if_pos e0, es, open_seal hk hiv hp2 _ (Nat.le_refl _), List.take_of_length_le (by omega)]
theorem seal_open_all {key iv p : List UInt8} (hk : key.length = 16) (hiv : iv.length = 16) (hp : p.length % 16 = 0) : sealB key iv (openB key iv p) = p ∧ (openB key iv p).length = p.length := by
  have hp2 : p.length = 16 * (p.length / 16) := by omega
  have e0 : vE key.length iv.length p.length = 0 := by simp [vE, hk, hiv, hp]
  have es : openB key iv p = openN key iv p (p.length / 16) := if_pos e0
  have hl : (openB key iv p).length = p.length := by rw [es, openN_length]; omega
  refine ⟨?_, hl⟩
  unfold sealB
  rw [hl, if_pos e0, es, seal_open hk hiv hp2 _ (Nat.le_refl _), List.take_of_length_le (by omega)]

/-! ### padding -/
theorem pad_at {l : List UInt8} : (padM l).getD l.length 0 = 128 := by simp [padM, List.getD]
theorem pad_behind {l : List UInt8} {j : Nat} (h : j < 15 - l.length % 16) : (padM l).getD (l.length + 1 + j) 0 = 0 := by
  simp only [padM, List.getD]
  rw [List.append_assoc, List.getElem?_append_right (by omega), show l.length + 1 + j - l.length = j + 1 by omega]
  show (128 :: List.replicate (15 - l.length % 16) 0)[j + 1]?.getD 0 = 0
  rw [List.getElem?_cons_succ, List.getElem?_replicate]
  split <;> rfl
theorem up_pad (l : List UInt8) : ∀ j f, j ≤ 15 - l.length % 16 → j < f → upN (padM l) f (l.length + j) = some l.length
  | 0, f + 1, _, _ => by rw [upN, Nat.add_zero, pad_at]; rfl
  | j + 1, f + 1, h1, h2 => by
    have e : (padM l).getD (l.length + (j + 1)) 0 = 0 := by
      rw [show l.length + (j + 1) = l.length + 1 + j by omega]
      exact pad_behind (by omega)
    rw [upN, e, if_neg (by decide), if_pos rfl, show l.length + (j + 1) - 1 = l.length + j by omega]
    exact up_pad l j f (by omega) (by omega)
theorem up_padM (l : List UInt8) : upN (padM l) 16 ((padM l).length - 1) = some l.length := by
  have h := up_pad l (15 - l.length % 16) 16 (Nat.le_refl _) (by omega)
  rw [padM_length, show (l.length / 16 + 1) * 16 - 1 = l.length + (15 - l.length % 16) by omega]
  exact h
theorem unp_pad (l : List UInt8) : unpB (padM l) = l ∧ unpE (padM l) = 0 := by
  have h := up_padM l
  have h1 := padM_whole l
  have h2 := padM_pos l
  have h3 : ¬ ((padM l).length = 0 ∨ (padM l).length % 16 ≠ 0) := by omega
  constructor
  · unfold unpB
    rw [if_neg h3, h]
    show (padM l).take l.length = l
    rw [padM, List.append_assoc, List.take_left]
  · unfold unpE
    rw [if_neg h3, h]

end Go.Proofs.Ytipkaeeimohmpaa
