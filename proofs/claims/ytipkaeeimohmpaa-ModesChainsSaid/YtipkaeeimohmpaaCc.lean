/-
  What is proved here: plain facts on chained blocks: a change of one byte changes nothing that was encrypted before its block, and two decrypted blocks at most; nothing of the program is used.
-/
import Derived.Test.YtipkaeeimohmpaaMqa
namespace Go.Proofs.Ytipkaeeimohmpaa
open Go.RowKit
set_option linter.unusedVariables false

section
variable {key iv p : List UInt8} {i : Nat} {z : UInt8}
theorem blk_set {k : Nat} (h : k ≠ i / 16) : blk16 (p.set i z) k = blk16 p k := by
  apply List.ext_getElem?
  intro j
  unfold blk16
  rw [List.getElem?_take, List.getElem?_take]
  split
  · rw [List.getElem?_drop, List.getElem?_drop, List.getElem?_set_ne (by omega)]
  · rfl
theorem stN_set : ∀ k, k ≤ i / 16 → stN key iv (p.set i z) k = stN key iv p k
  | 0, _ => rfl
  | k + 1, h => by rw [stN, stN, blk_set (by omega), stN_set k (by omega)]
theorem sealN_set : ∀ k, k ≤ i / 16 → sealN key iv (p.set i z) k = sealN key iv p k
  | 0, _ => rfl
  | k + 1, h => by rw [sealN, sealN, sealN_set k (by omega), stN_set (k + 1) h]
theorem sealN_take (hiv : iv.length = 16) (j : Nat) : ∀ k, j ≤ k → (sealN key iv p k).take (16 * j) = sealN key iv p j := by
  intro k h
  induction k with
  | zero =>
    obtain rfl : j = 0 := by omega
    rfl
  | succ k ih =>
    rcases Nat.lt_or_ge k j with h1 | h1
    · obtain rfl : j = k + 1 := by omega
      exact List.take_of_length_le (by rw [sealN_length hiv]; exact Nat.le_refl _)
    · rw [sealN, List.take_append_of_le_length (by rw [sealN_length hiv]; omega), ih h1]
theorem pvN_set {k : Nat} (h : k ≠ i / 16 + 1) : pvN iv (p.set i z) k = pvN iv p k := by
  cases k with
  | zero => rfl
  | succ k => exact blk_set (by omega)
theorem openN_set : ∀ k, k ≤ i / 16 → openN key iv (p.set i z) k = openN key iv p k
  | 0, _ => rfl
  | k + 1, h => by rw [openN, openN, openN_set k (by omega), blk_set (by omega), pvN_set (by omega)]
theorem openN_take (j : Nat) : ∀ k, j ≤ k → (openN key iv p k).take (16 * j) = openN key iv p j := by
  intro k h
  induction k with
  | zero =>
    obtain rfl : j = 0 := by omega
    rfl
  | succ k ih =>
    rcases Nat.lt_or_ge k j with h1 | h1
    · obtain rfl : j = k + 1 := by omega
      exact List.take_of_length_le (by rw [openN_length]; exact Nat.le_refl _)
    · rw [openN, List.take_append_of_le_length (by rw [openN_length]; omega), ih h1]
theorem openN_drop : ∀ k, i / 16 + 2 ≤ k → (openN key iv (p.set i z) k).drop (16 * (i / 16 + 2)) = (openN key iv p k).drop (16 * (i / 16 + 2)) := by
  intro k h
  induction k with
  | zero => omega
  | succ k ih =>
    rcases Nat.lt_or_ge k (i / 16 + 2) with h1 | h1
    · have e : i / 16 + 2 = k + 1 := by omega
      rw [e, List.drop_of_length_le (by rw [openN_length]; exact Nat.le_refl _), List.drop_of_length_le (by rw [openN_length]; exact Nat.le_refl _)]
    · rw [openN, openN, List.drop_append_of_le_length (by rw [openN_length]; omega), List.drop_append_of_le_length (by rw [openN_length]; omega), ih h1, blk_set (by omega), pvN_set (by omega)]
end
/-- what the statement says of the four results -/
theorem chain_facts {q p : List UInt8} {i n : Nat} {z : UInt8} (hq : q.length = 16) (hp : p.length % 16 = 0) (hi : i < p.length) (hn : n = 16 * (i / 16)) :
    (sealB q q (p.set i z)).take n = (sealB q q p).take n ∧ (openB q q (p.set i z)).take n = (openB q q p).take n ∧ (n + 32 ≤ p.length → (openB q q (p.set i z)).drop (n + 32) = (openB q q p).drop (n + 32)) := by
  subst hn
  have hv : vE q.length q.length p.length = 0 := by rw [hq]; exact vE_16 hp
  have hv2 : vE q.length q.length (p.set i z).length = 0 := by rw [List.length_set]; exact hv
  have hm : i / 16 ≤ p.length / 16 := Nat.div_le_div_right (by omega)
  unfold sealB openB
  rw [if_pos hv, if_pos hv2, if_pos hv, if_pos hv2, List.length_set]
  refine ⟨?_, ?_, fun h => ?_⟩
  · rw [sealN_take hq _ _ hm, sealN_take hq _ _ hm, sealN_set _ (Nat.le_refl _)]
  · rw [openN_take _ _ hm, openN_take _ _ hm, openN_set _ (Nat.le_refl _)]
  · rw [show 16 * (i / 16) + 32 = 16 * (i / 16 + 2) by omega]
    exact openN_drop _ (by omega)
theorem sealB_len {q p : List UInt8} (hq : q.length = 16) (hp : p.length % 16 = 0) : (sealB q q p).length = p.length := (open_seal_all hq hq hp).2
theorem openB_len {q p : List UInt8} (hq : q.length = 16) (hp : p.length % 16 = 0) : (openB q q p).length = p.length := (seal_open_all hq hq hp).2
theorem own_pos {w : World} {base n : Nat} {e : TypeId} {v : Value} {xs : List Value} (h : w.ownsRow base e 1 v n xs) (hn : 0 < n) : ∃ g c, v = .slice (some ⟨g, 0, none⟩) n c ∧ base ≤ g ∧ n ≤ c := by
  rcases h.2 with ⟨_, h2⟩ | ⟨g, cap, cur, h1, h2, _, h3, _⟩
  · omega
  · exact ⟨g, cap, h1, h2, h3⟩
/-- Same of two slices with the same bytes, behind any draws -/
theorem same_q {A1 A2 : Option Addr} {c1 c2 n : Nat} {x : List UInt8} {w : World} (hx : x.length = n) (hl : n ≤ 140737488351300) (h1 : SeesP w (· < w.heap.size) A1 (Us x)) (h2 : SeesP w (· < w.heap.size) A2 (Us x)) (u : Nat) :
    Calls Try.prog 13 #[.slice A1 n c1, .slice A2 n c2] (w.drewN u) fun e w' => e = .returned (.bool true) ∧ ∃ q, w' = (w.drewN u).drewN q := by
  have h := ref_same A1 A2 c1 c2 n n x x (w.drewN u) w.heap.size ((SeesP.iff_sees.1 h1).drewN u) ((SeesP.iff_sees.1 h2).drewN u) hx.symm hx.symm (lim_max hl)
  rwa [sameB_true rfl] at h
/-- the bytes from k on -/
theorem SeesP.past {w : World} {p : Nat → Prop} {A : Option Addr} {l : List UInt8} (h : SeesP w p A (Us l)) {k : Nat} (hk : k < l.length) : SeesP w p (A.map fun a => a.add k) (Us (l.drop k)) := by
  rcases h with h | ⟨b, off, e, hb, hc⟩
  · have := congrArg List.length h
    rw [Us_length] at this
    simp at this
    subst this
    simp at hk
  · subst e
    refine .inr ⟨b, off + k, ?_, hb, fun j hj => ?_⟩
    · simp only [Option.map_some, Option.some.injEq]
      unfold Addr.add; split <;> simp_all
    · rw [Us_length, List.length_drop] at hj
      rw [Nat.add_assoc, hc _ (by rw [Us_length]; omega), Us_drop, List.getElem?_drop]
theorem SeesP.upto {w : World} {p : Nat → Prop} {A : Option Addr} {l : List UInt8} (h : SeesP w p A (Us l)) (k : Nat) : SeesP w p A (Us (l.take k)) := by
  rcases h with h | ⟨b, off, e, hb, hc⟩
  · have := congrArg List.length h; rw [Us_length] at this; have : l = [] := List.eq_nil_of_length_eq_zero (by simpa using this)
    subst this; exact .inl (by simp [Us])
  · refine .inr ⟨b, off, e, hb, fun j hj => ?_⟩
    rw [Us_length, List.length_take] at hj
    rw [hc j (by rw [Us_length]; omega), Us_take, List.getElem?_take, if_pos (by omega)]

end Go.Proofs.Ytipkaeeimohmpaa
