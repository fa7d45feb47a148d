/-
  What is proved here: a block that begins with just these bytes: read, written, carried over calls; and sums of weighted values where one or two bytes are changed. Nothing of the program is used but the byte's type.
-/
import Derived.Test.YtfkcnbcifidlgaaDoorDx
import Derived.Test.YtfkcnbcifidlgaaDoorOe
import Derived.Test.YtfkcnbcifidlgaaDoorOd
namespace Go.Proofs.YtfkcnbcifidlgaaDoor
open Go.RowKit

def Row8 (w : World) (g : Nat) (l : List UInt8) : Prop := ∃ rest fr, (fr = (0, 0) ∨ l.length ≤ fr.1) ∧ w.heap[g]? = some (.cells (Us l ++ rest).toArray 5 fr)
section
variable {w w' : World} {g : Nat} {l : List UInt8}
theorem Row8.of_ex {z : Nat} (h : ExR w g l z) : Row8 w g l := by
  obtain ⟨m, hm, h⟩ := h
  exact ⟨_, _, .inr hm, h⟩
theorem Row8.lt (h : Row8 w g l) : g < w.heap.size := by obtain ⟨_, _, _, h⟩ := h; exact lt_of_block h
theorem Row8.cell (h : Row8 w g l) {k : Nat} (hk : k < l.length) : w.cell? ⟨g, k, none⟩ = some (.int .u8 (l[k].toNat : Int)) := by
  obtain ⟨rest, fr, _, h⟩ := h
  rw [cell_of_row w g k _ _ _ h, List.getElem?_toArray, List.getElem?_append_left (by rw [Us_length]; exact hk), Us_get hk]
theorem Row8.free (h : Row8 w g l) {k : Nat} (hk : k < l.length) : w.frozen? ⟨g, k, none⟩ = false := by
  obtain ⟨rest, fr, hf, h⟩ := h
  rcases hf with rfl | hf
  · exact frozen_of_row w g k _ _ h
  · unfold World.frozen?
    rw [h]
    simp
    omega
theorem Row8.set (h : Row8 w g l) {k : Nat} (hk : k < l.length) (c : UInt8) : Row8 (w.setCell ⟨g, k, none⟩ (.int .u8 (c.toNat : Int))) g (l.set k c) := by
  obtain ⟨rest, fr, hf, h⟩ := h
  refine ⟨rest, fr, by rw [List.length_set]; exact hf, ?_⟩
  rw [Go.Joins.block_setCell h]
  congr 2
  rw [← Us_set]
  simp only [List.setIfInBounds_toArray]
  rw [List.set_append_left _ _ (by rw [Us_length]; exact hk)]
  rfl
theorem Row8.sees (h : Row8 w g l) (p : Nat → Prop) (hp : p g) : SeesP w p (some ⟨g, 0, none⟩) (Us l) :=
  .inr ⟨g, 0, rfl, hp, fun j hj => by rw [Us_length] at hj; rw [Nat.zero_add, h.cell hj, Us_get hj]⟩
theorem Row8.see (h : Row8 w g l) : Sees w (g + 1) (some ⟨g, 0, none⟩) (Us l) :=
  .inr ⟨g, 0, rfl, by omega, fun j hj => by rw [Us_length] at hj; rw [Nat.zero_add, h.cell hj, Us_get hj]⟩
theorem Row8.on (h : Row8 w g l) (hb : Below w.heap.size w w') : Row8 w' g l := by
  have hl := h.lt
  obtain ⟨rest, fr, hf, h⟩ := h
  exact ⟨rest, fr, hf, (hb.block g hl).trans h⟩
theorem Row8.far {p : Addr} {v : Value} (h : Row8 w g l) (hne : g ≠ p.block) : Row8 (w.setCell p v) g l := by
  obtain ⟨rest, fr, hf, h⟩ := h
  exact ⟨rest, fr, hf, (Below.heap_setCell w p v g hne).trans h⟩
theorem Row8.of_own {base n : Nat} {v : Value} (h : w.ownsRow base 5 1 v n (Us l)) (h1 : 1 ≤ n) : ∃ g cap, v = .slice (some ⟨g, 0, none⟩) n cap ∧ n ≤ cap ∧ base ≤ g ∧ Row8 w g l := by
  rcases h.2 with ⟨_, h0⟩ | ⟨g, cap, cur, e, hb, hh, hn, hmx, hs, ht⟩
  · omega
  · refine ⟨g, cap, e, hn, hb, cur.toList.drop (n * 1), (0, 0), .inl rfl, ?_⟩
    rw [← ht, List.take_append_drop]
    exact hh
end

theorem cB_set (l : List UInt8) (k j : Nat) (c : UInt8) (hk : k < l.length) : cB (l.set k c) j = if j = k then (c.toNat : Int) else cB l j := by
  unfold cB
  rw [List.getD_eq_getElem?_getD, List.getD_eq_getElem?_getD, List.getElem?_set]
  split
  · rename_i h; subst h; simp
  · rename_i h; rw [if_neg (fun e => h e.symm)]
theorem sumL_set (l : List UInt8) (k : Nat) (c : UInt8) (hk : k < l.length) (n : Nat) : sumL (l.set k c) n = sumL l n + if k < n then (vI (c.toNat : Int) - vI (cB l k)) * wt k else 0 := by
  induction n with
  | zero => simp [sumL]
  | succ n ih =>
    rw [sumL_succ, sumL_succ, ih, cB_set l k n c hk]
    by_cases h1 : n = k
    · subst h1
      rw [if_neg (by omega), if_pos rfl, if_pos (by omega), Int.sub_mul]
      omega
    · rw [if_neg h1]
      by_cases h2 : k < n
      · rw [if_pos h2, if_pos (by omega)]; omega
      · rw [if_neg h2, if_neg (by omega)]; omega
theorem dgL_yes {x : List UInt8} (h : validL x = true) : dgL x = [UInt8.ofNat (48 + sumL x x.length % 10).toNat] ∧ dgE x = 0 := by unfold dgL dgE; rw [if_pos h, if_pos h]; exact ⟨rfl, rfl⟩
theorem digit_inj {a b : Int} (ha : 0 ≤ a) (ha2 : a < 10) (hb : 0 ≤ b) (hb2 : b < 10) (h : UInt8.ofNat (48 + a).toNat = UInt8.ofNat (48 + b).toNat) : a = b := by
  have := congrArg UInt8.toNat h
  rw [UInt8.toNat_ofNat', UInt8.toNat_ofNat'] at this
  omega
theorem dgL_eq {x y : List UInt8} (hx : validL x = true) (hy : validL y = true) : dgL x = dgL y ↔ sumL x x.length % 10 = sumL y y.length % 10 := by
  rw [(dgL_yes hx).1, (dgL_yes hy).1]
  constructor
  · intro h
    have := List.head_eq_of_cons_eq h
    exact digit_inj (by omega) (by omega) (by omega) (by omega) this
  · intro h; rw [h]
theorem valid_set {l : List UInt8} {k : Nat} {c : UInt8} (h : validL l = true) (hc : 0 ≤ vI (c.toNat : Int)) : validL (l.set k c) = true := by
  unfold validL at *
  rw [List.all_eq_true] at *
  intro b hb
  rcases List.mem_or_eq_of_mem_set hb with h1 | rfl
  · exact h b h1
  · simpa using hc
theorem valid_len (l : List UInt8) (k : Nat) (c : UInt8) : (l.set k c).length = l.length := by simp
/-- one digit is replaced by another one -/
theorem one_digit {l : List UInt8} {k : Nat} {c : UInt8} (h : validL l = true) (hk : k < l.length) (d1 : 48 ≤ l[k].toNat) (d2 : l[k].toNat ≤ 57) (c1 : 48 ≤ c.toNat) (c2 : c.toNat ≤ 57) (hne : c.toNat ≠ l[k].toNat) :
    validL (l.set k c) = true ∧ dgL l ≠ dgL (l.set k c) := by
  have hv : validL (l.set k c) = true := valid_set h (by rw [vI_1 (by omega) (by omega)]; omega)
  refine ⟨hv, fun e => ?_⟩
  have h2 := (dgL_eq h hv).1 e
  rw [List.length_set, sumL_set l k c hk, if_pos hk, cB_get hk, vI_1 (by omega) (by omega), vI_1 (by omega) (by omega)] at h2
  rcases wt_cases k with w | w | w <;> rw [w] at h2 <;> omega
/-- neighbours are exchanged -/
theorem swap_digit {l : List UInt8} {k : Nat} (h : validL l = true) (hk : k + 1 < l.length) (x y : UInt8) (hx : l[k] = x) (hy : l[k + 1] = y) :
    validL ((l.set k y).set (k + 1) x) = true ∧ (dgL l = dgL ((l.set k y).set (k + 1) x) ↔ (vI (x.toNat : Int) - vI (y.toNat : Int)) % 5 = 0) := by
  have v1 := validL_at h k (by omega)
  have v2 := validL_at h (k + 1) hk
  rw [cB_get (by omega), hx] at v1
  rw [cB_get hk, hy] at v2
  have hv1 : validL (l.set k y) = true := valid_set h v2
  have hv : validL ((l.set k y).set (k + 1) x) = true := valid_set hv1 v1
  refine ⟨hv, ?_⟩
  rw [dgL_eq h hv, List.length_set, List.length_set, sumL_set _ (k + 1) x (by rw [List.length_set]; exact hk), if_pos hk, sumL_set l k y (by omega), if_pos (by omega), cB_set _ _ _ _ (by omega), if_neg (by omega), cB_get (by omega : k < l.length), cB_get hk, hx, hy]
  have hw : (wt k = 7 ∧ wt (k + 1) = 3) ∨ (wt k = 3 ∧ wt (k + 1) = 1) ∨ (wt k = 1 ∧ wt (k + 1) = 7) := by
    unfold wt
    have : k % 3 = 0 ∨ k % 3 = 1 ∨ k % 3 = 2 := by omega
    rcases this with h | h | h
    · rw [h, show (k + 1) % 3 = 1 by omega]; simp
    · rw [h, show (k + 1) % 3 = 2 by omega]; simp
    · rw [h, show (k + 1) % 3 = 0 by omega]; simp
  rcases hw with ⟨w1, w2⟩ | ⟨w1, w2⟩ | ⟨w1, w2⟩ <;> rw [w1, w2] <;> constructor <;> intro _ <;> omega

end Go.Proofs.YtfkcnbcifidlgaaDoor
