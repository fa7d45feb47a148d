/-
  What is proved here: plain facts on the field of two names: what is read out of it again. Nothing of the program is used.
-/
import Derived.Test.YtdlcoilpkelbaaaGreatDoorOsr
namespace Go.Proofs.YtdlcoilpkelbaaaGreatDoor
open Go.RowKit

theorem cB_app (x y : List UInt8) (i : Nat) : cB (x ++ y) i = if i < x.length then cB x i else cB y (i - x.length) := by
  unfold cB
  rw [List.getD_eq_getElem?_getD, List.getD_eq_getElem?_getD, List.getD_eq_getElem?_getD]
  split
  · rename_i h; rw [List.getElem?_append_left h]
  · rename_i h; rw [List.getElem?_append_right (by omega)]
theorem cB_fi (x : List UInt8) (i : Nat) : cB (exL 32 60 x) i = if cB x i = 32 then 60 else cB x i := by
  rcases Nat.lt_or_ge i x.length with h | h
  · have h2 : i < (exL 32 60 x).length := by rw [exL_length]; exact h
    rw [cB_get h2, cB_get h]
    simp only [exL, List.getElem_map, exB]
    by_cases e : x[i] = 32
    · rw [if_pos e, if_pos (by rw [e]; rfl)]; rfl
    · rw [if_neg e, if_neg]
      intro e2
      exact e (UInt8.toNat_inj.1 (Int.ofNat_inj.1 e2))
  · rw [cB_out (by rw [exL_length]; exact h), cB_out h]
    rfl
theorem ltr_bd {n : Int} (h : ltrB n = true) : 65 ≤ n ∧ n ≤ 90 := of_decide_eq_true h
theorem name_chars {x : List UInt8} (h : nameL x = true) {k : Nat} (hk : k < x.length) : ltrB (cB x k) = true ∨ (cB x k = 32 ∧ 0 < k ∧ k + 1 < x.length ∧ ltrB (cB x (k - 1)) = true ∧ ltrB (cB x (k + 1)) = true) := by
  have h1 := nameL_at h k hk
  unfold okP at h1
  rw [Bool.or_eq_true] at h1
  rcases h1 with h1 | h1
  · exact .inl h1
  · exact .inr (of_decide_eq_true h1)
/-- what a name with fillers for spaces is like -/
def PartOk (y : List UInt8) : Prop := (∀ k, k < y.length → ltrB (cB y k) = true ∨ cB y k = 60) ∧ (y ≠ [] → cB y 0 ≠ 60 ∧ cB y (y.length - 1) ≠ 60) ∧ (∀ i, ¬ pairT y i)
theorem part_ok {x : List UInt8} (h : nameL x = true) : PartOk (exL 32 60 x) := by
  refine ⟨fun k hk => ?_, fun hne => ?_, fun i hp => ?_⟩
  · rw [exL_length] at hk
    rw [cB_fi]
    rcases name_chars h hk with h1 | h1
    · rw [if_neg (fun e => by rw [e] at h1; cases h1)]; exact .inl h1
    · rw [if_pos h1.1]; exact .inr rfl
  · have hp : 0 < x.length := by rw [← exL_length 32 60 x]; exact List.length_pos_iff.2 hne
    rw [exL_length, cB_fi, cB_fi]
    constructor
    · rcases name_chars h hp with h1 | h1
      · have := ltr_bd h1
        rw [if_neg (by omega)]; omega
      · omega
    · rcases name_chars h (show x.length - 1 < x.length by omega) with h1 | h1
      · have := ltr_bd h1
        rw [if_neg (by omega)]; omega
      · omega
  · have l1 := cB_in hp.1
    rw [exL_length] at l1
    obtain ⟨h0, h1⟩ := hp
    rw [cB_fi] at h0 h1
    rcases name_chars h l1 with h2 | h2
    · have := ltr_bd h2
      rw [if_neg (by omega)] at h0
      omega
    · have := ltr_bd h2.2.2.2.2
      rw [if_neg (by omega)] at h1
      omega
theorem ex_back {x : List UInt8} (h : nameL x = true) : exL 60 32 (exL 32 60 x) = x := by
  unfold exL
  rw [List.map_map]
  have : ∀ c ∈ x, (exB 60 32 ∘ exB 32 60) c = c := by
    intro c hc
    obtain ⟨k, hk, rfl⟩ := List.getElem_of_mem hc
    have h1 := name_chars h hk
    rw [cB_get hk] at h1
    show exB 60 32 (exB 32 60 x[k]) = x[k]
    unfold exB
    by_cases e : x[k] = 32
    · rw [if_pos e, if_pos rfl, e]
    · rw [if_neg e, if_neg]
      intro e2
      rw [e2] at h1
      rcases h1 with h1 | h1
      · exact absurd (ltr_bd h1).1 (by decide)
      · exact absurd h1.1 (by decide)
  conv => rhs; rw [← List.map_id x]
  exact List.map_congr_left this
/-- the names, one behind the other -/
def joinN (x y : List UInt8) : List UInt8 := exL 32 60 x ++ (if y = [] then [] else [60, 60] ++ exL 32 60 y)
theorem joinN_len (x y : List UInt8) : (joinN x y).length = x.length + if y = [] then 0 else 2 + y.length := by
  unfold joinN
  rw [List.length_append, exL_length]
  split
  · rfl
  · rw [List.length_append, exL_length]; rfl
theorem field_join (x y : List UInt8) (w : Nat) : fieldL x y w = (joinN x y ++ List.replicate (w + 2) 60).take w := by
  unfold joinN
  by_cases h : y = []
  · rw [if_pos h, List.append_nil, h, field_none, take_fill _ w (w + 2) (by omega)]
  · rw [if_neg h, field_some, take_fill _ w (w + 2) (by omega)]
theorem join_pair {x y : List UInt8} (hx : nameL x = true) (hy : nameL y = true) {i : Nat} (h : pairT (joinN x y) i) : i = x.length ∧ y ≠ [] := by
  have px := part_ok hx
  have py := part_ok hy
  unfold joinN at h
  by_cases hy0 : y = []
  · rw [if_pos hy0, List.append_nil] at h
    exact absurd h (px.2.2 i)
  · rw [if_neg hy0] at h
    refine ⟨?_, hy0⟩
    have hny : exL 32 60 y ≠ [] := fun e => hy0 (by have := congrArg List.length e; rw [exL_length] at this; exact List.eq_nil_of_length_eq_zero this)
    have hyp : 0 < y.length := List.length_pos_iff.2 hy0
    obtain ⟨h0, h1⟩ := h
    rw [cB_app, exL_length] at h0 h1
    rcases Nat.lt_or_ge i x.length with c | c
    · exfalso
      rw [if_pos c] at h0
      rcases Nat.lt_or_ge (i + 1) x.length with c2 | c2
      · rw [if_pos c2] at h1
        exact px.2.2 i ⟨h0, h1⟩
      · have hne : exL 32 60 x ≠ [] := fun e => by have := congrArg List.length e; rw [exL_length] at this; simp only [List.length_nil] at this; omega
        have h3 := (px.2.1 hne).2
        rw [exL_length, show x.length - 1 = i by omega] at h3
        exact h3 h0
    · rw [if_neg (by omega), cB_app] at h0 h1
      simp only [List.length_cons, List.length_nil] at h0 h1
      rcases Nat.lt_or_ge (i - x.length) 1 with c2 | c2
      · omega
      · exfalso
        rcases (show i - x.length = 1 ∨ 2 ≤ i - x.length by omega) with c3 | c3
        · rw [if_neg (by omega), show i + 1 - x.length - (0 + 1 + 1) = 0 by omega] at h1
          exact (py.2.1 hny).1 h1
        · rw [if_neg (by omega)] at h0 h1
          exact py.2.2 (i - x.length - (0 + 1 + 1)) ⟨h0, by rw [show i - x.length - (0 + 1 + 1) + 1 = i + 1 - x.length - (0 + 1 + 1) by omega]; exact h1⟩
theorem join_chars {x y : List UInt8} (hx : nameL x = true) (hy : nameL y = true) (k : Nat) (hk : k < (joinN x y).length) : ltrB (cB (joinN x y) k) = true ∨ cB (joinN x y) k = 60 := by
  have px := part_ok hx
  have py := part_ok hy
  rw [joinN_len] at hk
  unfold joinN
  by_cases hy0 : y = []
  · rw [if_pos hy0] at hk ⊢
    rw [List.append_nil]
    exact px.1 k (by rw [exL_length]; omega)
  · rw [if_neg hy0] at hk ⊢
    rw [cB_app, exL_length]
    split
    · exact px.1 k (by rw [exL_length]; omega)
    · rw [cB_app]
      simp only [List.length_cons, List.length_nil]
      split
      · rcases (show k - x.length = 0 ∨ k - x.length = 1 by omega) with e | e <;> rw [e] <;> exact .inr rfl
      · exact py.1 _ (by rw [exL_length]; omega)
theorem join_ends {x y : List UInt8} (hx : nameL x = true) (hy : nameL y = true) (hx0 : x ≠ []) : cB (joinN x y) 0 ≠ 60 ∧ cB (joinN x y) ((joinN x y).length - 1) ≠ 60 := by
  have px := part_ok hx
  have py := part_ok hy
  have hp := List.length_pos_iff.2 hx0
  have hne : exL 32 60 x ≠ [] := fun e => by have := congrArg List.length e; rw [exL_length] at this; simp only [List.length_nil] at this; omega
  have ex := px.2.1 hne
  rw [exL_length] at ex
  rw [joinN_len]
  unfold joinN
  constructor
  · rw [cB_app, exL_length, if_pos hp]; exact ex.1
  · by_cases hy0 : y = []
    · rw [if_pos hy0, if_pos hy0, List.append_nil]; exact ex.2
    · have hyp : 0 < y.length := List.length_pos_iff.2 hy0
      have hny : exL 32 60 y ≠ [] := fun e => by have := congrArg List.length e; rw [exL_length] at this; simp only [List.length_nil] at this; omega
      have ey := (py.2.1 hny).2
      rw [exL_length] at ey
      rw [if_neg hy0, if_neg hy0, cB_app, exL_length, if_neg (by omega), cB_app]
      simp only [List.length_cons, List.length_nil]
      rw [if_neg (by omega), show x.length + (2 + y.length) - 1 - x.length - (0 + 1 + 1) = y.length - 1 by omega]
      exact ey

/-- what is read out of the field again -/
theorem field_back {x y : List UInt8} (hx : nameL x = true) (hy : nameL y = true) (hx0 : x ≠ []) {w : Nat} (h1 : 1 ≤ w) (h2 : w ≤ 64) :
    spE (fieldL x y w) = 0 ∧ (fieldL x y w).length = w ∧
    ((joinN x y).length ≤ w → spA (fieldL x y w) = x ∧ spB (fieldL x y w) = y ∧ spF (fieldL x y w) = decide ((joinN x y).length = w)) ∧
    (w < (joinN x y).length → (spA (fieldL x y w)).length ≤ x.length ∧ x.take (spA (fieldL x y w)).length = spA (fieldL x y w)) := by
  obtain ⟨G, hG⟩ : ∃ G, joinN x y = G := ⟨_, rfl⟩
  obtain ⟨F, hF⟩ : ∃ F, fieldL x y w = F := ⟨_, rfl⟩
  have hFG : F = (G ++ List.replicate (w + 2) 60).take w := by rw [← hF, field_join, hG]
  have hch := join_chars hx hy
  have hen := join_ends hx hy hx0
  have hpr := fun i (h : pairT (joinN x y) i) => join_pair hx hy h
  have hGl := joinN_len x y
  have hxp := List.length_pos_iff.2 hx0
  rw [hG] at hch hen hpr hGl
  rw [hF, hG]
  have hlen : F.length = w := by rw [hFG, List.length_take, List.length_append, List.length_replicate]; omega
  have hcF : ∀ i, cB F i = if i < w then (if i < G.length then cB G i else 60) else 0 := by
    intro i
    by_cases hi : i < w
    · rw [if_pos hi, hFG, cB_take hi, cB_app]
      split
      · rfl
      · unfold cB
        rw [List.getD_eq_getElem?_getD, List.getElem?_replicate, if_pos (by omega)]
        rfl
    · rw [if_neg hi, cB_out (by omega)]
  have hfb : fieldB F = true := field_good (fun k hk => by
    rw [hcF, if_pos (by omega)]
    split
    · rename_i h; exact hch k h
    · exact .inr rfl)
  obtain ⟨k, k1, k2, k3, k4⟩ := trim_take F
  obtain ⟨t, ht⟩ : ∃ t, trimT F = t := ⟨_, rfl⟩
  rw [ht] at k2
  have hkG : k ≤ G.length := by
    rcases Nat.lt_or_ge G.length k with h | h
    · exfalso
      have := k4 (by omega)
      rw [hcF, if_pos (by omega), if_neg (by omega)] at this
      exact this rfl
    · exact h
  have htl : t.length = k := by rw [k2, List.length_take]; omega
  have hct : ∀ i, i < k → cB t i = cB G i := fun i hi => by rw [k2, cB_take hi, hcF, if_pos (by omega), if_pos (by omega)]
  have hk0 : 0 < k := by
    rcases Nat.eq_zero_or_pos k with e | e
    · exfalso
      have h3 := k3 0 (by omega) (by omega)
      rw [hcF, if_pos (by omega), if_pos (by omega)] at h3
      exact hen.1 h3
    · exact e
  have htG : t = G.take k := by
    rw [k2, hFG, List.take_take, Nat.min_eq_left (by omega), List.take_append_of_le_length hkG]
  have hpt : ∀ i, pairT t i → i = x.length ∧ y ≠ [] ∧ i + 1 < k := fun i hp => by
    have l1 := cB_in hp.2
    rw [htl] at l1
    have := hpr i ⟨by rw [← hct i (by omega)]; exact hp.1, by rw [← hct (i + 1) l1]; exact hp.2⟩
    exact ⟨this.1, this.2, l1⟩
  have hgood : goodT t := by
    refine ⟨fun e => by rw [e] at htl; simp only [List.length_nil] at htl; omega, ?_, fun i j hij hi hj => ?_⟩
    · rw [hct 0 hk0]; exact hen.1
    · have e1 := (hpt i hi).1
      have e2 := (hpt j hj).1
      omega
  have hsE : spE F = 0 := (spE_good (by rw [hlen]; omega) hfb).1 (by rw [ht]; exact hgood)
  obtain ⟨a1, a2, a3⟩ := sp_yes hsE
  rw [ht] at a1 a2
  refine ⟨hsE, hlen, fun hle => ?_, fun hlt => ?_⟩
  · have hkk : k = G.length := by
      rcases Nat.lt_or_ge k G.length with h | h
      · exfalso
        have h3 := k3 (G.length - 1) (by omega) (by omega)
        rw [hcF, if_pos (by omega), if_pos (by omega)] at h3
        exact hen.2 h3
      · omega
    have htg : t = G := by rw [htG, hkk, List.take_length]
    refine ⟨?_, ?_, ?_⟩
    · rw [a1]
      unfold surL
      by_cases hy0 : y = []
      · rw [cut_none (fun i hp => (hpt i hp).2.1 hy0), htg, ← hG]
        unfold joinN
        rw [if_pos hy0, List.append_nil]
        exact ex_back hx
      · have hp : pairT t x.length := by
          rw [htg, ← hG]
          unfold joinN
          rw [if_neg hy0]
          refine ⟨?_, ?_⟩
          · rw [cB_app, exL_length, if_neg (by omega), Nat.sub_self]; rfl
          · rw [cB_app, exL_length, if_neg (by omega), show x.length + 1 - x.length = 1 by omega]; rfl
        rw [cut_some hp (fun i hi hp2 => by have := (hpt i hp2).1; omega), htg, ← hG]
        unfold joinN
        show exL 60 32 (List.take x.length (exL 32 60 x ++ _)) = x
        rw [List.take_left' (exL_length _ _ _)]
        exact ex_back hx
    · rw [a2]
      unfold givL
      by_cases hy0 : y = []
      · rw [cut_none (fun i hp => (hpt i hp).2.1 hy0), hy0]; rfl
      · have hp : pairT t x.length := by
          rw [htg, ← hG]
          unfold joinN
          rw [if_neg hy0]
          refine ⟨?_, ?_⟩
          · rw [cB_app, exL_length, if_neg (by omega), Nat.sub_self]; rfl
          · rw [cB_app, exL_length, if_neg (by omega), show x.length + 1 - x.length = 1 by omega]; rfl
        rw [cut_some hp (fun i hi hp2 => by have := (hpt i hp2).1; omega), htg, ← hG]
        unfold joinN
        rw [if_neg hy0]
        show exL 60 32 (List.drop (x.length + 2) (exL 32 60 x ++ ([60, 60] ++ exL 32 60 y))) = y
        rw [← List.append_assoc, List.drop_left' (by rw [List.length_append, exL_length]; rfl)]
        exact ex_back hy
    · rw [a3, hlen, hcF, if_pos (by omega)]
      by_cases e : G.length = w
      · rw [if_pos (by omega), decide_eq_true e]
        refine decide_eq_true ?_
        rw [← e]; exact hen.2
      · rw [if_neg (by omega), decide_eq_false e]
        exact decide_eq_false (fun h => h rfl)
  · rw [a1]
    have hkx : ∀ (h : ¬ ∃ i, pairT t i), k ≤ x.length := by
      intro h
      by_cases hy0 : y = []
      · rw [if_pos hy0] at hGl; omega
      · rcases Nat.lt_or_ge x.length k with c | c
        · exfalso
          have c0 : cB G x.length = 60 := by
            rw [← hG]; unfold joinN; rw [if_neg hy0, cB_app, exL_length, if_neg (by omega), Nat.sub_self]; rfl
          have c1 : cB G (x.length + 1) = 60 := by
            rw [← hG]; unfold joinN; rw [if_neg hy0, cB_app, exL_length, if_neg (by omega), show x.length + 1 - x.length = 1 by omega]; rfl
          rcases Nat.lt_or_ge (x.length + 1) k with c2 | c2
          · exact h ⟨x.length, by rw [hct _ c]; exact c0, by rw [hct _ c2]; exact c1⟩
          · have h5 := k4 hk0
            rw [hcF, if_pos (by omega), if_pos (by omega), show k - 1 = x.length by omega] at h5
            exact h5 c0
        · exact c
    unfold surL
    by_cases hp : ∃ i, pairT t i
    · obtain ⟨i, hi⟩ := hp
      obtain ⟨rfl, hy0, hik⟩ := hpt i hi
      rw [cut_some hi (fun j hj hp2 => by have := (hpt j hp2).1; omega)]
      have e : exL 60 32 (t.take x.length) = x := by
        rw [htG, List.take_take, Nat.min_eq_left (by omega), ← hG]
        unfold joinN
        rw [List.take_left' (exL_length _ _ _)]
        exact ex_back hx
      show (exL 60 32 (t.take x.length)).length ≤ _ ∧ _ = exL 60 32 (t.take x.length)
      rw [e]
      exact ⟨Nat.le_refl _, List.take_length⟩
    · have hkl := hkx hp
      rw [cut_none (fun i h => hp ⟨i, h⟩)]
      have e : exL 60 32 t = x.take k := by
        rw [htG, ← hG]
        unfold joinN
        rw [List.take_append_of_le_length (by rw [exL_length]; exact hkl)]
        have : exL 60 32 ((exL 32 60 x).take k) = (exL 60 32 (exL 32 60 x)).take k := by unfold exL; rw [List.map_take]
        rw [this, ex_back hx]
      show (exL 60 32 t).length ≤ _ ∧ _ = exL 60 32 t
      rw [e, List.length_take, Nat.min_eq_left hkl]
      exact ⟨hkl, rfl⟩

end Go.Proofs.YtdlcoilpkelbaaaGreatDoor
