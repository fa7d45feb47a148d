/-
  What is proved here: plain facts: bytes that are read strictly are the encoding of the objects that were read.
-/
import Derived.Test.YtmkggpgpiepjfaaDoorZG5
namespace Go.Proofs.YtmkggpgpiepjfaaDoor
open Go.RowKit
set_option maxRecDepth 8000
set_option linter.unusedVariables false
theorem toNat_ofNat (a : UInt8) : UInt8.ofNat a.toNat = a := by simp
theorem tag_back {l : List UInt8} (h : tagE l = 0) : l = tagL (tagV l) ++ l.drop (tagN (tagV l : Nat)) ∧ validB (tagV l : Nat) = true := by
  match l, h with
  | [], h => simp [tagE] at h
  | [a], h =>
    have ha := UInt8.toNat_lt a
    simp only [tagE] at h
    split at h
    · simp at h
    · split at h
      · rename_i hv
        have hN : tagN (a.toNat : Int) = 1 := by unfold tagN; rw [if_neg (by omega)]
        simp only [tagV]
        refine ⟨?_, hv⟩
        unfold tagL
        rw [hN, if_neg (by omega), toNat_ofNat]
        rfl
      · simp at h
  | a :: b :: r, h =>
    have ha := UInt8.toNat_lt a
    have hb := UInt8.toNat_lt b
    simp only [tagE] at h
    simp only [tagV]
    split at h
    · rename_i h31
      rw [if_pos h31]
      split at h
      · rename_i hv
        have hN : tagN ((a.toNat * 256 + b.toNat : Nat) : Int) = 2 := by unfold tagN; rw [if_pos (by omega)]
        refine ⟨?_, hv⟩
        unfold tagL
        rw [hN, if_pos (by omega)]
        have e1 : (a.toNat * 256 + b.toNat) / 256 = a.toNat := by omega
        have e2 : UInt8.ofNat (a.toNat * 256 + b.toNat) = b := by
          apply UInt8.toNat_inj.mp
          rw [ofNat_mod]; omega
        rw [e1, e2, toNat_ofNat]
        rfl
      · simp at h
    · rename_i h31
      rw [if_neg h31]
      split at h
      · rename_i hv
        have hN : tagN (a.toNat : Int) = 1 := by unfold tagN; rw [if_neg (by omega)]
        refine ⟨?_, hv⟩
        unfold tagL
        rw [hN, if_neg (by omega), toNat_ofNat]
        rfl
      · simp at h
theorem numL_fold (d : List UInt8) : ∀ x : Nat, d.foldl (fun n c => n * 256 + c.toNat) x = x * 256 ^ d.length + numL d := by
  induction d with
  | nil => intro x; simp [numL]
  | cons c d ih =>
    intro x
    have h0 : numL (c :: d) = c.toNat * 256 ^ d.length + numL d := by
      unfold numL
      rw [List.foldl_cons, ih]
      simp [numL]
    rw [List.foldl_cons, ih, h0, List.length_cons, Nat.pow_succ, Nat.add_mul, Nat.mul_assoc, Nat.mul_comm 256 (256 ^ d.length)]
    omega
theorem numL_app (a b : List UInt8) : numL (a ++ b) = numL a * 256 ^ b.length + numL b := by
  conv => lhs; unfold numL
  rw [List.foldl_append, numL_fold b]
  rfl
theorem numL_take {d : List UInt8} {i : Nat} (h : i ≤ d.length) : numL d / 256 ^ (d.length - i) = numL (d.take i) := by
  have e : numL d = numL (d.take i) * 256 ^ (d.drop i).length + numL (d.drop i) := by rw [← numL_app, List.take_append_drop]
  have hl : (d.drop i).length = d.length - i := List.length_drop
  have hp : 0 < 256 ^ (d.length - i) := Nat.pow_pos (by decide)
  have hlt := numL_lt (d.drop i)
  rw [hl] at e hlt
  rw [e, Nat.mul_comm, Nat.mul_add_div hp, Nat.div_eq_of_lt hlt, Nat.add_zero]
theorem digits_back (d : List UInt8) : lenD (numL d) d.length d.length = d := by
  refine List.ext_getElem (lenD_length _ _ _) fun i h1 h2 => ?_
  have e : (lenD (numL d) d.length d.length)[i] = UInt8.ofNat (numL d / 256 ^ (d.length - 1 - i)) := by simp [lenD]
  rw [e, show d.length - 1 - i = d.length - (i + 1) by omega, numL_take (by omega), List.take_succ_eq_append_getElem h2, numL_app]
  apply UInt8.toNat_inj.mp
  rw [ofNat_mod]
  have := UInt8.toNat_lt d[i]
  simp [numL]
theorem hdr_back {l : List UInt8} (hE : hdrE l = 0) (hs : shortB (hdrF l) (hdrN l) = true) :
    l = tagL (tagV l) ++ (lenL (hdrN l) ++ l.drop (hdrS l)) ∧ hdrF l ≠ 128 ∧ validB (tagV l : Nat) = true := by
  have hE2 := hE
  unfold hdrE at hE2
  split at hE2
  · omega
  · rename_i hT
    split at hE2
    · omega
    · rename_i hZ
      obtain ⟨ht, hv⟩ := tag_back (by omega : tagE l = 0)
      have hz : hdrZ l = tagN (tagV l : Nat) + 1 := rfl
      have hb : l.drop (tagN (tagV l : Nat)) = UInt8.ofNat (hdrF l) :: l.drop (hdrZ l) := by
        have hlt : tagN (tagV l : Nat) < l.length := by omega
        rw [List.drop_eq_getElem_cons hlt, ← hz]
        congr 1
        unfold hdrF
        rw [hz, Nat.add_sub_cancel, toNat_ofNat]
        simp [List.getD, List.getElem?_eq_getElem hlt]
      have hrange := (hdr_range hE).2.2
      by_cases h127 : hdrF l ≤ 127
      · have hN : hdrN l = hdrF l := by unfold hdrN; rw [if_pos h127]
        have hS : hdrS l = hdrZ l := by unfold hdrS; rw [if_pos h127]
        refine ⟨?_, by omega, hv⟩
        have hL : lenL (hdrN l) = [UInt8.ofNat (hdrF l)] := by unfold lenL; rw [hN, if_pos h127]
        rw [hL, hS, List.singleton_append, ← hb]
        exact ht
      · rw [if_neg (by omega : ¬ 132 < hdrF l), if_neg h127] at hE2
        have hN : hdrN l = numL ((l.drop (hdrZ l)).take (hdrF l - 128)) := by unfold hdrN; rw [if_neg h127]
        have hS : hdrS l = hdrZ l + (hdrF l - 128) := by unfold hdrS; rw [if_neg h127]
        have hlb : hdrF l = 128 + lb (hdrN l) ∧ 127 < hdrN l := by
          unfold shortB at hs
          by_cases h0 : lb (hdrN l) = 0
          · rw [if_pos h0] at hs; simp at hs; omega
          · rw [if_neg h0] at hs
            refine ⟨of_decide_eq_true hs, ?_⟩
            by_cases h : hdrN l ≤ 127
            · exact absurd (lb_0 h) h0
            · omega
        have hdl : ((l.drop (hdrZ l)).take (hdrF l - 128)).length = lb (hdrN l) := by
          rw [List.length_take, List.length_drop]
          split at hE2 <;> omega
        have hdg := digits_back ((l.drop (hdrZ l)).take (hdrF l - 128))
        rw [hdl, ← hN] at hdg
        have hp := lb_pos hlb.2 (by omega)
        have hL : lenL (hdrN l) = UInt8.ofNat (hdrF l) :: (l.drop (hdrZ l)).take (hdrF l - 128) := by
          unfold lenL
          rw [if_neg (by omega), hdg, ← hlb.1]
        refine ⟨?_, by omega, hv⟩
        rw [hL, hS, List.cons_append, ← List.drop_drop, List.take_append_drop, ← hb]
        exact ht
theorem enc_cons (t : Int) (v : List UInt8) (k r : F) : enc (.cons t v k r) = enc (.cons t v k .nil) ++ enc r := by simp only [enc, List.append_nil]
def SndO (K : Nat) : Prop := ∀ c l t v k rest c', l.length ≤ 4096 → pObj true K c l = .ok (t, v, k, rest, c') → (F.cons t v k .nil).fit K ∧ l = enc (.cons t v k .nil) ++ rest ∧ c' = c + 1 + k.size
theorem snd_list {K : Nat} (hK : SndO K) : ∀ m c l f c', l.length ≤ m → l.length ≤ 4096 → loopL (pObj true K) m c l = .ok (f, c') → f.fit K ∧ enc f = l ∧ c' = c + f.size
  | 0, c, l, f, c', hm, hl, h => by
    simp only [loopL, Except.ok.injEq, Prod.mk.injEq] at h
    obtain ⟨rfl, rfl⟩ := h
    have : l = [] := List.eq_nil_of_length_eq_zero (by omega)
    subst this
    exact ⟨trivial, rfl, rfl⟩
  | m + 1, c, [], f, c', hm, hl, h => by
    simp only [loopL, Except.ok.injEq, Prod.mk.injEq] at h
    obtain ⟨rfl, rfl⟩ := h
    exact ⟨trivial, rfl, rfl⟩
  | m + 1, c, a :: l, f, c', hm, hl, h => by
    unfold loopL at h
    split at h
    · cases h
    · rename_i t v k r2 c2 heq
      obtain ⟨h1, h2, h3⟩ := hK _ _ _ _ _ _ _ hl heq
      have h4 := (pObj_rest true _ _ _ _ _ _ _ _ heq).1
      split at h
      · cases h
      · rename_i f2 c3 heq2
        obtain ⟨k1, k2, k3⟩ := snd_list hK m c2 r2 f2 c3 (by simp only [List.length_cons] at h4 hm; omega) (by simp only [List.length_cons] at h4 hl; omega) heq2
        simp only [Except.ok.injEq, Prod.mk.injEq] at h
        obtain ⟨rfl, rfl⟩ := h
        obtain ⟨g1, g2, g3, g4, g5, g7, _⟩ := h1
        refine ⟨⟨g1, g2, g3, g4, g5, g7, k1⟩, ?_, ?_⟩
        · rw [enc_cons, k2, h2]
        · simp only [F.size]; omega
theorem snd_obj : ∀ K, SndO K
  | 0 => by
    intro c l t v k rest c' hl h
    unfold pObj at h
    split at h <;> cases h
  | K + 1 => by
    intro c l t v k rest c' hl h
    unfold pObj at h
    split at h
    · cases h
    · rename_i hE
      have hE : hdrE l = 0 := by omega
      split at h
      · cases h
      · rename_i hA
        have hA : admE true (tagV l) (hdrF l) (hdrN l) (8 - (K : Int)) c = 0 := by omega
        have hsh : shortB (hdrF l) (hdrN l) = true := by
          unfold admE at hA
          split at hA
          · omega
          · rename_i hn
            cases hq : shortB (hdrF l) (hdrN l)
            · exact absurd (.inr ⟨rfl, hq⟩) hn
            · rfl
        obtain ⟨hb, h128, hv⟩ := hdr_back hE hsh
        have hsz := hdr_sizes hE
        rw [if_neg h128] at h
        split at h
        · cases h
        · rename_i hN
          have hll : (l.drop (hdrS l)).length ≤ 4096 := by rw [List.length_drop]; omega
          split at h
          · rename_i hcb
            simp only [Except.ok.injEq, Prod.mk.injEq] at h
            obtain ⟨rfl, rfl, rfl, rfl, rfl⟩ := h
            have hvl : ((l.drop (hdrS l)).take (hdrN l)).length = hdrN l := by rw [List.length_take]; omega
            refine ⟨⟨by omega, hv, (fun h => by rw [hcb] at h; cases h), fun _ => rfl, by omega, trivial, trivial⟩, ?_, rfl⟩
            simp only [enc, encN, Nat.add_zero, hvl, Int.toNat_natCast, List.append_nil, List.append_assoc, List.take_append_drop]
            exact hb
          · rename_i hcb
            have hcb : consB (tagV l : Nat) = true := by
              cases hq : consB (tagV l : Nat)
              · exact absurd hq hcb
              · rfl
            split at h
            · cases h
            · rename_i f2 c2 heq
              have hvl : ((l.drop (hdrS l)).take (hdrN l)).length = hdrN l := by rw [List.length_take]; omega
              obtain ⟨k1, k2, k3⟩ := snd_list (snd_obj K) _ _ _ _ _ (by omega) (by omega) heq
              simp only [Except.ok.injEq, Prod.mk.injEq] at h
              obtain ⟨rfl, rfl, rfl, rfl, rfl⟩ := h
              have hen : encN f2 = hdrN l := by rw [← enc_length, k2, hvl]
              refine ⟨⟨by omega, hv, fun _ => rfl, (fun h => by rw [hcb] at h; cases h), by simp, k1, trivial⟩, ?_, k3⟩
              simp only [enc, List.length_nil, Nat.zero_add, hen, Int.toNat_natCast, List.append_nil, List.append_assoc, k2, List.take_append_drop]
              exact hb
theorem strict_back {b : List UInt8} {f : F} {n : Nat} (h : parse true b = .ok (f, n)) : encE f = 0 ∧ encB f = b ∧ parse false b = .ok (f, f.size) ∧ f.ok ∧ f.size ≤ 256 ∧ b.length ≤ 4096 := by
  unfold parse at h
  split at h
  · cases h
  · rename_i hl
    obtain ⟨h1, h2, h3⟩ := snd_list (snd_obj 8) _ _ _ _ _ (Nat.le_refl _) (by omega) h
    have h4 := loopL_count (pObj_rest true 8) _ _ _ (by omega) h
    have hN : encN f = b.length := by rw [← enc_length, h2]
    have hE : encE f = 0 := by
      unfold encE
      rw [if_neg (by rw [F.fit_chk h1 (by decide)]; decide), if_neg (by omega), if_neg (by omega)]
    refine ⟨hE, by unfold encB; rw [if_pos hE, h2], ?_, F.fit_ok h1, by omega, by omega⟩
    have := loose_enc false f (by omega)
    rw [h2] at this
    exact parse_fit h1 this (by omega) (by omega)
end Go.Proofs.YtmkggpgpiepjfaaDoor
