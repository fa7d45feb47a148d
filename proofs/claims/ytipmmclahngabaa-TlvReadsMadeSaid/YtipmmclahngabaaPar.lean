/-
  What is proved here: the reading of objects as plain functions over bytes, and what the program's reader answers in their words (definitions and plain lemmas).
-/
import Derived.Test.YtipmmclahngabaaRows
import Derived.Test.YtipmmclahngabaaKit
import Derived.Test.YtipmmclahngabaaAdm
namespace Go.Proofs.Ytipmmclahngabaa
open Go.RowKit

/-- an object that was read: tag, Value, Kids; what is behind it; how many objects there are so far -/
abbrev ObR := Int × List UInt8 × F × List UInt8 × Nat
/-- objects up to the end of bytes (m: at most so many) -/
def loopL (ob : Nat → List UInt8 → Except Int ObR) : Nat → Nat → List UInt8 → Except Int (F × Nat)
  | 0, c, _ => .ok (.nil, c)
  | _ + 1, c, [] => .ok (.nil, c)
  | m + 1, c, a :: l => match ob c (a :: l) with
    | .error e => .error e
    | .ok (t, v, k, rest, c') => match loopL ob m c' rest with
      | .error e => .error e
      | .ok (f, c'') => .ok (.cons t v k f, c'')
/-- objects up to two bytes 0 -/
def loopM (ob : Nat → List UInt8 → Except Int ObR) : Nat → Nat → List UInt8 → Except Int (F × List UInt8 × Nat)
  | 0, _, _ => .error 6
  | m + 1, c, l => if l.length < 2 then .error 6 else if l.take 2 = [0, 0] then .ok (.nil, l.drop 2, c) else match ob c l with
    | .error e => .error e
    | .ok (t, v, k, rest, c') => match loopM ob m c' rest with
      | .error e => .error e
      | .ok (f, r, c'') => .ok (.cons t v k f, r, c'')
/-- one object, at the depth 9 - k -/
def pObj (st : Bool) : Nat → Nat → List UInt8 → Except Int ObR
  | 0, c, l => if hdrE l ≠ 0 then .error (hdrE l) else .error (admE st (tagV l) (hdrF l) (hdrN l) 9 c)
  | k + 1, c, l =>
    if hdrE l ≠ 0 then .error (hdrE l) else if admE st (tagV l) (hdrF l) (hdrN l) (8 - (k : Int)) c ≠ 0 then .error (admE st (tagV l) (hdrF l) (hdrN l) (8 - (k : Int)) c)
    else if hdrF l = 128 then
      match loopM (pObj st k) (l.drop (hdrS l)).length (c + 1) (l.drop (hdrS l)) with
      | .error e => .error e
      | .ok (f, rest, c') => .ok (tagV l, [], f, rest, c')
    else if (l.drop (hdrS l)).length < hdrN l then .error 6
    else if consB (tagV l) = false then .ok (tagV l, (l.drop (hdrS l)).take (hdrN l), .nil, (l.drop (hdrS l)).drop (hdrN l), c + 1)
    else match loopL (pObj st k) (hdrN l) (c + 1) ((l.drop (hdrS l)).take (hdrN l)) with
      | .error e => .error e
      | .ok (f, c') => .ok (tagV l, [], f, (l.drop (hdrS l)).drop (hdrN l), c')

theorem hdr_sizes {l : List UInt8} (h : hdrE l = 0) : 2 ≤ hdrS l ∧ hdrS l ≤ l.length := by
  unfold hdrE at h
  split at h
  · omega
  · split at h
    · omega
    · have hz : 2 ≤ hdrZ l := by unfold hdrZ tagN; split <;> omega
      unfold hdrS
      split
      · omega
      · split at h
        · omega
        · split at h
          · omega
          · omega
theorem numL_4 (l : List UInt8) (h : l.length ≤ 4) : numL l < 4294967296 :=
  Nat.lt_of_lt_of_le (numL_lt l) (Nat.le_trans (Nat.pow_le_pow_right (by decide) h) (by decide))
theorem hdr_range {l : List UInt8} (h : hdrE l = 0) : tagV l ≤ 65535 ∧ hdrF l < 256 ∧ hdrN l < 4294967296 := by
  have hf : hdrF l < 256 := by unfold hdrF; exact UInt8.toNat_lt _
  have hf2 : hdrF l ≤ 132 := by
    unfold hdrE at h
    split at h
    · omega
    · split at h
      · omega
      · split at h <;> omega
  refine ⟨?_, hf, ?_⟩
  · cases l with
    | nil => simp [tagV]
    | cons a r =>
      have ha := UInt8.toNat_lt a
      cases r with
      | nil => simp only [tagV]; omega
      | cons b r =>
        have hb := UInt8.toNat_lt b
        simp only [tagV]
        split <;> omega
  · unfold hdrN
    split
    · omega
    · refine numL_4 _ ?_
      rw [List.length_take]; omega
theorem adm_nine {st : Bool} {t f n c : Nat} : admE st t f n 9 c ≠ 0 := by
  unfold admE
  split
  · decide
  · rw [if_pos (by decide)]; decide
theorem adm_ok {st : Bool} {t f n c : Nat} {d : Int} (h : admE st t f n d c = 0) : c + 1 ≤ 256 := by
  unfold admE at h
  split at h
  · omega
  · split at h
    · omega
    · split at h <;> omega
theorem loopM_rest {ob : Nat → List UInt8 → Except Int ObR} (hob : ∀ c l t v k rest c', ob c l = .ok (t, v, k, rest, c') → rest.length + 2 ≤ l.length ∧ c' ≤ 256) :
    ∀ (m c : Nat) (l : List UInt8) {f : F} {rest : List UInt8} {c' : Nat}, c ≤ 256 → loopM ob m c l = .ok (f, rest, c') → rest.length ≤ l.length ∧ c' ≤ 256
  | 0, _, _, _, _, _, _, h => by simp [loopM] at h
  | m + 1, c, l, f, rest, c', hc, h => by
    unfold loopM at h
    split at h
    · cases h
    · split at h
      · injection h with h
        injection h with _ h
        injection h with h1 h2
        subst h1 h2
        exact ⟨by rw [List.length_drop]; omega, hc⟩
      · split at h
        · cases h
        · rename_i t v k r2 c2 heq
          have h1 := hob _ _ _ _ _ _ _ heq
          split at h
          · cases h
          · rename_i f2 r3 c3 heq2
            have h2 := loopM_rest hob m c2 r2 h1.2 heq2
            injection h with h
            injection h with _ h
            injection h with h3 h4
            subst h3 h4
            exact ⟨by omega, h2.2⟩
theorem loopL_count {ob : Nat → List UInt8 → Except Int ObR} (hob : ∀ c l t v k rest c', ob c l = .ok (t, v, k, rest, c') → rest.length + 2 ≤ l.length ∧ c' ≤ 256) :
    ∀ (m c : Nat) (l : List UInt8) {f : F} {c' : Nat}, c ≤ 256 → loopL ob m c l = .ok (f, c') → c' ≤ 256
  | 0, _, _, _, _, hc, h => by simp only [loopL, Except.ok.injEq, Prod.mk.injEq] at h; omega
  | m + 1, c, [], _, _, hc, h => by simp only [loopL, Except.ok.injEq, Prod.mk.injEq] at h; omega
  | m + 1, c, a :: l, f, c', hc, h => by
    unfold loopL at h
    split at h
    · cases h
    · rename_i t v k r2 c2 heq
      have h1 := hob _ _ _ _ _ _ _ heq
      split at h
      · cases h
      · rename_i f2 c3 heq2
        have h2 := loopL_count hob m c2 r2 h1.2 heq2
        injection h with h
        injection h with _ h
        subst h
        exact h2
theorem pObj_rest (st : Bool) : ∀ (k c : Nat) (l : List UInt8) (t : Int) (v : List UInt8) (kf : F) (rest : List UInt8) (c' : Nat), pObj st k c l = .ok (t, v, kf, rest, c') → rest.length + 2 ≤ l.length ∧ c' ≤ 256
  | 0, c, l, _, _, _, _, _, h => by unfold pObj at h; split at h <;> cases h
  | k + 1, c, l, t, v, kf, rest, c', h => by
    unfold pObj at h
    split at h
    · cases h
    · rename_i hE
      have hE : hdrE l = 0 := by omega
      have hs := hdr_sizes hE
      split at h
      · cases h
      · rename_i hA
        have hA := adm_ok (by omega : admE st (tagV l) (hdrF l) (hdrN l) (8 - (k : Int)) c = 0)
        split at h
        · split at h
          · cases h
          · rename_i f2 r2 c2 heq
            have h2 := loopM_rest (pObj_rest st k) _ _ _ hA heq
            simp only [Except.ok.injEq, Prod.mk.injEq] at h
            obtain ⟨_, _, _, h3, h4⟩ := h
            subst h3 h4
            rw [List.length_drop] at h2
            exact ⟨by omega, h2.2⟩
        · split at h
          · cases h
          · split at h
            · simp only [Except.ok.injEq, Prod.mk.injEq] at h
              obtain ⟨_, _, _, h3, h4⟩ := h
              subst h3 h4
              refine ⟨?_, hA⟩
              rw [List.length_drop, List.length_drop]; omega
            · split at h
              · cases h
              · rename_i f2 c2 heq
                have h2 := loopL_count (pObj_rest st k) _ _ _ hA heq
                simp only [Except.ok.injEq, Prod.mk.injEq] at h
                obtain ⟨_, _, _, h3, h4⟩ := h
                subst h3 h4
                refine ⟨?_, h2⟩
                rw [List.length_drop, List.length_drop]; omega

/-! ### what the program's reader answers -/
def newB (w w' : World) (b : Nat) : Prop := w.heap.size ≤ b ∧ b < w'.heap.size
def oldB (w : World) (R b : Nat) : Prop := b < w.heap.size ∧ b ≠ R
def ObjIs (w : World) (R : Nat) (p : Nat → Prop) (st : Bool) (r : Except Int ObR) (e : Ending) (w' : World) : Prop :=
  w.grownBy w' (some R) ∧ match r with
  | .error x => ∃ (t : Int) (A1 : Option Addr) (n1 c1 : Nat) (A2 : Option Addr) (n2 c2 : Nat) (A : Option Addr) (n m c' : Nat), e = .returned (.tuple #[.agg #[.int .i64 t, .slice A1 n1 c1, .slice A2 n2 c2], .slice A n m, .int .i64 x]) ∧ x ≠ 0 ∧ Rd w' R st c'
  | .ok (t, v, k, rest, c') => ∃ Av cv Ak ck Ar cr, e = .returned (.tuple #[.agg #[.int .i64 t, .slice Av v.length cv, .slice Ak k.len ck], .slice Ar rest.length cr, .int .i64 0]) ∧
      Rd w' R st c' ∧ (Av = none → cv = 0) ∧ SeesP w' (newB w w') Av (Us v) ∧ SeesF w' (newB w w') Ak k ∧ SeesP w' p Ar (Us rest) ∧ rest.length ≤ cr
def ListIs (w : World) (R : Nat) (st : Bool) (r : Except Int (F × Nat)) (e : Ending) (w' : World) : Prop :=
  w.grownBy w' (some R) ∧ match r with
  | .error x => e = .returned (.tuple #[.slice none 0 0, .int .i64 x]) ∧ x ≠ 0 ∧ ∃ c', Rd w' R st c'
  | .ok (f, c') => ∃ A c, e = .returned (.tuple #[.slice A f.len c, .int .i64 0]) ∧ Rd w' R st c' ∧ SeesF w' (newB w w') A f
def MarkIs (w : World) (R : Nat) (p : Nat → Prop) (st : Bool) (r : Except Int (F × List UInt8 × Nat)) (e : Ending) (w' : World) : Prop :=
  w.grownBy w' (some R) ∧ match r with
  | .error x => e = .returned (.tuple #[.slice none 0 0, .slice none 0 0, .int .i64 x]) ∧ x ≠ 0 ∧ ∃ c', Rd w' R st c'
  | .ok (f, rest, c') => ∃ A c Ar cr, e = .returned (.tuple #[.slice A f.len c, .slice Ar rest.length cr, .int .i64 0]) ∧ Rd w' R st c' ∧ SeesF w' (newB w w') A f ∧ SeesP w' p Ar (Us rest) ∧ rest.length ≤ cr
def ObjAll (st : Bool) (k : Nat) : Prop := ∀ (c : Nat) (l : List UInt8) (A : Option Addr) (cap : Nat) (w : World) (R : Nat) (p : Nat → Prop), (∀ x, p x → oldB w R x) → c ≤ 256 → l.length ≤ 4096 → l.length ≤ cap → Rd w R st c → SeesP w p A (Us l) →
  Calls Try.prog 63 #[.pointer (some ⟨R, 0, none⟩), .slice A l.length cap, .int .i64 (9 - (k : Int))] w (ObjIs w R p st (pObj st k c l))
def ListAll (st : Bool) (k : Nat) : Prop := ∀ (c : Nat) (l : List UInt8) (A : Option Addr) (cap : Nat) (w : World) (R : Nat), c ≤ 256 → l.length ≤ 4096 → l.length ≤ cap → Rd w R st c → SeesP w (oldB w R) A (Us l) →
  Calls Try.prog 49 #[.pointer (some ⟨R, 0, none⟩), .slice A l.length cap, .int .i64 (9 - (k : Int))] w (ListIs w R st (loopL (pObj st k) l.length c l))
def MarkAll (st : Bool) (k : Nat) : Prop := ∀ (c : Nat) (l : List UInt8) (A : Option Addr) (cap : Nat) (w : World) (R : Nat) (p : Nat → Prop), (∀ x, p x → oldB w R x) → c ≤ 256 → l.length ≤ 4096 → l.length ≤ cap → Rd w R st c → SeesP w p A (Us l) →
  Calls Try.prog 67 #[.pointer (some ⟨R, 0, none⟩), .slice A l.length cap, .int .i64 (9 - (k : Int))] w (MarkIs w R p st (loopM (pObj st k) l.length c l))

end Go.Proofs.Ytipmmclahngabaa
