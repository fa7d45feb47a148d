/-
  What is proved here: the reading of objects as plain functions over bytes, and what the program's reader answers in their words (definitions and plain lemmas).
-/
import Derived.Test.YtkgfdbbdmchmeaaDoorRows
import Derived.Test.YtkgfdbbdmchmeaaDoorZ0
import Derived.Test.YtkgfdbbdmchmeaaDoorZ8
namespace Go.Proofs.YtkgfdbbdmchmeaaDoor
open Go.RowKit
set_option maxRecDepth 8000
abbrev ObR := Int × List UInt8 × F × List UInt8 × Nat
def loopL (ob : Nat → List UInt8 → Except Int ObR) : Nat → Nat → List UInt8 → Except Int (F × Nat)
  | 0, c, _ => .ok (.nil, c)
  | _ + 1, c, [] => .ok (.nil, c)
  | m + 1, c, a :: l => match ob c (a :: l) with
    | .error e => .error e
    | .ok (t, v, k, rest, c') => match loopL ob m c' rest with
      | .error e => .error e
      | .ok (f, c'') => .ok (.cons t v k f, c'')
def loopM (ob : Nat → List UInt8 → Except Int ObR) : Nat → Nat → List UInt8 → Except Int (F × List UInt8 × Nat)
  | 0, _, _ => .error 6
  | m + 1, c, l => if l.length < 2 then .error 6 else if l.take 2 = [0, 0] then .ok (.nil, l.drop 2, c) else match ob c l with
    | .error e => .error e
    | .ok (t, v, k, rest, c') => match loopM ob m c' rest with
      | .error e => .error e
      | .ok (f, r, c'') => .ok (.cons t v k f, r, c'')
def pObj (st : Bool) : Nat → Nat → List UInt8 → Except Int ObR
  | 0, c, l => if hdrE l ≠ 0 then .error (hdrE l) else .error (admE st (tagV l) (hdrF l) (hdrN l) 9 c)
  | k + 1, c, l =>
    if hdrE l ≠ 0 then .error (hdrE l) else if admE st (tagV l) (hdrF l) (hdrN l) (8 - (k : Int)) c ≠ 0 then .error (admE st (tagV l) (hdrF l) (hdrN l) (8 - (k : Int)) c)
    else if hdrF l = 128 then
      match loopM (pObj st k) (l.drop (hdrS l)).length (c + 1) (l.drop (hdrS l)) with
      | .error e => .error e
      | .ok (f, rest, c') => .ok (tagV l, [], f, rest, c')
    else if (l.drop (hdrS l)).length < hdrN l then .error 6
    else if consB (tagV l) = false then .ok (tagV l, (l.drop (hdrS l)).take (hdrN l), .nil, (l.drop (hdrS l)).drop (hdrN l), c + 1)
    else match loopL (pObj st k) (hdrN l) (c + 1) ((l.drop (hdrS l)).take (hdrN l)) with
      | .error e => .error e
      | .ok (f, c') => .ok (tagV l, [], f, (l.drop (hdrS l)).drop (hdrN l), c')
theorem hdr_sizes {l : List UInt8} (h : hdrE l = 0) : 2 ≤ hdrS l ∧ hdrS l ≤ l.length := by
  unfold hdrE at h
  split at h
  · omega
  · split at h
    · omega
    · have hz : 2 ≤ hdrZ l := by unfold hdrZ tagN; split <;> omega
      unfold hdrS
      split
      · omega
      · split at h
        · omega
        · split at h
          · omega
          · omega
theorem numL_4 (l : List UInt8) (h : l.length ≤ 4) : numL_Hdr l < 4294967296 :=
  Nat.lt_of_lt_of_le (numL_lt_HdrB l) (Nat.le_trans (Nat.pow_le_pow_right (by decide) h) (by decide))
theorem hdr_range {l : List UInt8} (h : hdrE l = 0) : tagV l ≤ 65535 ∧ hdrF l < 256 ∧ hdrN l < 4294967296 := by
  have hf : hdrF l < 256 := by unfold hdrF; exact UInt8.toNat_lt _
  have hf2 : hdrF l ≤ 132 := by
    unfold hdrE at h
    split at h
    · omega
    · split at h
      · omega
      · split at h <;> omega
  refine ⟨?_, hf, ?_⟩
  · cases l with
    | nil => simp [tagV]
    | cons a r =>
      have ha := UInt8.toNat_lt a
      cases r with
      | nil => simp only [tagV]; omega
      | cons b r =>
        have hb := UInt8.toNat_lt b
        simp only [tagV]
        split <;> omega
  · unfold hdrN
    split
    · omega
    · refine numL_4 _ ?_
      rw [List.length_take]; omega
theorem adm_nine {st : Bool} {t f n c : Nat} : admE st t f n 9 c ≠ 0 := by
  unfold admE
  split
  · decide
  · rw [if_pos (by decide)]; decide
theorem adm_ok {st : Bool} {t f n c : Nat} {d : Int} (h : admE st t f n d c = 0) : c + 1 ≤ 256 := by
  unfold admE at h
  split at h
  · omega
  · split at h
    · omega
    · split at h <;> omega
theorem loopM_rest {ob : Nat → List UInt8 → Except Int ObR} (hob : ∀ c l t v k rest c', ob c l = .ok (t, v, k, rest, c') → rest.length + 2 ≤ l.length ∧ c' ≤ 256) :
    ∀ (m c : Nat) (l : List UInt8) {f : F} {rest : List UInt8} {c' : Nat}, c ≤ 256 → loopM ob m c l = .ok (f, rest, c') → rest.length ≤ l.length ∧ c' ≤ 256
  | 0, _, _, _, _, _, _, h => by simp [loopM] at h
  | m + 1, c, l, f, rest, c', hc, h => by
    unfold loopM at h
    split at h
    · cases h
    · split at h
      · injection h with h
        injection h with _ h
        injection h with h1 h2
        subst h1 h2
        exact ⟨by rw [List.length_drop]; omega, hc⟩
      · split at h
        · cases h
        · rename_i t v k r2 c2 heq
          have h1 := hob _ _ _ _ _ _ _ heq
          split at h
          · cases h
          · rename_i f2 r3 c3 heq2
            have h2 := loopM_rest hob m c2 r2 h1.2 heq2
            injection h with h
            injection h with _ h
            injection h with h3 h4
            subst h3 h4
            exact ⟨by omega, h2.2⟩
theorem loopL_count {ob : Nat → List UInt8 → Except Int ObR} (hob : ∀ c l t v k rest c', ob c l = .ok (t, v, k, rest, c') → rest.length + 2 ≤ l.length ∧ c' ≤ 256) :
    ∀ (m c : Nat) (l : List UInt8) {f : F} {c' : Nat}, c ≤ 256 → loopL ob m c l = .ok (f, c') → c' ≤ 256
  | 0, _, _, _, _, hc, h => by simp only [loopL, Except.ok.injEq, Prod.mk.injEq] at h; omega
  | m + 1, c, [], _, _, hc, h => by simp only [loopL, Except.ok.injEq, Prod.mk.injEq] at h; omega
  | m + 1, c, a :: l, f, c', hc, h => by
    unfold loopL at h
    split at h
    · cases h
    · rename_i t v k r2 c2 heq
      have h1 := hob _ _ _ _ _ _ _ heq
      split at h
      · cases h
      · rename_i f2 c3 heq2
        have h2 := loopL_count hob m c2 r2 h1.2 heq2
        injection h with h
        injection h with _ h
        subst h
        exact h2
theorem pObj_rest (st : Bool) : ∀ (k c : Nat) (l : List UInt8) (t : Int) (v : List UInt8) (kf : F) (rest : List UInt8) (c' : Nat), pObj st k c l = .ok (t, v, kf, rest, c') → rest.length + 2 ≤ l.length ∧ c' ≤ 256
  | 0, c, l, _, _, _, _, _, h => by unfold pObj at h; split at h <;> cases h
  | k + 1, c, l, t, v, kf, rest, c', h => by
    unfold pObj at h
    split at h
    · cases h
    · rename_i hE
      have hE : hdrE l = 0 := by omega
      have hs := hdr_sizes hE
      split at h
      · cases h
      · rename_i hA
        have hA := adm_ok (by omega : admE st (tagV l) (hdrF l) (hdrN l) (8 - (k : Int)) c = 0)
        split at h
        · split at h
          · cases h
          · rename_i f2 r2 c2 heq
            have h2 := loopM_rest (pObj_rest st k) _ _ _ hA heq
            simp only [Except.ok.injEq, Prod.mk.injEq] at h
            obtain ⟨_, _, _, h3, h4⟩ := h
            subst h3 h4
            rw [List.length_drop] at h2
            exact ⟨by omega, h2.2⟩
        · split at h
          · cases h
          · split at h
            · simp only [Except.ok.injEq, Prod.mk.injEq] at h
              obtain ⟨_, _, _, h3, h4⟩ := h
              subst h3 h4
              refine ⟨?_, hA⟩
              rw [List.length_drop, List.length_drop]; omega
            · split at h
              · cases h
              · rename_i f2 c2 heq
                have h2 := loopL_count (pObj_rest st k) _ _ _ hA heq
                simp only [Except.ok.injEq, Prod.mk.injEq] at h
                obtain ⟨_, _, _, h3, h4⟩ := h
                subst h3 h4
                refine ⟨?_, h2⟩
                rw [List.length_drop, List.length_drop]; omega
def newB (w w' : World) (b : Nat) : Prop := w.heap.size ≤ b ∧ b < w'.heap.size
def oldB (w : World) (R b : Nat) : Prop := b < w.heap.size ∧ b ≠ R
end Go.Proofs.YtkgfdbbdmchmeaaDoor
namespace Go.Proofs.YtkgfdbbdmchmeaaDoor
open Go.RowKit
set_option maxRecDepth 8000
theorem info_node : (Tryd.prog.info? 50).map (fun i => (i.zero, i.size, i.bytes)) = some (some (.agg #[.int .i64 0, .slice none 0 0, .slice none 0 0]), 3, 56) := by kernel_rfl
def Held (w wr : World) (v : Value) (f : F) : Prop := ∃ cs, wr.ownsRow w.heap.size 50 3 v f.len cs ∧ HoldsP wr (fun b => newB w wr b ∧ v.ownBlock ≠ some b) f cs
theorem Held.start (w wr : World) : Held w wr (.slice none 0 0) .nil := ⟨[], ⟨rfl, .inl ⟨rfl, rfl⟩⟩, rfl⟩
theorem own_size3 {w : World} {base : Nat} {e : TypeId} {v : Value} {n : Nat} {xs : List Value} (h : w.ownsRow base e 3 v n xs) : v.ownBlock = none ∨ ∃ g, v.ownBlock = some g ∧ base ≤ g ∧ g < w.heap.size := by
  rcases h.2 with ⟨rfl, _⟩ | ⟨g, cap, cur, rfl, hb, hh, _⟩
  · left; rfl
  · right; exact ⟨g, rfl, hb, lt_of_block hh⟩
theorem Held.grown {w wr w' : World} {R : Nat} {v : Value} {f : F} (h : Held w wr v f) (hR : R < w.heap.size) (hg : wr.grownBy w' (some R)) : Held w w' v f := by
  obtain ⟨cs, h1, h2⟩ := h
  refine ⟨cs, own_far h1 hg ?_, ?_⟩
  · rcases own_size3 h1 with e | ⟨g, e, hb, _⟩
    · rw [e]; simp
    · rw [e]; intro h; injection h with h; omega
  · refine HoldsP.imp (fun _ hb => ⟨⟨hb.1.1, Nat.lt_of_lt_of_le hb.1.2 hg.size⟩, hb.2⟩) (HoldsP.keep (fun _ hq => grown_cell hg hq.1.2 (by have := hq.1.1; omega)) h2)
theorem Held.slice {w wr : World} {v : Value} {f : F} (h : Held w wr v f) : ∃ A c, v = .slice A f.len c ∧ SeesF wr (newB w wr) A f := by
  obtain ⟨cs, h1, h2⟩ := h
  rcases h1.2 with ⟨rfl, h0⟩ | ⟨g, cap, cur, rfl, hb, hh, hn, hm, hs, ht⟩
  · have : f = .nil := F.len_zero h0
    subst this
    exact ⟨none, 0, rfl, SeesF.nil_⟩
  · refine ⟨_, cap, rfl, cs, .inr ⟨g, 0, rfl, ⟨hb, lt_of_block hh⟩, fun j hj => ?_⟩, HoldsP.imp (fun _ hb => hb.1) h2⟩
    have hl := h1.1
    rw [Nat.zero_add, cell_of_row wr g j cur _ (0, 0) hh, ← ht, List.getElem?_take, if_pos (by omega), Array.getElem?_toList]
theorem Held.carry {w wr w' : World} {R : Nat} {v : Value} {f : F} {cs : List Value} (hR : R < w.heap.size) (hg : wr.grownBy w' (some R)) (h1 : wr.ownsRow w.heap.size 50 3 v f.len cs) (h2 : HoldsP wr (fun b => newB w wr b ∧ v.ownBlock ≠ some b) f cs) :
    w'.ownsRow w.heap.size 50 3 v f.len cs ∧ HoldsP w' (fun b => newB w wr b ∧ v.ownBlock ≠ some b) f cs := by
  refine ⟨own_far h1 hg ?_, HoldsP.keep (fun _ hq => grown_cell hg hq.1.2 (by have := hq.1.1; omega)) h2⟩
  rcases own_size3 h1 with e | ⟨g, e, hb, _⟩
  · rw [e]; simp
  · rw [e]; intro h; injection h with h; omega
theorem Held.snoc {w wr w1 wa w2 : World} {v : Value} {f : F} {t : Int} {x : List UInt8} {k : F} {Av Ak : Option Addr} {cv ck g cap : Nat} (h01 : wr.heap.size ≤ w1.heap.size) (ha : Below w1.heap.size w1 wa)
    (hn0 : Av = none → cv = 0) (hv : SeesP w1 (newB wr w1) Av (Us x)) (hk : SeesF w1 (newB wr w1) Ak k) (hww : w.heap.size ≤ wr.heap.size)
    (hold : v.ownBlock = none ∨ ∃ g, v.ownBlock = some g ∧ w.heap.size ≤ g ∧ g < wr.heap.size) (cs : List Value) (hc2 : HoldsP w1 (fun b => newB w wr b ∧ v.ownBlock ≠ some b) f cs)
    (ho : w2.ownsRow w.heap.size 50 3 (.slice (some ⟨g, 0, none⟩) (f.len + 1) cap) (f.len + 1) (cs ++ [.int .i64 t, .slice Av x.length cv, .slice Ak k.len ck])) (hg : wa.grownBy w2 v.ownBlock)
    (hl : v.ownBlock = some g ∨ g = wa.heap.size) : Held w w2 (.slice (some ⟨g, 0, none⟩) (f.len + 1) cap) (f.app (.cons t x k .nil)) := by
  have keep : ∀ q : Addr, q.block < w1.heap.size → v.ownBlock ≠ some q.block → w2.cell? q = w1.cell? q := fun q h1 h2 =>
    (World.cell?_of_block (w := wa) (hg.block q.block (Nat.lt_of_lt_of_le h1 ha.size) (fun e => h2 e.symm))).trans (ha.cell h1)
  have hsz : w1.heap.size ≤ w2.heap.size := Nat.le_trans ha.size hg.size
  have hwa := ha.size
  refine ⟨_, by rw [F.len_app]; exact ho, HoldsP.app ?_ ?_⟩
  · refine HoldsP.imp ?_ (HoldsP.keep (w' := w2) (fun q hq => keep q (Nat.lt_of_lt_of_le hq.1.2 h01) hq.2) hc2)
    intro b hb
    have h4 := hb.1.2
    refine ⟨⟨hb.1.1, by omega⟩, ?_⟩
    intro e
    injection e with e
    simp only at e
    rcases hl with h3 | h3
    · exact hb.2 (h3.trans (by rw [e]))
    · omega
  · have hp : ∀ b, newB wr w1 b → newB w w2 b ∧ (Value.slice (some ⟨g, 0, none⟩) (f.len + 1) cap).ownBlock ≠ some b := by
      intro b hb
      have h5 := hb.1
      have h6 := hb.2
      refine ⟨⟨by omega, by omega⟩, ?_⟩
      intro e
      injection e with e
      simp only at e
      rcases hl with h3 | h3
      · rcases hold with h4 | ⟨g2, h4, _, h7⟩
        · rw [h4] at h3; cases h3
        · rw [h4] at h3; injection h3 with h3; omega
      · omega
    have kp : ∀ q : Addr, newB wr w1 q.block → w2.cell? q = w1.cell? q := by
      intro q hq
      refine keep q hq.2 ?_
      have h5 := hq.1
      rcases hold with h4 | ⟨g2, h4, _, h7⟩
      · rw [h4]; simp
      · rw [h4]; intro e; injection e with e; omega
    obtain ⟨ks, hk1, hk2⟩ := hk
    exact ⟨Av, cv, Ak, ck, ks, [], rfl, hn0, (hv.keep kp).imp hp, (hk1.keep kp).imp hp, HoldsP.imp hp (HoldsP.keep kp hk2), rfl⟩
def joinL (acc : F) : Except Int (F × Nat) → Except Int (F × Nat)
  | .error e => .error e
  | .ok (f, c) => .ok (acc.app f, c)
theorem loopL_err {ob : Nat → List UInt8 → Except Int ObR} {m c : Nat} {l : List UInt8} (hl : l ≠ []) {x : Int} (h : ob c l = .error x) : loopL ob (m + 1) c l = .error x := by
  cases l with
  | nil => exact absurd rfl hl
  | cons a l => simp only [loopL, h]
theorem loopL_ok {ob : Nat → List UInt8 → Except Int ObR} {m c : Nat} {l : List UInt8} (hl : l ≠ []) {t : Int} {v : List UInt8} {k : F} {rest : List UInt8} {c' : Nat} (h : ob c l = .ok (t, v, k, rest, c')) :
    loopL ob (m + 1) c l = joinL (.cons t v k .nil) (loopL ob m c' rest) := by
  cases l with
  | nil => exact absurd rfl hl
  | cons a l =>
    simp only [loopL, h]
    cases loopL ob m c' rest with
    | error e => rfl
    | ok q2 => obtain ⟨f, c2⟩ := q2; rfl
theorem joinL_join (a b : F) (r : Except Int (F × Nat)) : joinL a (joinL b r) = joinL (a.app b) r := by
  cases r with
  | error e => rfl
  | ok q => obtain ⟨f, c⟩ := q; simp only [joinL]; rw [F.app_assoc]
theorem joinL_nil (r : Except Int (F × Nat)) : joinL .nil r = r := by
  cases r with
  | error e => rfl
  | ok q => obtain ⟨f, c⟩ := q; rfl
theorem loopL_end (ob : Nat → List UInt8 → Except Int ObR) (m c : Nat) : loopL ob m c [] = .ok (.nil, c) := by cases m <;> rfl
def lenOf : Value → Nat
  | .slice _ n _ => n
  | _ => 0
theorem node_cells (t : Int) (Av : Option Addr) (lv cv : Nat) (Ak : Option Addr) (lk ck : Nat) : ∀ u ∈ [Value.int .i64 t, .slice Av lv cv, .slice Ak lk ck], u.oneCell' = true := by
  intro u hu
  simp only [List.mem_cons, List.not_mem_nil, or_false] at hu
  rcases hu with rfl | rfl | rfl <;> rfl
end Go.Proofs.YtkgfdbbdmchmeaaDoor
