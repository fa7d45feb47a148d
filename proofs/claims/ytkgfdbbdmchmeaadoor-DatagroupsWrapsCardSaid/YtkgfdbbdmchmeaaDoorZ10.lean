/-
  What is proved here: plain words for lists of objects in memory whose Values and Kids lie within their capacities, as loops and indexes want them; nothing of the program is used.
-/
import Derived.Test.YtkgfdbbdmchmeaaDoorZ0
import Derived.Test.YtkgfdbbdmchmeaaDoorZ9
import Derived.Test.YtkgfdbbdmchmeaaDoorZ1
import Derived.Test.YtkgfdbbdmchmeaaDoorZ4
import Derived.Test.YtkgfdbbdmchmeaaDoorRows
namespace Go.Proofs.YtkgfdbbdmchmeaaDoor
open Go.RowKit
set_option linter.unusedVariables false
def HoldsN (w : World) (p : Nat → Prop) : F → List Value → Prop
  | .nil, cs => cs = []
  | .cons t v k r, cs => ∃ Av cv Ak ck ks cs', cs = .int .i64 t :: .slice Av v.length cv :: .slice Ak k.len ck :: cs' ∧ ((Av = none → cv = 0) ∧ v.length ≤ cv ∧ k.len ≤ ck) ∧ SeesP w p Av (Us v) ∧ SeesP w p Ak ks ∧ HoldsN w p k ks ∧ HoldsN w p r cs'
def SeesN (w : World) (p : Nat → Prop) (A : Option Addr) (f : F) : Prop := ∃ cs, SeesP w p A cs ∧ HoldsN w p f cs
def F.drop : F → Nat → F
  | f, 0 => f
  | .nil, _ + 1 => .nil
  | .cons _ _ _ r, j + 1 => r.drop j
section
variable {w w' : World} {p p' : Nat → Prop} {A : Option Addr} {cs : List Value}
theorem HoldsN.holds : ∀ {f : F} {cs : List Value}, HoldsN w p f cs → HoldsP w p f cs
  | .nil, _, h => h
  | .cons _ _ _ _, _, ⟨Av, cv, Ak, ck, ks, cs', e, h0, h1, h2, h3, h4⟩ => ⟨Av, cv, Ak, ck, ks, cs', e, h0.1, h1, h2, HoldsN.holds h3, HoldsN.holds h4⟩
theorem HoldsN.keep (hk : ∀ q : Addr, p q.block → w'.cell? q = w.cell? q) : ∀ {f : F} {cs : List Value}, HoldsN w p f cs → HoldsN w' p f cs
  | .nil, _, h => h
  | .cons _ _ _ _, _, ⟨Av, cv, Ak, ck, ks, cs', e, h0, h1, h2, h3, h4⟩ => ⟨Av, cv, Ak, ck, ks, cs', e, h0, h1.keep hk, h2.keep hk, HoldsN.keep hk h3, HoldsN.keep hk h4⟩
theorem HoldsN.imp (hp : ∀ b, p b → p' b) : ∀ {f : F} {cs : List Value}, HoldsN w p f cs → HoldsN w p' f cs
  | .nil, _, h => h
  | .cons _ _ _ _, _, ⟨Av, cv, Ak, ck, ks, cs', e, h0, h1, h2, h3, h4⟩ => ⟨Av, cv, Ak, ck, ks, cs', e, h0, h1.imp hp, h2.imp hp, HoldsN.imp hp h3, HoldsN.imp hp h4⟩
theorem HoldsN.length {f : F} {cs : List Value} (h : HoldsN w p f cs) : cs.length = 3 * f.len := h.holds.length
theorem HoldsN.app : ∀ {f g : F} {cs ds : List Value}, HoldsN w p f cs → HoldsN w p g ds → HoldsN w p (f.app g) (cs ++ ds)
  | .nil, _, _, _, h, h' => by cases h; exact h'
  | .cons _ _ _ _, _, _, _, ⟨Av, cv, Ak, ck, ks, cs', e, h0, h1, h2, h3, h4⟩, h' => ⟨Av, cv, Ak, ck, ks, cs' ++ _, by rw [e]; rfl, h0, h1, h2, h3, HoldsN.app h4 h'⟩
theorem SeesN.sees {f : F} (h : SeesN w p A f) : SeesF w p A f := by
  obtain ⟨cs, h1, h2⟩ := h
  exact ⟨cs, h1, h2.holds⟩
theorem SeesN.keep {f : F} (h : SeesN w p A f) (hk : ∀ q : Addr, p q.block → w'.cell? q = w.cell? q) : SeesN w' p A f := by
  obtain ⟨cs, h1, h2⟩ := h
  exact ⟨cs, h1.keep hk, HoldsN.keep hk h2⟩
theorem SeesN.imp {f : F} (h : SeesN w p A f) (hp : ∀ b, p b → p' b) : SeesN w p' A f := by
  obtain ⟨cs, h1, h2⟩ := h
  exact ⟨cs, h1.imp hp, HoldsN.imp hp h2⟩
theorem SeesN.on {f : F} (h : SeesN w (· < w.heap.size) A f) (hb : Below w.heap.size w w') : SeesN w' (· < w'.heap.size) A f :=
  (h.keep fun _ hq => hb.cell hq).imp fun _ hb2 => Nat.lt_of_lt_of_le hb2 hb.size
theorem SeesN.nil_ : SeesN w p A .nil := ⟨[], .inl rfl, rfl⟩
theorem SeesP.on2 (h : SeesP w (· < w.heap.size) A cs) (hb : Below w.heap.size w w') : SeesP w' (· < w'.heap.size) A cs :=
  (h.keep fun _ hq => hb.cell hq).imp fun _ hb2 => Nat.lt_of_lt_of_le hb2 hb.size
theorem HoldsN.tail {t : Int} {v : List UInt8} {k r : F} (h : HoldsN w p (.cons t v k r) cs) : HoldsN w p r (cs.drop 3) := by
  obtain ⟨Av, cv, Ak, ck, ks, cs', e, _, _, _, _, h4⟩ := h
  rw [e]; exact h4
theorem HoldsN.drop : ∀ {f : F} {cs : List Value} (j : Nat), HoldsN w p f cs → HoldsN w p (f.drop j) (cs.drop (3 * j))
  | f, cs, 0, h => by cases f <;> simpa [F.drop] using h
  | .nil, cs, j + 1, h => by
    have h : cs = [] := h
    subst h
    simp [F.drop, HoldsN]
  | .cons _ _ _ r, cs, j + 1, h => by
    have h2 := HoldsN.drop j h.tail
    rw [List.drop_drop, show 3 + 3 * j = 3 * (j + 1) by omega] at h2
    exact h2
def nodV (t : Int) (Av : Option Addr) (lv cv : Nat) (Ak : Option Addr) (lk ck : Nat) : List Value := [.int .i64 t, .slice Av lv cv, .slice Ak lk ck]
theorem node_atN {f : F} {j : Nat} {t : Int} {v : List UInt8} {k r : F} (h : SeesN w p A f) (hg : f.drop j = .cons t v k r) :
    ∃ b off Av cv Ak ck, A = some ⟨b, off, none⟩ ∧ p b ∧ w.rangeAt b (off + j * 3) (nodV t Av v.length cv Ak k.len ck) ∧ (Av = none → cv = 0) ∧ v.length ≤ cv ∧ k.len ≤ ck ∧ SeesP w p Av (Us v) ∧ SeesN w p Ak k := by
  obtain ⟨cs, h1, h2⟩ := h
  have h3 := h2.drop j
  rw [hg] at h3
  obtain ⟨Av, cv, Ak, ck, ks, cs', e, h0, g1, g2, g3, g4⟩ := h3
  have hl : 3 * j + 2 < cs.length := by
    have := congrArg List.length e
    simp only [List.length_drop, List.length_cons] at this
    omega
  rcases h1 with h1 | ⟨b, off, rfl, hb, hc⟩
  · subst h1; simp at hl
  · refine ⟨b, off, Av, cv, Ak, ck, rfl, hb, fun i u hu => ?_, h0.1, h0.2.1, h0.2.2, g1, ks, g2, g3⟩
    have hi : i < 3 := by
      have := (List.getElem?_eq_some_iff.1 hu).1
      simpa [nodV] using this
    rw [show off + j * 3 + i = off + (3 * j + i) by omega, hc _ (by omega), ← List.getElem?_drop, e, ← hu]
    obtain rfl | rfl | rfl : i = 0 ∨ i = 1 ∨ i = 2 := by omega
    all_goals rfl
theorem SeesN.tail {t : Int} {v : List UInt8} {k r : F} {b o : Nat} (h : SeesN w p (some ⟨b, o, none⟩) (.cons t v k r)) : SeesN w p (some ⟨b, o + 3, none⟩) r := by
  obtain ⟨cs, h1, h2⟩ := h
  have hl := h2.length
  simp only [F.len] at hl
  refine ⟨cs.drop 3, ?_, h2.tail⟩
  rcases h1 with h1 | ⟨b', off, e, hb, hc⟩
  · subst h1; simp at hl
  · injection e with e
    injection e with e1 e2 _
    subst e1; subst e2
    refine .inr ⟨_, _, rfl, hb, fun j hj => ?_⟩
    rw [List.length_drop] at hj
    rw [Nat.add_assoc, hc _ (by omega), List.getElem?_drop]
theorem SeesN.none_nil {f : F} (h : SeesN w p none f) : f = .nil := by
  obtain ⟨cs, h1, h2⟩ := h
  have := h1.none_nil
  subst this
  have := h2.length
  exact F.len_zero (by simp at this; omega)
end
theorem rangeAt_bl {w w' : World} {B g o : Nat} {vs : List Value} (h : w.rangeAt g o vs) (hb : Below B w w') (hg : g < B) : w'.rangeAt g o vs := fun j v hv => (hb.cell (p := ⟨g, o + j, none⟩) hg).trans (h j v hv)
theorem rangeAt_on {w w' : World} {g o : Nat} {vs : List Value} (h : w.rangeAt g o vs) (hg : g < w.heap.size) (hb : Below w.heap.size w w') : w'.rangeAt g o vs := rangeAt_bl h hb hg
theorem SeesN.block {w w1 : World} {g : Nat} {f : F} {cs : List Value} (h : RowV w1 g cs) (hg : w.heap.size ≤ g) (hf : HoldsN w1 (newB w w1) f cs) : SeesN w1 (newB w w1) (some ⟨g, 0, none⟩) f :=
  ⟨cs, .inr ⟨g, 0, rfl, ⟨hg, h.lt⟩, fun j hj => by rw [Nat.zero_add, h.cell]⟩, hf⟩
def HeldN (w wr : World) (v : Value) (f : F) : Prop := ∃ cs, wr.ownsRow w.heap.size 50 3 v f.len cs ∧ HoldsN wr (fun b => newB w wr b ∧ v.ownBlock ≠ some b) f cs
theorem HeldN.start (w wr : World) : HeldN w wr (.slice none 0 0) .nil := ⟨[], ⟨rfl, .inl ⟨rfl, rfl⟩⟩, rfl⟩
theorem own3_on {a b : World} {base n s : Nat} {e : TypeId} {v : Value} {xs : List Value} (h : a.ownsRow base e s v n xs) (hb : Below a.heap.size a b) : b.ownsRow base e s v n xs := by
  rcases h with ⟨h1, h2⟩
  rcases h2 with ⟨rfl, rfl⟩ | ⟨g, cap, cur, rfl, hg, hh, h4, h5, h6, h7⟩
  · exact ⟨h1, .inl ⟨rfl, rfl⟩⟩
  · exact ⟨h1, .inr ⟨g, cap, cur, rfl, hg, (hb.block g (lt_of_block hh)).trans hh, h4, h5, h6, h7⟩⟩
theorem own_lt3 {w : World} {base : Nat} {e : TypeId} {s : Nat} {v : Value} {n : Nat} {xs : List Value} (h : w.ownsRow base e s v n xs) : ∀ g, v.ownBlock = some g → base ≤ g ∧ g < w.heap.size := by
  intro g e
  rcases h.2 with ⟨rfl, rfl⟩ | ⟨g', cap, cur, rfl, hb, hh, _⟩
  · cases e
  · have : g' = g := by simpa [Value.ownBlock] using e
    subst this
    exact ⟨hb, lt_of_block hh⟩
theorem HeldN.on {w wr w' : World} {v : Value} {f : F} (h : HeldN w wr v f) (hb : Below wr.heap.size wr w') : HeldN w w' v f := by
  obtain ⟨cs, h1, h2⟩ := h
  exact ⟨cs, own3_on h1 hb, HoldsN.imp (fun b h => ⟨⟨h.1.1, Nat.lt_of_lt_of_le h.1.2 hb.size⟩, h.2⟩) (HoldsN.keep (fun q hq => hb.cell hq.1.2) h2)⟩
theorem HeldN.slice {w wr : World} {v : Value} {f : F} (h : HeldN w wr v f) : ∃ A c, v = .slice A f.len c ∧ f.len ≤ c ∧ SeesN wr (newB w wr) A f := by
  obtain ⟨cs, h1, h2⟩ := h
  rcases h1.2 with ⟨rfl, h0⟩ | ⟨g, cap, cur, rfl, hb, hh, hn, hm, hs, ht⟩
  · have : f = .nil := F.len_zero h0
    subst this
    exact ⟨none, 0, rfl, Nat.le_refl _, SeesN.nil_⟩
  · refine ⟨_, cap, rfl, hn, cs, .inr ⟨g, 0, rfl, ⟨hb, lt_of_block hh⟩, fun j hj => ?_⟩, HoldsN.imp (fun _ hb => hb.1) h2⟩
    have hl := h1.1
    rw [Nat.zero_add, cell_of_row wr g j cur _ (0, 0) hh, ← ht, List.getElem?_take, if_pos (by omega), Array.getElem?_toList]
theorem HeldN.snoc {w wr w1 wa w2 : World} {v : Value} {f : F} {t : Int} {x : List UInt8} {k : F} {Av Ak : Option Addr} {cv ck g cap n : Nat} (h01 : Below wr.heap.size wr w1) (ha : Below w1.heap.size w1 wa)
    (hn0 : (Av = none → cv = 0) ∧ x.length ≤ cv ∧ k.len ≤ ck) (hv : SeesP w1 (newB wr w1) Av (Us x)) (hk : SeesN w1 (newB wr w1) Ak k) (hww : w.heap.size ≤ wr.heap.size)
    (cs : List Value) (hc1 : wr.ownsRow w.heap.size 50 3 v f.len cs) (hc2 : HoldsN wr (fun b => newB w wr b ∧ v.ownBlock ≠ some b) f cs) (hn : n = f.len + 1)
    (ho : w2.ownsRow w.heap.size 50 3 (.slice (some ⟨g, 0, none⟩) n cap) n (cs ++ [.int .i64 t, .slice Av x.length cv, .slice Ak k.len ck])) (hg : wa.grownBy w2 v.ownBlock)
    (hl : v.ownBlock = some g ∨ g = wa.heap.size) : HeldN w w2 (.slice (some ⟨g, 0, none⟩) n cap) (f.app (.cons t x k .nil)) := by
  subst hn
  have hold := own_lt3 hc1
  have keep : ∀ q : Addr, q.block < w1.heap.size → v.ownBlock ≠ some q.block → w2.cell? q = w1.cell? q := fun q h1 h2 =>
    (World.cell?_of_block (w := wa) (hg.block q.block (Nat.lt_of_lt_of_le h1 ha.size) (fun e => h2 e.symm))).trans (ha.cell h1)
  have hsz : w1.heap.size ≤ w2.heap.size := Nat.le_trans ha.size hg.size
  have hwa := ha.size
  have h01s := h01.size
  refine ⟨_, by rw [F.len_app]; exact ho, HoldsN.app ?_ ?_⟩
  · refine HoldsN.imp ?_ (HoldsN.keep (w' := w2) (fun q hq => (keep q (Nat.lt_of_lt_of_le hq.1.2 h01s) hq.2).trans (h01.cell hq.1.2)) hc2)
    intro b hb
    have h4 := hb.1.2
    refine ⟨⟨hb.1.1, by omega⟩, ?_⟩
    intro e
    injection e with e
    simp only at e
    rcases hl with h3 | h3
    · exact hb.2 (h3.trans (by rw [e]))
    · omega
  · have hp : ∀ b, newB wr w1 b → newB w w2 b ∧ (Value.slice (some ⟨g, 0, none⟩) (f.len + 1) cap).ownBlock ≠ some b := by
      intro b hb
      have h5 := hb.1
      have h6 := hb.2
      refine ⟨⟨by omega, by omega⟩, ?_⟩
      intro e
      injection e with e
      simp only at e
      rcases hl with h3 | h3
      · have := (hold g h3).2; omega
      · omega
    have kp : ∀ q : Addr, newB wr w1 q.block → w2.cell? q = w1.cell? q := by
      intro q hq
      refine keep q hq.2 ?_
      have h5 := hq.1
      intro e
      have := (hold _ e).2
      omega
    obtain ⟨ks, hk1, hk2⟩ := hk
    exact ⟨Av, cv, Ak, ck, ks, [], rfl, hn0, (hv.keep kp).imp hp, (hk1.keep kp).imp hp, HoldsN.imp hp (HoldsN.keep kp hk2), rfl⟩
end Go.Proofs.YtkgfdbbdmchmeaaDoor
namespace Go.Proofs.YtkgfdbbdmchmeaaDoor
open Go.RowKit
def S (x : List UInt8) : ByteArray := ⟨x.toArray⟩
theorem run_conv (w : World) (B : Nat) (A : Option Addr) (x : List UInt8) (h : Sees w B A (Us x)) (n c : Nat) (hn : n = x.length) :
    (convert 35 9 (.slice A n c)).run Tryd.prog w = .ok (.string (S x)) w := by
  subst hn
  have hx : strOfNums (x.map fun u => (u.toNat : Int)) = S x := by
    simp [strOfNums, S, Function.comp_def]
  rcases h with h | ⟨b, off, rfl, hb, hc⟩
  · have : x = [] := by simpa [Us] using h
    subst this
    rcases A with _ | a
    · exact run_convert_bytes_nil w _ _ Tryd.underlying35 Tryd.underlying5 _ _ _ Tryd.underlying9
    · rw [run_convert_bytes_string w _ _ _ _ _ _ Tryd.underlying35 Tryd.underlying5 Tryd.underlying9]
      exact run_bytesToString w a 0 c [] (by simpa using run_loadCells_list (P := Tryd.prog) w a [] (fun j v hj => by simp at hj))
  · have := run_convert_bytes_arg (P := Tryd.prog) w 35 5 Tryd.underlying35 Tryd.underlying5 b off x.length c (x.map fun u => (u.toNat : Int)) (by simp)
      (fun i hi => by rw [hc i (by rw [Us_length]; exact hi), Us_get hi]; simp [hi]) 9 Tryd.underlying9
    rw [hx] at this
    exact this
theorem S_toList (x : List UInt8) : (S x).toList = x := ByteArray.toList_mk x
end Go.Proofs.YtkgfdbbdmchmeaaDoor
namespace Go.Proofs.YtkgfdbbdmchmeaaDoor
open Go.RowKit
def dayB (n : Int) : Bool := decide (0 ≤ n) && decide (n ≤ 73048)
end Go.Proofs.YtkgfdbbdmchmeaaDoor
namespace Go.Proofs.YtkgfdbbdmchmeaaDoor
open Go.RowKit
set_option maxRecDepth 8000
set_option linter.unusedVariables false
theorem made_mod (n m : Int) (lo : -9223372036854775808 ≤ n) (hi : n ≤ 9223372036854775807) (hm : 0 < m) (hm2 : m ≤ 4611686018427387903) (w : World) :
    Calls Tryd.prog 40 #[.int .i64 n, .int .i64 m] w fun e w' => e = .returned (.int .i64 (n % m)) ∧ w' = w := by
  have hne : m ≠ 0 := by omega
  have ht := Int.tmod_eq_emod (a := n) (b := m)
  have hr0 := Int.emod_nonneg n hne
  have hr1 := Int.emod_lt_of_pos n hm
  by_cases h : n.tmod m < 0
  · have e : n.tmod m + m = n % m := by
      split at ht
      · omega
      · have : ((m.natAbs : Int)) = m := by omega
        omega
    have lt : -m ≤ n.tmod m := by rw [← e] at hr0; omega
    have E := Lib.hid e
    have HM := Lib.hid hm2
    clear ht e
    go_enter Tryd.func40, Tryd.ntmps40
    go_wp2_with fail
    go_ret
    exact ⟨by rw [← E.out]; rfl, rfl⟩
  · have e : n.tmod m = n % m := by
      split at ht
      · omega
      · have : ((m.natAbs : Int)) = m := by omega
        omega
    have E := Lib.hid e
    clear ht e
    go_enter Tryd.func40, Tryd.ntmps40
    go_wp2_with fail
    go_ret
    exact ⟨by rw [← E.out]; rfl, rfl⟩
end Go.Proofs.YtkgfdbbdmchmeaaDoor
