/-
  What is proved here: plain words for lists of objects in memory whose long Values lie within their capacity, with no condition; nothing of the program is used.
-/
import Derived.Test.YtcapbojjceeapaaDoorWG1
import Derived.Test.YtcapbojjceeapaaDoorRows
import Derived.Test.YtcapbojjceeapaaDoorWG1b
import Derived.Test.YtcapbojjceeapaaDoorWG2
import Derived.Test.YtcapbojjceeapaaDoorWG5
import Derived.Deep.CutRange
import Derived.Laws.AppendOwnNone
import Derived.Test.YtcapbojjceeapaaDoorWG3
namespace Go.Proofs.YtcapbojjceeapaaDoor
open Go.RowKit
set_option maxRecDepth 8000
def HoldsQ (w : World) (p : Nat → Prop) : F → List Value → Prop
  | .nil, cs => cs = []
  | .cons t v k r, cs => ∃ Av cv Ak ck ks cs', cs = .int .i64 t :: .slice Av v.length cv :: .slice Ak k.len ck :: cs' ∧ ((Av = none → cv = 0) ∧ (4096 < v.length → v.length ≤ cv)) ∧ SeesP w p Av (Us v) ∧ SeesP w p Ak ks ∧ HoldsQ w p k ks ∧ HoldsQ w p r cs'
def SeesQ (w : World) (p : Nat → Prop) (A : Option Addr) (f : F) : Prop := ∃ cs, SeesP w p A cs ∧ HoldsQ w p f cs
section
variable {w w' : World} {p p' : Nat → Prop} {A : Option Addr} {cs : List Value}
theorem HoldsQ.holds : ∀ {f : F} {cs : List Value}, HoldsQ w p f cs → HoldsP w p f cs
  | .nil, _, h => h
  | .cons _ _ _ _, _, ⟨Av, cv, Ak, ck, ks, cs', e, h0, h1, h2, h3, h4⟩ => ⟨Av, cv, Ak, ck, ks, cs', e, h0.1, h1, h2, HoldsQ.holds h3, HoldsQ.holds h4⟩
theorem HoldsQ.keep (hk : ∀ q : Addr, p q.block → w'.cell? q = w.cell? q) : ∀ {f : F} {cs : List Value}, HoldsQ w p f cs → HoldsQ w' p f cs
  | .nil, _, h => h
  | .cons _ _ _ _, _, ⟨Av, cv, Ak, ck, ks, cs', e, h0, h1, h2, h3, h4⟩ => ⟨Av, cv, Ak, ck, ks, cs', e, h0, h1.keep hk, h2.keep hk, HoldsQ.keep hk h3, HoldsQ.keep hk h4⟩
theorem HoldsQ.imp (hp : ∀ b, p b → p' b) : ∀ {f : F} {cs : List Value}, HoldsQ w p f cs → HoldsQ w p' f cs
  | .nil, _, h => h
  | .cons _ _ _ _, _, ⟨Av, cv, Ak, ck, ks, cs', e, h0, h1, h2, h3, h4⟩ => ⟨Av, cv, Ak, ck, ks, cs', e, h0, h1.imp hp, h2.imp hp, HoldsQ.imp hp h3, HoldsQ.imp hp h4⟩
theorem SeesQ.keep {f : F} (h : SeesQ w p A f) (hk : ∀ q : Addr, p q.block → w'.cell? q = w.cell? q) : SeesQ w' p A f := by
  obtain ⟨cs, h1, h2⟩ := h
  exact ⟨cs, h1.keep hk, HoldsQ.keep hk h2⟩
theorem SeesQ.imp {f : F} (h : SeesQ w p A f) (hp : ∀ b, p b → p' b) : SeesQ w p' A f := by
  obtain ⟨cs, h1, h2⟩ := h
  exact ⟨cs, h1.imp hp, HoldsQ.imp hp h2⟩
theorem SeesQ.on {f : F} (h : SeesQ w (· < w.heap.size) A f) (hb : Below w.heap.size w w') : SeesQ w' (· < w'.heap.size) A f :=
  (h.keep fun _ hq => hb.cell hq).imp fun _ hb2 => Nat.lt_of_lt_of_le hb2 hb.size
end
def F.sm : F → Prop
  | .nil => True
  | .cons _ v k r => v.length ≤ 4096 ∧ k.sm ∧ r.sm
theorem HoldsP.small {w : World} {p : Nat → Prop} : ∀ {f : F} {cs : List Value}, HoldsP w p f cs → f.sm → HoldsQ w p f cs
  | .nil, _, h, _ => h
  | .cons _ _ _ _, _, ⟨Av, cv, Ak, ck, ks, cs', e, h0, h1, h2, h3, h4⟩, ⟨s1, s2, s3⟩ => ⟨Av, cv, Ak, ck, ks, cs', e, ⟨h0, fun h => by omega⟩, h1, h2, HoldsP.small h3 s2, HoldsP.small h4 s3⟩
theorem SeesF.small {w : World} {p : Nat → Prop} {A : Option Addr} {f : F} (h : SeesF w p A f) (hs : f.sm) : SeesQ w p A f := by
  obtain ⟨cs, h1, h2⟩ := h
  exact ⟨cs, h1, h2.small hs⟩
set_option maxRecDepth 8000
set_option linter.unusedVariables false
set_option maxRecDepth 8000
set_option maxRecDepth 8000
set_option linter.unusedVariables false
end Go.Proofs.YtcapbojjceeapaaDoor
namespace Go.Proofs.YtcapbojjceeapaaDoor
open Go.RowKit
set_option linter.unusedVariables false
def St2 (w : World) (D : Nat) (l : List UInt8) (v : Value) (wX : World) : Prop := wX.ownsRow w.heap.size 5 1 v l.length (Us l) ∧ w.grownBy wX (some D) ∧ DiceOk wX D
theorem own_row {w : World} {base : Nat} {e : TypeId} {s : Nat} {v : Value} {n : Nat} {xs : List Value} (h : w.ownsRow base e s v n xs) : ∀ g, v.ownBlock = some g → base ≤ g := fun g e => (h.lt g e).1
theorem St2.app {w wX w2 : World} {D : Nat} {l xs : List UInt8} {v v2 : Value} {o : Obj} {n : Nat} {news : List Value} (h : St2 w D l v wX) (hDw : D < w.heap.size) (hn : n = xs.length) (he : news = Us xs) (ho : w2.ownsRow w.heap.size 5 1 v2 (l.length + n) (Us l ++ news)) (hg : (wX.alloc o).grownBy w2 v.ownBlock) : St2 w D (l ++ xs) v2 w2 := by
  subst hn he
  refine ⟨by rw [List.length_append, Us_append]; exact ho, grown_row (grown_trans h.2.1 (grown_alloc wX o (some D))) hg (own_row h.1), ?_⟩
  exact (h.2.2.below ((Below.refl _ _).alloc (Nat.le_refl _) o)).grown hg fun g e => by have := own_row h.1 g e; omega
theorem St2.src {w wX w2 : World} {D : Nat} {l xs : List UInt8} {v v2 : Value} (h : St2 w D l v wX) (hDw : D < w.heap.size) (ho : w2.ownsRow w.heap.size 5 1 v2 (l.length + xs.length) (Us l ++ Us xs)) (hg : wX.grownBy w2 v.ownBlock) : St2 w D (l ++ xs) v2 w2 :=
  ⟨by rw [List.length_append, Us_append]; exact ho, grown_row h.2.1 hg (own_row h.1), h.2.2.grown hg fun g e => by have := own_row h.1 g e; omega⟩
def Con (wX : World) (v : Value) (A : Option Addr) (c : Nat) (cb : List UInt8) : Prop := SeesP wX (fun b => b < wX.heap.size ∧ v.ownBlock ≠ some b) A (Us cb) ∧ (A = none → c = 0)
theorem Con.grown {wX w2 : World} {D : Nat} {v : Value} {A : Option Addr} {cb : List UInt8} (h : SeesP wX (fun b => b < wX.heap.size ∧ v.ownBlock ≠ some b ∧ b ≠ D) A (Us cb)) (hg : wX.grownBy w2 (some D)) : SeesP w2 (fun b => b < w2.heap.size ∧ v.ownBlock ≠ some b ∧ b ≠ D) A (Us cb) :=
  (h.keep fun q hq => grown_cell hg hq.1 hq.2.2).imp fun b hb => ⟨Nat.lt_of_lt_of_le hb.1 hg.size, hb.2⟩
theorem t1 (t : Nat) : #[Value.int .u8 ((t : Int) % 256)].toList = Us [UInt8.ofNat t] := by simp [Us, U]
theorem h00 {n : Nat} (h : n < 256) : #[Value.int .u8 (n : Int)].toList = Us [UInt8.ofNat n] := by simp [Us, U]; omega
def LRel (w : World) (D : Nat) (p : Nat → Prop) (cs : List Value) (f : F) (v : Value) (j : Nat) (g : F) (l : List UInt8) (wr : World) : Prop :=
  St2 w D l v wr ∧ HoldsP w p g (cs.drop (3 * j)) ∧ ∃ df : F, df.app g = f ∧ (l.length ≤ 4096 → LooseOf false df l) ∧ l.length ≤ df.size * 400 ∧ df.size + g.size = f.size
theorem LRel.step {w w2 : World} {D : Nat} {p : Nat → Prop} {cs : List Value} {f : F} {v2 : Value} {j : Nat} {t : Int} {v ck : List UInt8} {kk r : F} {l hd tl L : List UInt8}
    (hh : HoldsP w p r (cs.drop (3 * (j + 1)))) (hx : ∃ df : F, df.app (.cons t v kk r) = f ∧ (l.length ≤ 4096 → LooseOf false df l) ∧ l.length ≤ df.size * 400 ∧ df.size + (F.cons t v kk r).size = f.size)
    (hL : L = l ++ tagL t.toNat ++ hd ++ (v ++ ck) ++ tl) (hst : St2 w D L v2 w2) (hck : ck.length ≤ 4096 → LooseOf false kk ck) (hcl : ck.length ≤ kk.size * 400) (hvl : v.length ≤ 300) (hhl : hd.length + tl.length ≤ 5)
    (hok : v.length + ck.length ≤ 4096 → HdOk false t (v.length + ck.length) hd tl) : LRel w D p cs f v2 (j + 1) r L w2 := by
  obtain ⟨df, d1, d2, d3, d4⟩ := hx
  have hlen : L.length = l.length + (tagL t.toNat).length + hd.length + (v.length + ck.length) + tl.length := by rw [hL]; simp only [List.length_append]
  have hT : (tagL t.toNat).length ≤ 2 := by unfold tagL; split <;> simp
  refine ⟨hst, hh, df.app (.cons t v kk .nil), by rw [F.app_assoc]; exact d1, fun h => ?_, ?_, ?_⟩
  · have h1 : LooseOf false (.cons t v kk .nil) (tagL t.toNat ++ (hd ++ (v ++ ck ++ (tl ++ [])))) := ⟨ck, [], hd, tl, hck (by omega), rfl, hok (by omega), rfl⟩
    have h2 := LooseOf.app h1 (d2 (by omega))
    rw [hL]
    simp only [List.append_assoc, List.append_nil] at h2 ⊢
    exact h2
  · rw [F.size_app]; simp only [F.size]; omega
  · rw [F.size_app]; simp only [F.size] at d4 ⊢; omega
def F.raw : F → Prop
  | .nil => True
  | .cons t v k r => (0 < t ∧ t ≤ 65535) ∧ v.length ≤ 5000 ∧ (consB t = true → v = []) ∧ (consB t = false → k = .nil) ∧ k.raw ∧ r.raw
theorem enc_app (g : F) : ∀ f : F, enc (f.app g) = enc f ++ enc g
  | .nil => rfl
  | .cons t v k r => by simp only [F.app, enc, enc_app g r, List.append_assoc]
theorem encN_app (g : F) : ∀ f : F, encN (f.app g) = encN f + encN g
  | .nil => by simp [F.app, encN]
  | .cons t v k r => by simp only [F.app, encN, encN_app g r]; omega
theorem lb_max {n : Nat} (h : n ≤ 65535) : lb n ≤ 2 := by
  by_cases h1 : n ≤ 127
  · rw [lb_0 h1]; omega
  · by_cases h2 : n < 256
    · rw [lb_1 (by omega) h2]; omega
    · rw [lb_2 (by omega) (by omega)]; omega
def St3 (w : World) (l : List UInt8) (v : Value) (wX : World) : Prop := wX.ownsRow w.heap.size 5 1 v l.length (Us l) ∧ Below w.heap.size w wX
def Con3 (wX : World) (v : Value) (A : Option Addr) (cb : List UInt8) : Prop := SeesP wX (fun q => q < wX.heap.size ∧ v.ownBlock ≠ some q) A (Us cb)
theorem St3.app {w wX w2 : World} {l xs : List UInt8} {v v2 : Value} {o : Obj} {n : Nat} {news : List Value} (h : St3 w l v wX) (hn : n = xs.length) (he : news = Us xs) (ho : w2.ownsRow w.heap.size 5 1 v2 (l.length + n) (Us l ++ news)) (hg : (wX.alloc o).grownBy w2 v.ownBlock) : St3 w (l ++ xs) v2 w2 := by
  subst hn he
  exact ⟨by rw [List.length_append, Us_append]; exact ho, ((h.2.alloc h.2.size o)).grown hg (by have := h.2.size; simp; omega) (own_row h.1)⟩
theorem St3.src {w wX w2 : World} {l xs : List UInt8} {v v2 : Value} (h : St3 w l v wX) (ho : w2.ownsRow w.heap.size 5 1 v2 (l.length + xs.length) (Us l ++ Us xs)) (hg : wX.grownBy w2 v.ownBlock) : St3 w (l ++ xs) v2 w2 :=
  ⟨by rw [List.length_append, Us_append]; exact ho, h.2.grown hg h.2.size (own_row h.1)⟩
theorem St3.on {w wX w2 : World} {l : List UInt8} {v : Value} (h : St3 w l v wX) (hb : Below wX.heap.size wX w2) : St3 w l v w2 :=
  ⟨own_far h.1 (grown_below hb (row := some wX.heap.size)) (fun e => by have := (h.1.lt _ e).2; omega), below_on h.2 hb⟩
theorem Con3.on {wX w2 : World} {v : Value} {A : Option Addr} {cb : List UInt8} (h : Con3 wX v A cb) (hb : Below wX.heap.size wX w2) : Con3 w2 v A cb :=
  (SeesP.keep h fun q hq => hb.cell hq.1).imp fun b hq => ⟨Nat.lt_of_lt_of_le hq.1 hb.size, hq.2⟩
def ContOk (v : List UInt8) (kk : F) (cb : List UInt8) : Prop := (v.length + encN kk ≤ 4096 → cb = v ++ enc kk) ∧ (4096 < v.length + encN kk → 4096 < cb.length)
def RRel (w : World) (cs : List Value) (f : F) (v : Value) (j : Nat) (g : F) (l : List UInt8) (wr : World) : Prop :=
  St3 w l v wr ∧ HoldsQ w (· < w.heap.size) g (cs.drop (3 * j)) ∧ g.raw ∧ ∃ df : F, df.app g = f ∧ (encN df ≤ 4096 → l = enc df) ∧ (4096 < encN df → 4096 < l.length)
theorem RRel.step {w w2 : World} {cs : List Value} {f : F} {v2 : Value} {j T : Nat} {v cb c2 : List UInt8} {kk r : F} {l L : List UInt8}
    (hh : HoldsQ w (· < w.heap.size) r (cs.drop (3 * (j + 1)))) (hr : r.raw) (hx : ∃ df : F, df.app (.cons (T : Int) v kk r) = f ∧ (encN df ≤ 4096 → l = enc df) ∧ (4096 < encN df → 4096 < l.length))
    (hl : l.length ≤ 4096) (hc : ContOk v kk cb) (h2 : c2 = if 4096 < cb.length then cb.take 4097 else cb) (hL : L = l ++ tagL T ++ lenL c2.length ++ c2) (hst : St3 w L v2 w2) : RRel w cs f v2 (j + 1) r L w2 ∧ L.length ≤ 8300 := by
  obtain ⟨df, d1, d2, d3⟩ := hx
  have hc2 : c2.length ≤ 4097 := by
    rw [h2]; split
    · rw [List.length_take]; omega
    · omega
  have hlb := lb_max (n := c2.length) (by omega)
  have hlen : L.length = l.length + (tagL T).length + (1 + lb c2.length) + c2.length := by rw [hL]; simp only [List.length_append, lenL_length]
  have hT : (tagL T).length ≤ 2 := by unfold tagL; split <;> simp
  have hTn := tagL_length T
  have hN : encN (.cons (T : Int) v kk .nil) = tagN (T : Int) + 1 + lb (v.length + encN kk) + (v.length + encN kk) := by simp only [encN]; omega
  have hok : v.length + encN kk ≤ 4096 → c2 = v ++ enc kk ∧ c2.length = v.length + encN kk := fun h => by
    have e := hc.1 h
    have e2 : cb.length = v.length + encN kk := by rw [e, List.length_append, enc_length]
    rw [if_neg (by omega)] at h2
    rw [h2]
    exact ⟨e, e2⟩
  refine ⟨⟨hst, hh, hr, df.app (.cons (T : Int) v kk .nil), by rw [F.app_assoc]; exact d1, fun h => ?_, fun h => ?_⟩, by omega⟩
  · rw [encN_app, hN] at h
    obtain ⟨e1, e2⟩ := hok (by omega)
    rw [enc_app, hL, d2 (by omega), e2, e1]
    simp only [enc, Int.toNat_natCast, List.append_nil, List.append_assoc]
  · rw [encN_app, hN] at h
    by_cases h4 : v.length + encN kk ≤ 4096
    · obtain ⟨e1, e2⟩ := hok h4
      have hd : encN df ≤ 4096 := by
        by_cases hd : encN df ≤ 4096
        · exact hd
        · have := d3 (by omega); omega
      have := d2 hd
      have hle : l.length = encN df := by rw [this, enc_length]
      rw [e2] at hlen
      omega
    · have := hc.2 (by omega)
      rw [if_pos this] at h2
      have : c2.length = 4097 := by rw [h2, List.length_take]; omega
      omega
end Go.Proofs.YtcapbojjceeapaaDoor
namespace Go.Proofs.YtcapbojjceeapaaDoor
open Go.RowKit
set_option maxRecDepth 8000
set_option linter.unusedVariables false
end Go.Proofs.YtcapbojjceeapaaDoor
