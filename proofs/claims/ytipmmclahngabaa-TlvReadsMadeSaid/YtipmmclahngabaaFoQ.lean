/-
  What is proved here: plain words for lists of objects in memory whose long Values lie within their capacity, with no condition; nothing of the program is used.
-/
import Derived.Test.YtipmmclahngabaaFo
namespace Go.Proofs.Ytipmmclahngabaa
open Go.RowKit

/-- as HoldsP, and a Value of more than 4096 bytes lies within its capacity -/
def HoldsQ (w : World) (p : Nat → Prop) : F → List Value → Prop
  | .nil, cs => cs = []
  | .cons t v k r, cs => ∃ Av cv Ak ck ks cs', cs = .int .i64 t :: .slice Av v.length cv :: .slice Ak k.len ck :: cs' ∧ ((Av = none → cv = 0) ∧ (4096 < v.length → v.length ≤ cv)) ∧ SeesP w p Av (Us v) ∧ SeesP w p Ak ks ∧ HoldsQ w p k ks ∧ HoldsQ w p r cs'
def SeesQ (w : World) (p : Nat → Prop) (A : Option Addr) (f : F) : Prop := ∃ cs, SeesP w p A cs ∧ HoldsQ w p f cs

section
variable {w w' : World} {p p' : Nat → Prop} {A : Option Addr} {cs : List Value}
theorem HoldsQ.holds : ∀ {f : F} {cs : List Value}, HoldsQ w p f cs → HoldsP w p f cs
  | .nil, _, h => h
  | .cons _ _ _ _, _, ⟨Av, cv, Ak, ck, ks, cs', e, h0, h1, h2, h3, h4⟩ => ⟨Av, cv, Ak, ck, ks, cs', e, h0.1, h1, h2, HoldsQ.holds h3, HoldsQ.holds h4⟩
theorem HoldsQ.keep (hk : ∀ q : Addr, p q.block → w'.cell? q = w.cell? q) : ∀ {f : F} {cs : List Value}, HoldsQ w p f cs → HoldsQ w' p f cs
  | .nil, _, h => h
  | .cons _ _ _ _, _, ⟨Av, cv, Ak, ck, ks, cs', e, h0, h1, h2, h3, h4⟩ => ⟨Av, cv, Ak, ck, ks, cs', e, h0, h1.keep hk, h2.keep hk, HoldsQ.keep hk h3, HoldsQ.keep hk h4⟩
theorem HoldsQ.imp (hp : ∀ b, p b → p' b) : ∀ {f : F} {cs : List Value}, HoldsQ w p f cs → HoldsQ w p' f cs
  | .nil, _, h => h
  | .cons _ _ _ _, _, ⟨Av, cv, Ak, ck, ks, cs', e, h0, h1, h2, h3, h4⟩ => ⟨Av, cv, Ak, ck, ks, cs', e, h0, h1.imp hp, h2.imp hp, HoldsQ.imp hp h3, HoldsQ.imp hp h4⟩
theorem SeesQ.sees {f : F} (h : SeesQ w p A f) : SeesF w p A f := by
  obtain ⟨cs, h1, h2⟩ := h
  exact ⟨cs, h1, h2.holds⟩
theorem SeesQ.keep {f : F} (h : SeesQ w p A f) (hk : ∀ q : Addr, p q.block → w'.cell? q = w.cell? q) : SeesQ w' p A f := by
  obtain ⟨cs, h1, h2⟩ := h
  exact ⟨cs, h1.keep hk, HoldsQ.keep hk h2⟩
theorem SeesQ.imp {f : F} (h : SeesQ w p A f) (hp : ∀ b, p b → p' b) : SeesQ w p' A f := by
  obtain ⟨cs, h1, h2⟩ := h
  exact ⟨cs, h1.imp hp, HoldsQ.imp hp h2⟩
theorem SeesQ.on {f : F} (h : SeesQ w (· < w.heap.size) A f) (hb : Below w.heap.size w w') : SeesQ w' (· < w'.heap.size) A f :=
  (h.keep fun _ hq => hb.cell hq).imp fun _ hb2 => Nat.lt_of_lt_of_le hb2 hb.size

/-- the first object of the list that stands k objects behind A -/
theorem node_atQ {k : Nat} {t : Int} {v : List UInt8} {kk r : F} (h : SeesP w p A cs) (hh : HoldsQ w p (.cons t v kk r) (cs.drop (3 * k))) :
    ∃ b off Av cv Ak ck, A = some ⟨b, off, none⟩ ∧ p b ∧ w.cell? ⟨b, off + k * 3, none⟩ = some (.int .i64 t) ∧ w.cell? ⟨b, off + k * 3 + 1, none⟩ = some (.slice Av v.length cv) ∧
      w.cell? ⟨b, off + k * 3 + 2, none⟩ = some (.slice Ak kk.len ck) ∧ SeesP w p Av (Us v) ∧ SeesQ w p Ak kk ∧ HoldsQ w p r (cs.drop (3 * (k + 1))) ∧ (Av = none → cv = 0) ∧ (4096 < v.length → v.length ≤ cv) := by
  obtain ⟨Av, cv, Ak, ck, ks, cs', e, h0, h1, h2, h3, h4⟩ := hh
  have hl : 3 * k + 2 < cs.length := by
    have := congrArg List.length e
    simp only [List.length_drop, List.length_cons] at this
    omega
  have e0 : cs[3 * k]? = some (.int .i64 t) := by
    have := congrArg (·[0]?) e
    simpa using this
  have e1 : cs[3 * k + 1]? = some (.slice Av v.length cv) := by
    have := congrArg (·[1]?) e
    simpa using this
  have e2 : cs[3 * k + 2]? = some (.slice Ak kk.len ck) := by
    have := congrArg (·[2]?) e
    simpa using this
  have e3 : cs.drop (3 * (k + 1)) = cs' := by
    have := congrArg (·.drop 3) e
    simp only [List.drop_drop, List.drop_succ_cons, List.drop_zero] at this
    rw [← this]; congr 1
  rcases h with h | ⟨b, off, rfl, hb, hc⟩
  · subst h; simp at hl
  · rw [Nat.mul_comm] at e0 e1 e2
    refine ⟨b, off, Av, cv, Ak, ck, rfl, hb, (hc _ (by omega)).trans e0, ?_, ?_, h1, ⟨ks, h2, h3⟩, by rw [e3]; exact h4, h0.1, h0.2⟩
    · rw [Nat.add_assoc]; exact (hc _ (by omega)).trans e1
    · rw [Nat.add_assoc]; exact (hc _ (by omega)).trans e2
end

/-- Values of at most 4096 bytes; of at most 5000 -/
def F.sm : F → Prop
  | .nil => True
  | .cons _ v k r => v.length ≤ 4096 ∧ k.sm ∧ r.sm
def F.sq : F → Prop
  | .nil => True
  | .cons _ v k r => v.length ≤ 5000 ∧ k.sq ∧ r.sq
theorem F.sm_sq : ∀ {f : F}, f.sm → f.sq
  | .nil, _ => trivial
  | .cons _ _ _ _, ⟨h1, h2, h3⟩ => ⟨by omega, F.sm_sq h2, F.sm_sq h3⟩
theorem HoldsP.small {w : World} {p : Nat → Prop} : ∀ {f : F} {cs : List Value}, HoldsP w p f cs → f.sm → HoldsQ w p f cs
  | .nil, _, h, _ => h
  | .cons _ _ _ _, _, ⟨Av, cv, Ak, ck, ks, cs', e, h0, h1, h2, h3, h4⟩, ⟨s1, s2, s3⟩ => ⟨Av, cv, Ak, ck, ks, cs', e, ⟨h0, fun h => by omega⟩, h1, h2, HoldsP.small h3 s2, HoldsP.small h4 s3⟩
theorem SeesF.small {w : World} {p : Nat → Prop} {A : Option Addr} {f : F} (h : SeesF w p A f) (hs : f.sm) : SeesQ w p A f := by
  obtain ⟨cs, h1, h2⟩ := h
  exact ⟨cs, h1, h2.small hs⟩

end Go.Proofs.Ytipmmclahngabaa
