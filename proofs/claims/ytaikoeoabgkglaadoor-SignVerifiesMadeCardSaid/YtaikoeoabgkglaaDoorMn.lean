/-
  What is proved here: plain words for calls that hand back bytes, and what is kept over a call; nothing of the program is used.
-/
import Derived.Test.YtaikoeoabgkglaaDoorOc
import Derived.Test.YtaikoeoabgkglaaDoorFo
import Derived.Test.YtaikoeoabgkglaaDoorAp
namespace Go.Proofs.YtaikoeoabgkglaaDoor
open Go.RowKit
set_option linter.unusedVariables false

def four (n : Nat) : List UInt8 := octL n 4
theorem four_len (n : Nat) : (four n).length = 4 := octL_length n 4
theorem own_on {a b : World} {base n : Nat} {e : TypeId} {v : Value} {xs : List Value} (h : a.ownsRow base e 1 v n xs) (hb : Below a.heap.size a b) : b.ownsRow base e 1 v n xs := by
  obtain ⟨hl, h⟩ := h
  refine ⟨hl, ?_⟩
  rcases h with h | ⟨g, cap, cur, h1, h2, h3, h4⟩
  · exact .inl h
  · exact .inr ⟨g, cap, cur, h1, h2, (hb.block g (Array.getElem?_eq_some_iff.1 h3).1).trans h3, h4⟩
theorem SeesP.ony {w w' : World} {A : Option Addr} {cs : List Value} (h : SeesP w (· < w.heap.size) A cs) (hb : Below w.heap.size w w') : SeesP w' (· < w'.heap.size) A cs := SeesP.iff_sees.2 ((SeesP.iff_sees.1 h).on hb)
theorem below_al (w : World) (o : Obj) : Below w.heap.size w (w.alloc o) := (Below.refl _ w).alloc (Nat.le_refl _) o
/-- bytes that lie in memory behind a call -/
def MkN (w : World) (n : Nat) (l : List UInt8) (e : Ending) (w' : World) : Prop := ∃ A c, e = .returned (.slice A n c) ∧ n ≤ c ∧ (A = none → c = 0) ∧ SeesP w' (· < w'.heap.size) A (Us l) ∧ Below w.heap.size w w'
theorem mkN_of {w w' : World} {l : List UInt8} {e : Ending} {n : Nat} (hn : l.length = n) (h : Mk w l e w') : MkN w n l e w' := by
  subst hn
  obtain ⟨A, c, he, h1, h2, h3, h4⟩ := h
  exact ⟨A, c, he, h1, h2, h3.imp fun b hb => hb.2, h4⟩
theorem some_of {w : World} {p : Nat → Prop} {A : Option Addr} {l : List UInt8} (h : SeesP w p A (Us l)) (h0 : 0 < l.length) : A ≠ none := by
  intro e
  subst e
  have := congrArg List.length h.none_nil
  rw [Us_length] at this
  simp at this
  subst this
  simp at h0
theorem MkN.al {W w' : World} {o : Obj} {n : Nat} {l : List UInt8} {e : Ending} (h : MkN (W.alloc o) n l e w') : MkN W n l e w' := by
  obtain ⟨A, c, he, h1, h2, h3, h4⟩ := h
  exact ⟨A, c, he, h1, h2, h3, below_on (below_al W o) h4⟩
/-- a call that hands back n bytes and a code -/
def GivesN (w : World) (n : Nat) (bs : List UInt8) (er : Int) (e : Ending) (w' : World) : Prop := ∃ A c, e = .returned (.tuple #[.slice A n c, .int .i64 er]) ∧ SeesP w' (· < w'.heap.size) A (Us bs) ∧ Below w.heap.size w w'
theorem givesN_nil (w : World) (r : Int) : GivesN w 0 [] r (.returned (.tuple #[.slice none 0 0, .int .i64 r])) w := ⟨none, 0, rfl, .inl rfl, Below.refl _ _⟩
theorem SeesP.first {w : World} {p : Nat → Prop} {A : Option Addr} {l : List UInt8} (h : SeesP w p A (Us l)) (k : Nat) : SeesP w p A (Us (l.take k)) := by
  rcases h with h | ⟨b, off, e, hb, hc⟩
  · have := congrArg List.length h; rw [Us_length] at this; have : l = [] := List.eq_nil_of_length_eq_zero (by simpa using this)
    subst this; exact .inl (by simp [Us])
  · refine .inr ⟨b, off, e, hb, fun j hj => ?_⟩
    rw [Us_length, List.length_take] at hj
    rw [hc j (by rw [Us_length]; omega), Us_take, List.getElem?_take, if_pos (by omega)]
theorem own_caps {w : World} {base n : Nat} {e : TypeId} {A : Option Addr} {c : Nat} {xs : List Value} (h : w.ownsRow base e 1 (.slice A n c) n xs) : n ≤ c := by
  rcases h.2 with ⟨h1, h2⟩ | ⟨g, cap, cur, h1, _, _, h2, _⟩
  · omega
  · injection h1 with _ _ h3
    omega
theorem one_len : ([1] : List UInt8).length = 1 := rfl
theorem zero_len : ([0] : List UInt8).length = 1 := rfl
theorem oct4 {n : Nat} {w : World} (hn : n < 4294967296) : Calls Tryd.prog 49 #[.int .i64 (n : Int), .int .i64 4] w (Gives w (octL n 4) 0) := oct_oct_yes n 4 (by decide) hn w
/-- bytes that came in, or were made -/
def InB (w : World) (A : Option Addr) (a c : Nat) (x : List UInt8) : Prop := x.length = a ∧ a ≤ 140737488351300 ∧ (A = none → c = 0) ∧ SeesP w (· < w.heap.size) A (Us x)
theorem InB.on {w w' : World} {A : Option Addr} {a c : Nat} {x : List UInt8} (h : InB w A a c x) (hb : Below w.heap.size w w') : InB w' A a c x := ⟨h.1, h.2.1, h.2.2.1, h.2.2.2.ony hb⟩
/-- a call that hands back n bytes -/
def GivesI (w : World) (n : Nat) (x : List UInt8) (e : Ending) (w' : World) : Prop := ∃ A c, e = .returned (.slice A n c) ∧ InB w' A n c x ∧ Below w.heap.size w w'

end Go.Proofs.YtaikoeoabgkglaaDoor
