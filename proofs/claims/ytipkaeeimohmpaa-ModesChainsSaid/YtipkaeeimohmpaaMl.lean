/-
  What is proved here: what the functions of the sixth layer answer, in the words that the statements' walks use.
-/
import Derived.Test.YtipkaeeimohmpaaMa
import Derived.Test.YtipkaeeimohmpaaMr
import Derived.Test.YtipkaeeimohmpaaRsb
namespace Go.Proofs.Ytipkaeeimohmpaa
open Go.RowKit
set_option linter.unusedVariables false

theorem lim_max {n : Nat} (h : n ≤ 140737488351300) : n ≤ maxLen := by unfold maxLen; omega
theorem same_yes {A1 A2 : Option Addr} {c1 c2 n : Nat} {x : List UInt8} {w : World} (hn : x.length = n) (hl : n ≤ 140737488351300) (h1 : SeesP w (· < w.heap.size) A1 (Us x)) (h2 : SeesP w (· < w.heap.size) A2 (Us x)) :
    Calls Try.prog 13 #[.slice A1 n c1, .slice A2 n c2] w fun e w' => e = .returned (.bool true) ∧ Below w.heap.size w w' := by
  subst hn
  exact ref_same_yes A1 A2 c1 c2 x w h1 h2 (lim_max hl)
/-- a call that hands back n bytes and a code -/
def GivesS (w : World) (n : Nat) (bs : List UInt8) (er : Int) (e : Ending) (w' : World) : Prop := ∃ A c, e = .returned (.tuple #[.slice A n c, .int .i64 er]) ∧ SeesP w' (· < w'.heap.size) A (Us bs) ∧ Below w.heap.size w w'
/-- a call that hands back n bytes -/
def MkS (w : World) (n : Nat) (bs : List UInt8) (e : Ending) (w' : World) : Prop := ∃ A c, e = .returned (.slice A n c) ∧ n ≤ c ∧ (A = none → c = 0) ∧ SeesP w' (· < w'.heap.size) A (Us bs) ∧ Below w.heap.size w w'
theorem Mk.s {w w' : World} {bs : List UInt8} {e : Ending} {n : Nat} (hn : bs.length = n) (h : Mk w bs e w') : MkS w n bs e w' := by
  subst hn
  obtain ⟨A, c, he, h1, h2, h3, h4⟩ := h
  exact ⟨A, c, he, h1, h2, h3.low, h4⟩
theorem unpad_p {l B : List UInt8} {E : Int} {A : Option Addr} {n k c : Nat} {w : World} (hn : l.length = n) (hB : unpB l = B) (hE : unpE l = E) (hk : B.length = k) (hl : n ≤ 140737488351300) (hs : SeesP w (· < w.heap.size) A (Us l)) :
    Calls Try.prog 9 #[.slice A n c] w (GivesS w k B E) := by
  subst hn hB hE hk
  exact (modes_unpad l A c w hl hs).mono fun e w' ⟨A2, c2, h1, h2, h3⟩ => ⟨A2, c2, h1, SeesP.iff_sees.2 h2, h3⟩
theorem unpad_r {l B : List UInt8} {E : Int} {A : Option Addr} {n k c : Nat} {w : World} (hn : l.length = n) (hB : unpB l = B) (hE : unpE l = E) (hk : B.length = k) (hl : n ≤ 140737488351300) (hc : n ≤ c) (hs : SeesP w (· < w.heap.size) A (Us l)) :
    Calls Try.prog 10 #[.slice A n c] w (GivesS w k B E) := by
  subst hn hB hE hk
  exact (ref_unpad6 l A c w hl hc hs).mono fun e w' ⟨A2, c2, h1, h2, h3⟩ => ⟨A2, c2, h1, SeesP.iff_sees.2 h2, h3⟩
theorem pad_r {l P : List UInt8} {A : Option Addr} {n k c : Nat} {w : World} (hn : l.length = n) (hP : padM l = P) (hk : P.length = k) (hl : n ≤ 140737488351300) (ha : A = none → c = 0) (hs : SeesP w (· < w.heap.size) A (Us l)) :
    Calls Try.prog 11 #[.slice A n c] w (MkS w k P) := by
  subst hn hP hk
  exact (ref_pad6 l A c w hl ha hs).mono fun e w' h => h.s rfl
theorem pad_p {l P : List UInt8} {A : Option Addr} {n k c : Nat} {w : World} (hn : l.length = n) (hP : padM l = P) (hk : P.length = k) (hl : n ≤ 140737488351300) (hs : SeesP w (· < w.heap.size) A (Us l)) :
    Calls Try.prog 14 #[.slice A n c] w (MkS w k P) := by
  subst hn hP hk
  exact (modes_pad l A c w hl hs).mono fun e w' ⟨g, h1, h2, h3, h4⟩ => ⟨some ⟨g, 0, none⟩, _, h1, Nat.le_refl _, (fun e => by cases e), h3.lowS, h4⟩

end Go.Proofs.Ytipkaeeimohmpaa
