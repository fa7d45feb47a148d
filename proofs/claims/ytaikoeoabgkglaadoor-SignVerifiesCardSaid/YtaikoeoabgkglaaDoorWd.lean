/-
  What is proved here: the digest's words as plain functions (the schedule, a round, the block's step), and the reference's Same and First.
-/
import Derived.Test.YtaikoeoabgkglaaDoorW32
import Derived.Test.YtaikoeoabgkglaaDoorAp
import Derived.BigQuiet
namespace Go.Proofs.YtaikoeoabgkglaaDoor
open Go.RowKit
set_option linter.unusedVariables false

def kT : List UInt32 := [0x428a2f98, 0x71374491, 0xb5c0fbcf, 0xe9b5dba5, 0x3956c25b, 0x59f111f1, 0x923f82a4, 0xab1c5ed5,
  0xd807aa98, 0x12835b01, 0x243185be, 0x550c7dc3, 0x72be5d74, 0x80deb1fe, 0x9bdc06a7, 0xc19bf174,
  0xe49b69c1, 0xefbe4786, 0x0fc19dc6, 0x240ca1cc, 0x2de92c6f, 0x4a7484aa, 0x5cb0a9dc, 0x76f988da,
  0x983e5152, 0xa831c66d, 0xb00327c8, 0xbf597fc7, 0xc6e00bf3, 0xd5a79147, 0x06ca6351, 0x14292967,
  0x27b70a85, 0x2e1b2138, 0x4d2c6dfc, 0x53380d13, 0x650a7354, 0x766a0abb, 0x81c2c92e, 0x92722c85,
  0xa2bfe8a1, 0xa81a664b, 0xc24b8b70, 0xc76c51a3, 0xd192e819, 0xd6990624, 0xf40e3585, 0x106aa070,
  0x19a4c116, 0x1e376c08, 0x2748774c, 0x34b0bcb5, 0x391c0cb3, 0x4ed8aa4a, 0x5b9cca4f, 0x682e6ff3,
  0x748f82ee, 0x78a5636f, 0x84c87814, 0x8cc70208, 0x90befffa, 0xa4506ceb, 0xbef9a3f7, 0xc67178f2]
/-- a word out of four bytes -/
def packW (a b c d : UInt8) : UInt32 := UInt32.ofNat (16777216 * a.toNat + 65536 * b.toNat + 256 * c.toNat + d.toNat)
def wAt (b : List UInt8) (t : Nat) : UInt32 := packW (b.getD (4 * t) 0) (b.getD (4 * t + 1) 0) (b.getD (4 * t + 2) 0) (b.getD (4 * t + 3) 0)
def sm0 (x : UInt32) : UInt32 := rotW x 7 ^^^ rotW x 18 ^^^ (x >>> 3)
def sm1 (x : UInt32) : UInt32 := rotW x 17 ^^^ rotW x 19 ^^^ (x >>> 10)
def nextW (l : List UInt32) (t : Nat) : UInt32 := sm1 (l.getD (t - 2) 0) + l.getD (t - 7) 0 + sm0 (l.getD (t - 15) 0) + l.getD (t - 16) 0
/-- the first t words of the schedule -/
def sch (b : List UInt8) : Nat → List UInt32
  | 0 => []
  | t + 1 => sch b t ++ [if t < 16 then wAt b t else nextW (sch b t) t]
theorem sch_length (b : List UInt8) : ∀ t, (sch b t).length = t
  | 0 => rfl
  | t + 1 => by simp [sch, sch_length b t]
structure S8 where
  a : UInt32
  b : UInt32
  c : UInt32
  d : UInt32
  e : UInt32
  f : UInt32
  g : UInt32
  h : UInt32
def t1W (k w : UInt32) (s : S8) : UInt32 := s.h + (rotW s.e 6 ^^^ rotW s.e 11 ^^^ rotW s.e 25) + ((s.e &&& s.f) ^^^ (~~~s.e &&& s.g)) + k + w
def t2W (s : S8) : UInt32 := (rotW s.a 2 ^^^ rotW s.a 13 ^^^ rotW s.a 22) + ((s.a &&& s.b) ^^^ (s.a &&& s.c) ^^^ (s.b &&& s.c))
def rndW (k w : UInt32) (s : S8) : S8 := ⟨t1W k w s + t2W s, s.a, s.b, s.c, s.d + t1W k w s, s.e, s.f, s.g⟩
def runW (ws : List UInt32) (s : S8) : Nat → S8
  | 0 => s
  | t + 1 => rndW (kT.getD t 0) (ws.getD t 0) (runW ws s t)
def S8.of (l : List UInt32) : S8 := ⟨l.getD 0 0, l.getD 1 0, l.getD 2 0, l.getD 3 0, l.getD 4 0, l.getD 5 0, l.getD 6 0, l.getD 7 0⟩
def S8.out (s t : S8) : List UInt32 := [s.a + t.a, s.b + t.b, s.c + t.c, s.d + t.d, s.e + t.e, s.f + t.f, s.g + t.g, s.h + t.h]
/-- the state behind a block -/
def comp (st : List UInt32) (b : List UInt8) : List UInt32 := (S8.of st).out (runW (sch b 64) (S8.of st) 64)
def firstW : List UInt32 := [0x6a09e667, 0xbb67ae85, 0x3c6ef372, 0xa54ff53a, 0x510e527f, 0x9b05688c, 0x1f83d9ab, 0x5be0cd19]

theorem ws_get {l : List UInt32} {k : Nat} (h : k < l.length) : (Ws l)[k]? = some (.int .u32 (l[k].toNat : Int)) := by simp [Ws, W, h]
theorem sees_word {w : World} {p : Nat → Prop} {A : Option Addr} {l : List UInt32} {k : Nat} (h : SeesP w p A (Ws l)) (hk : k < l.length) :
    ∃ b off, A = some ⟨b, off, none⟩ ∧ p b ∧ w.cell? ⟨b, off + k, none⟩ = some (.int .u32 (l[k].toNat : Int)) := by
  rcases h with h | ⟨b, off, e, hp, hc⟩
  · have := congrArg List.length h; rw [Ws_length] at this; simp at this; subst this; simp at hk
  · exact ⟨b, off, e, hp, (hc k (by rw [Ws_length]; exact hk)).trans (ws_get hk)⟩

/-- words of the call's own -/
def MkW (w : World) (l : List UInt32) (e : Ending) (w' : World) : Prop := ∃ A c, e = .returned (.slice A l.length c) ∧ l.length ≤ c ∧ (A = none → c = 0) ∧ SeesP w' (fun b => w.heap.size ≤ b ∧ b < w'.heap.size) A (Ws l) ∧ Below w.heap.size w w'
theorem ref_first (w : World) : Calls Tryd.prog 45 #[] w (MkW w firstW) := by
  go_enter Tryd.func45, Tryd.ntmps45
  go_wp2
  go_ret
  refine ⟨some ⟨w.heap.size, 0, none⟩, 8, rfl, by decide, (fun e => by cases e), .inr ⟨_, 0, rfl, ⟨Nat.le_refl _, by simp⟩, fun j hj => ?_⟩, (Below.refl _ _).alloc (Nat.le_refl _) _⟩
  rw [Nat.zero_add, cell_of_row _ w.heap.size j _ _ (0, 0) (heap_alloc_new w _), ← Array.getElem?_toList]
  exact congrArg (fun (m : List Value) => m[j]?) (show _ = Ws firstW from rfl)

end Go.Proofs.YtaikoeoabgkglaaDoor
