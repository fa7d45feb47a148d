/-
  What is proved here: what the reference's Same returns, for two slices of bytes that lie in memory.
-/
import Derived.Test.YtkgfdbbdmchmeaaDoorRows
import Derived.Test.YtkgfdbbdmchmeaaDoorZ0
import Derived.Test.YtkgfdbbdmchmeaaDoorZ17
import Derived.Test.YtkgfdbbdmchmeaaDoorZ1
import Derived.Test.YtkgfdbbdmchmeaaDoorZ6
import Derived.Lib.AppendZerosOnto
import Derived.Test.YtkgfdbbdmchmeaaDoorZ9
import Derived.Test.YtkgfdbbdmchmeaaDoorZ4
import Derived.Test.YtkgfdbbdmchmeaaDoorZ10
import Derived.BigQuiet
import Derived.Test.YtkgfdbbdmchmeaaDoorZ11
import Derived.Test.YtkgfdbbdmchmeaaDoorZ12
import Derived.Test.YtkgfdbbdmchmeaaDoorZ13
import Derived.ProofKit
import Derived.OpenShut
import Derived.ShutString
import Derived.ChangeOld
import Derived.SizedLaws
import Derived.Test.YtkgfdbbdmchmeaaDoorZ15
import Derived.Test.YtkgfdbbdmchmeaaDoorZ16
import Derived.Lib.Strings
import Derived.Lib.Slices
import Derived.Lib.Small
import Derived.Lib.Walk
import Derived.Lib.BitFns
import Derived.Deep.RegionWith
import Derived.Laws.ResultCell
import Derived.Laws.Rows
import Derived.Deep.CutRange
import Derived.Laws.AppendOwnNone
import Derived.Deep.RegionLaw
import Derived.Deep.AppendLies
import Derived.Maps.RangeWalk
namespace Go.Proofs.YtkgfdbbdmchmeaaDoor
open Go.RowKit
theorem ref_same_b (A1 A2 : Option Addr) (c1 c2 : Nat) (x y : List UInt8) (w : World) (h1 : Sees w w.heap.size A1 (Us x)) (h2 : Sees w w.heap.size A2 (Us y)) (m1 : x.length ≤ maxLen) :
    Calls Tryd.prog 22 #[.slice A1 x.length c1, .slice A2 y.length c2] w fun e w' => e = .returned (.bool (sameB x y)) ∧ Below w.heap.size w w' :=
  (ref_same A1 A2 c1 c2 _ _ x y w _ h1 h2 rfl rfl m1).mono fun _ _ ⟨he, d, hw⟩ => ⟨he, by rw [hw]; exact below_drewN _ _ _⟩
theorem ref_same_yes (A1 A2 : Option Addr) (c1 c2 : Nat) (x : List UInt8) (w : World) (h1 : Sees w w.heap.size A1 (Us x)) (h2 : Sees w w.heap.size A2 (Us x)) (m1 : x.length ≤ maxLen) :
    Calls Tryd.prog 22 #[.slice A1 x.length c1, .slice A2 x.length c2] w fun e w' => e = .returned (.bool true) ∧ Below w.heap.size w w' := by
  have h := ref_same_b A1 A2 c1 c2 x x w h1 h2 m1
  rw [sameB_true rfl] at h
  exact h
end Go.Proofs.YtkgfdbbdmchmeaaDoor
namespace Go.Proofs.YtkgfdbbdmchmeaaDoor
section
open Go.RowKit
set_option linter.unusedVariables false
end
section
open Go.RowKit
end
section
open Go.RowKit
end
section
open Go.RowKit
end
section
open Go.RowKit
end
section
open Go.RowKit
end
section
open Go.RowKit
section
variable {w0 w w' : World} {B g k k' cap N : Nat} {l l' : List UInt8} {a b c : Value}
end
end
section
open Go.RowKit
end
section
open Go.RowKit
end
section
open Go.RowKit
end
section
open Go.RowKit
end
section
open Go.RowKit
def Held_Bb (w wr : World) (v : Value) (f : F) : Prop := ∃ cs, wr.ownsRow w.heap.size 50 3 v f.len cs ∧ HoldsP wr (fun b => newB w wr b ∧ v.ownBlock ≠ some b) f cs
theorem Held_Bb.start (w wr : World) : Held_Bb w wr (.slice none 0 0) .nil := ⟨[], ⟨rfl, .inl ⟨rfl, rfl⟩⟩, rfl⟩
theorem Held_Bb.grown {w wr w' : World} {R : Nat} {v : Value} {f : F} (h : Held_Bb w wr v f) (hR : R < w.heap.size) (hg : wr.grownBy w' (some R)) : Held_Bb w w' v f := by
  obtain ⟨cs, h1, h2⟩ := h
  refine ⟨cs, own_far h1 hg ?_, ?_⟩
  · rcases own_size3 h1 with e | ⟨g, e, hb, _⟩
    · rw [e]; simp
    · rw [e]; intro h; injection h with h; omega
  · refine HoldsP.imp (fun _ hb => ⟨⟨hb.1.1, Nat.lt_of_lt_of_le hb.1.2 hg.size⟩, hb.2⟩) (HoldsP.keep (fun _ hq => grown_cell hg hq.1.2 (by have := hq.1.1; omega)) h2)
theorem Held_Bb.slice {w wr : World} {v : Value} {f : F} (h : Held_Bb w wr v f) : ∃ A c, v = .slice A f.len c ∧ SeesF wr (newB w wr) A f := by
  obtain ⟨cs, h1, h2⟩ := h
  rcases h1.2 with ⟨rfl, h0⟩ | ⟨g, cap, cur, rfl, hb, hh, hn, hm, hs, ht⟩
  · have : f = .nil := F.len_zero h0
    subst this
    exact ⟨none, 0, rfl, SeesF.nil_⟩
  · refine ⟨_, cap, rfl, cs, .inr ⟨g, 0, rfl, ⟨hb, lt_of_block hh⟩, fun j hj => ?_⟩, HoldsP.imp (fun _ hb => hb.1) h2⟩
    have hl := h1.1
    rw [Nat.zero_add, cell_of_row wr g j cur _ (0, 0) hh, ← ht, List.getElem?_take, if_pos (by omega), Array.getElem?_toList]
theorem Held_Bb.carry {w wr w' : World} {R : Nat} {v : Value} {f : F} {cs : List Value} (hR : R < w.heap.size) (hg : wr.grownBy w' (some R)) (h1 : wr.ownsRow w.heap.size 50 3 v f.len cs) (h2 : HoldsP wr (fun b => newB w wr b ∧ v.ownBlock ≠ some b) f cs) :
    w'.ownsRow w.heap.size 50 3 v f.len cs ∧ HoldsP w' (fun b => newB w wr b ∧ v.ownBlock ≠ some b) f cs := by
  refine ⟨own_far h1 hg ?_, HoldsP.keep (fun _ hq => grown_cell hg hq.1.2 (by have := hq.1.1; omega)) h2⟩
  rcases own_size3 h1 with e | ⟨g, e, hb, _⟩
  · rw [e]; simp
  · rw [e]; intro h; injection h with h; omega
theorem Held_Bb.snoc {w wr w1 wa w2 : World} {v : Value} {f : F} {t : Int} {x : List UInt8} {k : F} {Av Ak : Option Addr} {cv ck g cap : Nat} (h01 : wr.heap.size ≤ w1.heap.size) (ha : Below w1.heap.size w1 wa)
    (hn0 : Av = none → cv = 0) (hv : SeesP w1 (newB wr w1) Av (Us x)) (hk : SeesF w1 (newB wr w1) Ak k) (hww : w.heap.size ≤ wr.heap.size)
    (hold : v.ownBlock = none ∨ ∃ g, v.ownBlock = some g ∧ w.heap.size ≤ g ∧ g < wr.heap.size) (cs : List Value) (hc2 : HoldsP w1 (fun b => newB w wr b ∧ v.ownBlock ≠ some b) f cs)
    (ho : w2.ownsRow w.heap.size 50 3 (.slice (some ⟨g, 0, none⟩) (f.len + 1) cap) (f.len + 1) (cs ++ [.int .i64 t, .slice Av x.length cv, .slice Ak k.len ck])) (hg : wa.grownBy w2 v.ownBlock)
    (hl : v.ownBlock = some g ∨ g = wa.heap.size) : Held_Bb w w2 (.slice (some ⟨g, 0, none⟩) (f.len + 1) cap) (f.app (.cons t x k .nil)) := by
  have keep : ∀ q : Addr, q.block < w1.heap.size → v.ownBlock ≠ some q.block → w2.cell? q = w1.cell? q := fun q h1 h2 =>
    (World.cell?_of_block (w := wa) (hg.block q.block (Nat.lt_of_lt_of_le h1 ha.size) (fun e => h2 e.symm))).trans (ha.cell h1)
  have hsz : w1.heap.size ≤ w2.heap.size := Nat.le_trans ha.size hg.size
  have hwa := ha.size
  refine ⟨_, by rw [F.len_app]; exact ho, HoldsP.app ?_ ?_⟩
  · refine HoldsP.imp ?_ (HoldsP.keep (w' := w2) (fun q hq => keep q (Nat.lt_of_lt_of_le hq.1.2 h01) hq.2) hc2)
    intro b hb
    have h4 := hb.1.2
    refine ⟨⟨hb.1.1, by omega⟩, ?_⟩
    intro e
    injection e with e
    simp only at e
    rcases hl with h3 | h3
    · exact hb.2 (h3.trans (by rw [e]))
    · omega
  · have hp : ∀ b, newB wr w1 b → newB w w2 b ∧ (Value.slice (some ⟨g, 0, none⟩) (f.len + 1) cap).ownBlock ≠ some b := by
      intro b hb
      have h5 := hb.1
      have h6 := hb.2
      refine ⟨⟨by omega, by omega⟩, ?_⟩
      intro e
      injection e with e
      simp only at e
      rcases hl with h3 | h3
      · rcases hold with h4 | ⟨g2, h4, _, h7⟩
        · rw [h4] at h3; cases h3
        · rw [h4] at h3; injection h3 with h3; omega
      · omega
    have kp : ∀ q : Addr, newB wr w1 q.block → w2.cell? q = w1.cell? q := by
      intro q hq
      refine keep q hq.2 ?_
      have h5 := hq.1
      rcases hold with h4 | ⟨g2, h4, _, h7⟩
      · rw [h4]; simp
      · rw [h4]; intro e; injection e with e; omega
    obtain ⟨ks, hk1, hk2⟩ := hk
    exact ⟨Av, cv, Ak, ck, ks, [], rfl, hn0, (hv.keep kp).imp hp, (hk1.keep kp).imp hp, HoldsP.imp hp (HoldsP.keep kp hk2), rfl⟩
end
section
open Go.RowKit
set_option linter.unusedVariables false
end
section
open Go.RowKit
set_option linter.unusedVariables false
end
section
open Go.RowKit
set_option linter.unusedVariables false
end
section
open Go.RowKit
set_option linter.unusedVariables false
end
section
open Go.ChangeShapes Go.WideShapes Go.ChangeAt Go.RowKit
variable {H : Type} {enc : TypeId × Value → H} {W : World}
end
section
open Go.ChangeShapes Go.WideShapes Go.ChangeAt Go.RowKit
variable {H : Type} {enc : TypeId × Value → H} {W : World}
end
section
open Go.ChangeShapes Go.WideShapes Go.ChangeAt Go.RowKit
variable {H : Type} {enc : TypeId × Value → H} {W : World}
end
section
open Go.RowKit
end
section
open Go.RowKit
set_option linter.unusedVariables false
end
section
open Go.RowKit
set_option linter.unusedVariables false
end
section
open Go.RowKit
set_option linter.unusedVariables false
end
section
open Go.RowKit
set_option linter.unusedVariables false
end
section
open Go.RowKit
set_option linter.unusedVariables false
end
end Go.Proofs.YtkgfdbbdmchmeaaDoor
namespace Go.Proofs.YtkgfdbbdmchmeaaDoor
open Go.RowKit
set_option linter.unusedVariables false
structure Tm where
  k : Int
  p : Int
  f : Int
  t : Int
  fo : Int
  q : Int
  d : List UInt8
instance : Inhabited Tm := ⟨⟨0, 0, 0, 0, 0, 0, []⟩⟩
def Tm.cs (x : Tm) (A : Option Addr) (c : Nat) : List Value := [.int .i64 x.k, .int .i64 x.p, .int .i64 x.f, .int .i64 x.t, .int .i64 x.fo, .int .i64 x.q, .slice A x.d.length c]
def partB (k p : Int) : Bool := (decide (k = 1) && decide (p = 0)) || (decide (k = 2) && (decide (1 ≤ p) && decide (p ≤ 10))) || (decide (k = 3) && (decide (1 ≤ p) && decide (p ≤ 2)))
def dateT (f t : Int) : Bool := dayB f && (dayB t && decide (f ≤ t))
def rangT (fo q : Int) : Bool := (decide (0 ≤ fo) && decide (fo ≤ 65535)) && (decide (0 ≤ q) && decide (q ≤ 100))
def sizeT (n : Nat) : Bool := decide (1 ≤ n) && decide (n ≤ 1024)
def vT (x : Tm) : Int := if partB x.k x.p = false then 14 else if dateT x.f x.t = false then 8 else if rangT x.fo x.q = false then 3 else if sizeT x.d.length = false then 2 else 0
def chkT : List Tm → Int
  | [] => 0
  | x :: r => if vT x = 0 then chkT r else vT x
def encE_Bp (l : List Tm) : Int := if l.length < 1 ∨ 8 < l.length then 2 else chkT l
def hdrTags : List (Int × Nat) := [(129, 1), (130, 1), (131, 4), (132, 4), (133, 1), (136, 2)]
def numT : List (Int × Nat) → F → Option (List Nat)
  | [], .nil => some []
  | (t, s) :: r, .cons t' v k g => if t' = t ∧ k.len = 0 ∧ v.length = s then (numT r g).map (numL v :: ·) else none
  | _, _ => none
def tmOf (n : List Nat) (d : List UInt8) : Tm := ⟨n.getD 0 0, n.getD 1 0, n.getD 2 0, n.getD 3 0, n.getD 5 0, n.getD 4 0, d⟩
def hdrT (t : Int) (v : List UInt8) (k : F) : Option (List Nat) := if t = 161 ∧ v.length = 0 then numT hdrTags k else none
def tmT (t : Int) (v : List UInt8) : F → Option Tm
  | .cons th vh kh (.cons td vd kd .nil) => if t = 32608 ∧ v.length = 0 ∧ td = 24366 ∧ kd.len = 0 then (hdrT th vh kh).map (tmOf · vd) else none
  | _ => none
def tmsT : F → Option (List Tm)
  | .nil => some []
  | .cons t v k r => match tmT t v k with
    | none => none
    | some x => (tmsT r).map (x :: ·)
def lstT : F → Option (List Tm)
  | .cons t v (.cons tc vc kc g) .nil => if t = 32609 ∧ v.length = 0 ∧ tc = 2 ∧ kc.len = 0 ∧ vc.length = 1 ∧ numL vc = g.len then tmsT g else none
  | _ => none
def decE (f : F) : Int := match lstT f with
  | none => 1
  | some l => encE_Bp l
def decV (f : F) : List Tm := match lstT f with
  | none => []
  | some l => if encE_Bp l = 0 then l else []
def TmIn (w : World) (p : Nat → Prop) (vs : List Value) (k : Nat) (x : Tm) : Prop :=
  ∃ A c, ((A = none → c = 0) ∧ x.d.length ≤ c) ∧ SeesP w p A (Us x.d) ∧ ∀ j, j < 7 → vs[k * 7 + j]? = (x.cs A c)[j]?
def TmsIn (w : World) (p : Nat → Prop) (vs : List Value) (l : List Tm) : Prop := vs.length = 7 * l.length ∧ ∀ (k : Nat) (x : Tm), l[k]? = some x → TmIn w p vs k x
def SeesT (w : World) (p : Nat → Prop) (A : Option Addr) (l : List Tm) : Prop := ∃ vs, SeesP w p A vs ∧ TmsIn w p vs l
section
variable {w w' : World} {p p' : Nat → Prop} {A : Option Addr} {vs : List Value} {l : List Tm} {k : Nat} {x : Tm}
theorem TmIn.keep (h : TmIn w p vs k x) (hk : ∀ q : Addr, p q.block → w'.cell? q = w.cell? q) : TmIn w' p vs k x := by
  obtain ⟨A, c, h0, h1, h2⟩ := h
  exact ⟨A, c, h0, h1.keep hk, h2⟩
theorem TmIn.imp (h : TmIn w p vs k x) (hp : ∀ b, p b → p' b) : TmIn w p' vs k x := by
  obtain ⟨A, c, h0, h1, h2⟩ := h
  exact ⟨A, c, h0, h1.imp hp, h2⟩
theorem TmsIn.keep (h : TmsIn w p vs l) (hk : ∀ q : Addr, p q.block → w'.cell? q = w.cell? q) : TmsIn w' p vs l := ⟨h.1, fun k x hx => (h.2 k x hx).keep hk⟩
theorem TmsIn.imp (h : TmsIn w p vs l) (hp : ∀ b, p b → p' b) : TmsIn w p' vs l := ⟨h.1, fun k x hx => (h.2 k x hx).imp hp⟩
theorem SeesT.keep (h : SeesT w p A l) (hk : ∀ q : Addr, p q.block → w'.cell? q = w.cell? q) : SeesT w' p A l := by
  obtain ⟨cs, h1, h2⟩ := h
  exact ⟨cs, h1.keep hk, h2.keep hk⟩
theorem SeesT.imp (h : SeesT w p A l) (hp : ∀ b, p b → p' b) : SeesT w p' A l := by
  obtain ⟨cs, h1, h2⟩ := h
  exact ⟨cs, h1.imp hp, h2.imp hp⟩
theorem SeesT.on (h : SeesT w (· < w.heap.size) A l) (hb : Below w.heap.size w w') : SeesT w' (· < w'.heap.size) A l :=
  (h.keep fun _ hq => hb.cell hq).imp fun _ hb2 => Nat.lt_of_lt_of_le hb2 hb.size
theorem SeesT.nil_ : SeesT w p A [] := ⟨[], .inl rfl, rfl, fun k x h => by simp at h⟩
theorem TmsIn.nil_ : TmsIn w p [] [] := ⟨rfl, fun k x h => by simp at h⟩
theorem TmsIn.snoc {Ad : Option Addr} {c : Nat} (h : TmsIn w p vs l) (h0 : (Ad = none → c = 0) ∧ x.d.length ≤ c) (hs : SeesP w p Ad (Us x.d)) : TmsIn w p (vs ++ x.cs Ad c) (l ++ [x]) := by
  refine ⟨by simp [h.1, Tm.cs]; omega, fun k y hy => ?_⟩
  rw [List.getElem?_append] at hy
  split at hy
  · rename_i hk
    obtain ⟨A', c', g0, g1, g2⟩ := h.2 k y hy
    refine ⟨A', c', g0, g1, fun j hj => ?_⟩
    rw [List.getElem?_append, if_pos (by rw [h.1]; omega)]
    exact g2 j hj
  · rename_i hk
    have h1 : k - l.length = 0 := by
      have := (List.getElem?_eq_some_iff.1 hy).1
      simpa using this
    rw [h1] at hy
    injection hy with hy
    subst hy
    refine ⟨Ad, c, h0, hs, fun j hj => ?_⟩
    rw [List.getElem?_append, if_neg (by rw [h.1]; omega), h.1]
    congr 1
    omega
end
end Go.Proofs.YtkgfdbbdmchmeaaDoor
namespace Go.Proofs.YtkgfdbbdmchmeaaDoor
open Go.RowKit
set_option linter.unusedVariables false
def Own (w cur : World) (L : List (Nat × List Value)) : Prop :=
  Below w.heap.size w cur ∧ (∀ (i g : Nat) (vs : List Value), L[i]? = some (g, vs) → w.heap.size ≤ g ∧ RowV cur g vs) ∧ ∀ (i j g g' : Nat) (vs vs' : List Value), L[i]? = some (g, vs) → L[j]? = some (g', vs') → i ≠ j → g ≠ g'
section
variable {w cur cur' : World} {L : List (Nat × List Value)} {i g : Nat} {vs us : List Value}
theorem Own.start (w : World) : Own w w [] := ⟨Below.refl _ _, fun i g vs h => by simp at h, fun i j g g' vs vs' h => by simp at h⟩
theorem Own.bl (h : Own w cur L) : Below w.heap.size w cur := h.1
theorem Own.row (h : Own w cur L) (e : L[i]? = some (g, vs)) : RowV cur g vs := (h.2.1 i g vs e).2
theorem Own.ge (h : Own w cur L) (e : L[i]? = some (g, vs)) : w.heap.size ≤ g := (h.2.1 i g vs e).1
theorem Own.on (h : Own w cur L) (hb : Below cur.heap.size cur cur') : Own w cur' L :=
  ⟨below_on h.1 hb, fun i g vs e => ⟨h.ge e, (h.row e).on hb⟩, h.2.2⟩
theorem Own.new (h : Own w cur L) (hf : Fresh cur cur' g) (hr : RowV cur' g vs) : Own w cur' (L ++ [(g, vs)]) := by
  have hlt : ∀ (i g' : Nat) (vs' : List Value), L[i]? = some (g', vs') → g' ≠ g := fun i g' vs' e => (h.row e).ne hf
  refine ⟨hf.bl h.1, fun i g' vs' e => ?_, fun i j g1 g2 v1 v2 e1 e2 hne => ?_⟩
  · rw [List.getElem?_append] at e
    split at e
    · exact ⟨h.ge e, (h.row e).fresh hf⟩
    · have e' : g' = g ∧ vs' = vs := by
        rcases hk : i - L.length with _ | k
        · rw [hk] at e; simp at e; exact ⟨e.1.symm, e.2.symm⟩
        · rw [hk] at e; simp at e
      obtain ⟨rfl, rfl⟩ := e'
      exact ⟨hf.ge h.1, hr⟩
  · rw [List.getElem?_append] at e1 e2
    have key : ∀ (k : Nat) (x : Nat) (y : List Value), [(g, vs)][k]? = some (x, y) → k = 0 ∧ x = g := by
      intro k x y e
      rcases k with _ | k
      · simp at e; exact ⟨rfl, e.1.symm⟩
      · simp at e
    split at e1 <;> split at e2
    · exact h.2.2 i j g1 g2 v1 v2 e1 e2 hne
    · obtain ⟨_, rfl⟩ := key _ _ _ e2; exact hlt i g1 v1 e1
    · obtain ⟨_, rfl⟩ := key _ _ _ e1; exact (hlt j g2 v2 e2).symm
    · have := (key _ _ _ e1).1; have := (key _ _ _ e2).1; omega
theorem Own.set (h : Own w cur L) (e : L[i]? = some (g, vs)) (hw : Wr cur cur' g) (hr : RowV cur' g us) : Own w cur' (L.set i (g, us)) := by
  have hlt : i < L.length := (List.getElem?_eq_some_iff.1 e).1
  have key : ∀ (j x : Nat) (y : List Value), (L.set i (g, us))[j]? = some (x, y) → (j = i ∧ x = g ∧ y = us) ∨ (j ≠ i ∧ L[j]? = some (x, y)) := by
    intro j x y hj
    by_cases hji : j = i
    · subst hji
      rw [List.getElem?_set_self hlt] at hj
      injection hj with hj
      injection hj with h1 h2
      exact .inl ⟨rfl, h1.symm, h2.symm⟩
    · rw [List.getElem?_set_ne (Ne.symm hji)] at hj
      exact .inr ⟨hji, hj⟩
  refine ⟨Wr.bl h.1 hw (h.ge e), fun j g' vs' hj => ?_, fun j k g1 g2 v1 v2 e1 e2 hne => ?_⟩
  · rcases key j g' vs' hj with ⟨rfl, rfl, rfl⟩ | ⟨hne, hj⟩
    · exact ⟨h.ge e, hr⟩
    · exact ⟨h.ge hj, (h.row hj).wr hw (h.2.2 j i g' g vs' vs hj e hne)⟩
  · rcases key j g1 v1 e1 with ⟨rfl, rfl, rfl⟩ | ⟨hn1, f1⟩ <;> rcases key k g2 v2 e2 with ⟨rfl, rfl, rfl⟩ | ⟨hn2, f2⟩
    · exact absurd rfl hne
    · exact h.2.2 _ _ _ _ _ _ e f2 hne
    · exact h.2.2 _ _ _ _ _ _ f1 e hne
    · exact h.2.2 _ _ _ _ _ _ f1 f2 hne
end
theorem at_box_ {P : Program} {ops : Array Oper} {rest : List Oper} {a : Act} {w : World} {Q : Exit → Act → World → Prop} {d : Nat} {x : Operand} {ty t : TypeId} {ps : String} {af : Array Edge} {gd : Option (Nat × Bool)} (h : wpList P ops Q (⟨some d, .box ty x, t, ps, af, gd⟩ :: rest) a w) : wpList P ops Q (⟨some d, .box ty x, t, ps, af, gd⟩ :: rest) a w := h
theorem RowV.up {w : World} {g : Nat} {vs : List Value} (h : RowV w g vs) : ∀ w', (∃ p : Regrown, w' = Go.Sort.grow (redrawn w p.d) p.os) → RowV w' g vs := fun w' hw => h.on (below_of_regrown hw)
end Go.Proofs.YtkgfdbbdmchmeaaDoor
