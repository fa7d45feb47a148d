/-
  What is proved here: what slices.IndexFunc and the reference's Find return, for objects that lie in memory.
-/
import Derived.Test.YtipmmclahngabaaRows
import Derived.Test.YtipmmclahngabaaKit
import Derived.Test.YtipmmclahngabaaFoQ
import Derived.Test.YtipmmclahngabaaCln
namespace Go.Proofs.Ytipmmclahngabaa
open Go.RowKit
set_option linter.unusedVariables false

def IsInt (v : Int) (e : Ending) : Prop := e = .returned (.int .i64 v)
/-- the place of the first object with a tag, and that object -/
def F.fst (x : Int) : F → Option (Nat × Int × List UInt8 × F)
  | .nil => none
  | .cons t v k r => if t = x then some (0, t, v, k) else (r.fst x).map fun y => (y.1 + 1, y.2)
/-- the object at the end of a path -/
def F.at : F → List Int → Option (Int × List UInt8 × F)
  | f, [] => none
  | f, x :: ps => match f.fst x with
    | none => none
    | some (_, t, v, k) => if ps = [] then some (t, v, k) else F.at k ps

theorem fst_nil (x : Int) : F.fst x .nil = none := rfl
theorem fst_hit {x t : Int} {v : List UInt8} {k r : F} (h : t = x) : F.fst x (.cons t v k r) = some (0, t, v, k) := by simp [F.fst, h]
theorem fst_miss {x t : Int} {v : List UInt8} {k r : F} (h : t ≠ x) : F.fst x (.cons t v k r) = (F.fst x r).map fun y => (y.1 + 1, y.2) := by simp [F.fst, h]
/-- how the place is told: -1 if there is none -/
def fstI (x : Int) (f : F) (j : Nat) : Int := match F.fst x f with | none => -1 | some y => (j + y.1 : Nat)
theorem fstI_nil (x : Int) (j : Nat) : fstI x .nil j = -1 := rfl
theorem fstI_hit {x t : Int} {v : List UInt8} {k r : F} {j : Nat} (h : t = x) : fstI x (.cons t v k r) j = (j : Int) := by simp [fstI, fst_hit h]
theorem fstI_miss {x t : Int} {v : List UInt8} {k r : F} {j : Nat} (h : t ≠ x) : fstI x (.cons t v k r) j = fstI x r (j + 1) := by
  unfold fstI
  rw [fst_miss h]
  cases F.fst x r with
  | none => rfl
  | some y => simp; omega

set_option maxHeartbeats 1000000 in
theorem index_func (x : Int) (f : F) (A : Option Addr) (c g : Nat) (w : World) (p : Nat → Prop) (hok : f.ok) (hl : f.len ≤ 140737488351232) (hp : ∀ b, p b → b < w.heap.size) (hs : SeesF w p A f)
    (hg : g < w.heap.size) (hx : w.cell? ⟨g, 0, none⟩ = some (.int .i64 x)) :
    Calls Try.prog 45 #[.slice A f.len c, .func (.func 46) #[] #[.pointer (some ⟨g, 0, none⟩)]] w fun e w' => IsInt (fstI x f 0) e ∧ Below w.heap.size w w' := by
  obtain ⟨cs, s1, k1⟩ := hs
  have HS := Lib.hid (show SeesP w p A cs ∧ (∀ b, p b → b < w.heap.size) from ⟨s1, hp⟩)
  have HO := Lib.hid (show f.ok ∧ HoldsP w p f cs from ⟨hok, k1⟩)
  have HX := Lib.hid hx
  clear s1 k1 hok hp hx
  go_enter Try.func45, Try.ntmps45
  go_wp2
  go_loopw [8] (fun i wr => ∃ (j : Nat) (gg : F), j + gg.len = f.len ∧ i = .int .i64 (j : Int) ∧ Hid (gg.ok ∧ HoldsP w p gg (cs.drop (3 * j)) ∧ fstI x f 0 = fstI x gg j ∧ Below w.heap.size w wr)) (fun i _ => f.len - (intOf i).toNat)
  case atStart => exact ⟨0, f, by omega, rfl, Lib.hid ⟨HO.out.1, HO.out.2, rfl, Below.refl _ _⟩⟩
  case round =>
    clear HO
    obtain ⟨j, gg, hj, rfl, HG⟩ := hrel
    have hb := HG.out.2.2.2
    have hx := (hb.cell (p := ⟨g, 0, none⟩) hg).trans HX.out
    have hgw := Nat.lt_of_lt_of_le hg hb.size
    cases gg with
    | nil =>
      have hj2 : j = f.len := hj
      have dk : decide ((j : Int) < (f.len : Int)) = false := by simp; omega
      have H : IsInt (fstI x f 0) (.returned (.int .i64 (-1))) := by unfold IsInt; rw [HG.out.2.2.1, fstI_nil]
      have HB := Lib.hid hb
      clear hj hb hx
      go_wp2
      go_ret
      exact ⟨H, HB.out⟩
    | cons t v kk r =>
      have hj1 : j + r.len + 1 = f.len := hj
      have dk : decide ((j : Int) < (f.len : Int)) = true := by simp; omega
      obtain ⟨b, off, Av, cv, Ak, ck, rfl, hpb, x0, x1, x2, sv, sk, hr, hnv⟩ := node_at HS.out.1 HG.out.2.1
      have hbw := HS.out.2 b hpb
      have y0 := (hb.cell (p := ⟨b, off + j * 3, none⟩) hbw).trans x0
      have y1 := (hb.cell (p := ⟨b, off + j * 3 + 1, none⟩) hbw).trans x1
      have y2 := (hb.cell (p := ⟨b, off + j * 3 + 2, none⟩) hbw).trans x2
      have HR := Lib.hid (show r.ok ∧ HoldsP w p r (cs.drop (3 * (j + 1))) from ⟨HG.out.1.2.2.2, hr⟩)
      have HB := Lib.hid hb
      by_cases ht : t = x
      · have dt : (t == x) = true := by simpa using ht
        have H : IsInt (fstI x f 0) (.returned (.int .i64 (j : Int))) := by unfold IsInt; rw [HG.out.2.2.1, fstI_hit ht]
        clear hj hb x0 x1 x2 sv sk hr hnv hpb ht hbw HG
        go_wp2_with go_in
        go_ret
        exact ⟨H, HB.out.alloc HB.out.size _⟩
      · have dt : (t == x) = false := by simpa using ht
        have HE := Lib.hid (HG.out.2.2.1.trans (fstI_miss ht))
        clear hj hb x0 x1 x2 sv sk hr hnv hpb ht hbw HG
        go_wp2_with go_in
        go_roundw
        case rel => exact ⟨j + 1, r, by omega, by go_num, Lib.hid ⟨HR.out.1, HR.out.2, HE.out, HB.out.alloc HB.out.size _⟩⟩
        case measure => simp [intOf]; omega

end Go.Proofs.Ytipmmclahngabaa
