/-
  What is proved here: plain words for security infos: which are valid, their object, what objects are those of infos, which is chosen, which are missing; and how they lie in memory. Nothing of the program's functions is used.
-/
import Derived.Test.YtcapbojjceeapaaDoorRows
import Derived.Test.YtcapbojjceeapaaDoorWG1
import Derived.Test.YtcapbojjceeapaaDoorWG3
import Derived.Test.YtcapbojjceeapaaDoorWG5
import Derived.Test.YtcapbojjceeapaaDoorWG4
import Derived.Test.YtcapbojjceeapaaDoorWG6
import Derived.Test.YtcapbojjceeapaaDoorWG7
import Derived.BigQuiet
import Derived.Lib.Strings
import Derived.Lib.Slices
import Derived.Lib.Small
import Derived.Lib.Walk
import Derived.Lib.BitFns
import Derived.Deep.RegionWith
import Derived.Laws.ResultCell
import Derived.Laws.Rows
import Derived.ProofKit
import Derived.OpenShut
import Derived.ShutString
import Derived.ChangeOld
import Derived.SizedLaws
import Derived.Deep.CutRange
import Derived.Laws.AppendOwnNone
import Derived.Deep.RegionLaw
import Derived.Deep.AppendLies
import Derived.Lib.AppendZerosOnto
import Derived.Deep.DeepMust
namespace Go.Proofs.YtcapbojjceeapaaDoor
open Go.RowKit
set_option maxRecDepth 8000
set_option linter.unusedVariables false
structure Im where
  p : Int
  v : Int
  a : Int
  k : Int
  i : Int
def zerI : Im := ⟨0, 0, 0, 0, 0⟩
instance : Inhabited Im := ⟨zerI⟩
def Im.cs (x : Im) : List Value := [.int .i64 x.p, .int .i64 x.v, .int .i64 x.a, .int .i64 x.k, .int .i64 x.i]
def Ics : List Im → List Value
  | [] => []
  | x :: r => x.cs ++ Ics r
theorem Im.cs_len (x : Im) : x.cs.length = 5 := rfl
theorem Im.cs_one (x : Im) : ∀ u ∈ x.cs, u.oneCell' = true := by
  intro u hu
  simp only [Im.cs, List.mem_cons, List.not_mem_nil, or_false] at hu
  rcases hu with rfl | rfl | rfl | rfl | rfl <;> rfl
theorem Ics_len : ∀ l : List Im, (Ics l).length = 5 * l.length
  | [] => rfl
  | x :: r => by simp only [Ics, List.length_append, List.length_cons, Im.cs_len]; rw [Ics_len r]; omega
theorem Ics_app : ∀ a b : List Im, Ics (a ++ b) = Ics a ++ Ics b
  | [], b => rfl
  | x :: r, b => by simp only [List.cons_append, Ics]; rw [Ics_app r b, List.append_assoc]
theorem Ics_one : ∀ l : List Im, ∀ u ∈ Ics l, u.oneCell' = true
  | [], u, hu => by cases hu
  | x :: r, u, hu => by
    rcases List.mem_append.1 hu with h | h
    · exact x.cs_one u h
    · exact Ics_one r u h
theorem Ics_snoc (l : List Im) (x : Im) : Ics (l ++ [x]) = Ics l ++ x.cs := by rw [Ics_app]; simp [Ics]
theorem Ics_get : ∀ {l : List Im} {j : Nat} {x : Im}, l[j]? = some x → ∀ i, i < 5 → (Ics l)[j * 5 + i]? = x.cs[i]?
  | [], j, x, h => by simp at h
  | y :: r, 0, x, h => by
    intro i hi
    have : y = x := by simpa using h
    subst this
    rw [Ics, Nat.zero_mul, Nat.zero_add, List.getElem?_append, if_pos (by rw [Im.cs_len]; exact hi)]
  | y :: r, j + 1, x, h => by
    intro i hi
    have h : r[j]? = some x := by simpa using h
    rw [Ics, List.getElem?_append, if_neg (by rw [Im.cs_len]; omega), Im.cs_len, show (j + 1) * 5 + i - 5 = j * 5 + i by omega]
    exact Ics_get h i hi
section
variable {w w' : World} {p p' : Nat → Prop} {A : Option Addr} {l : List Im} {x : Im} {j : Nat}
theorem im_at (h : SeesP w p A (Ics l)) (hx : l[j]? = some x) : ∃ b off, A = some ⟨b, off, none⟩ ∧ p b ∧ w.rangeAt b (off + j * 5) x.cs := by
  have hj := (List.getElem?_eq_some_iff.1 hx).1
  rcases h with h | ⟨b, off, rfl, hb, hc⟩
  · have := Ics_len l
    rw [h] at this
    simp at this
    omega
  · refine ⟨b, off, rfl, hb, fun i u hu => ?_⟩
    have hi : i < 5 := by
      have := (List.getElem?_eq_some_iff.1 hu).1
      simpa [Im.cs] using this
    rw [Nat.add_assoc, hc _ (by rw [Ics_len]; omega), Ics_get hx i hi, hu]
theorem Ics_take (l : List Im) : ∀ j, Ics (l.take j) = (Ics l).take (5 * j) := by
  induction l with
  | nil => intro j; simp [Ics]
  | cons y r ih =>
    intro j
    cases j with
    | zero => simp [Ics]
    | succ j =>
      simp only [List.take_succ_cons, Ics]
      rw [ih j, List.take_append, Im.cs_len, List.take_of_length_le (l := y.cs) (by rw [Im.cs_len]; omega), show 5 * (j + 1) - 5 = 5 * j by omega]
end
def pwB (p : Int) : Bool := decide (p = 2) || decide (p = 3)
def parB (x : Im) : Bool := if pwB x.p = true then decide (0 ≤ x.a) && decide (x.a ≤ 31) else decide (x.a = 0)
def kidB (x : Im) : Bool := if x.p = 4 then decide (0 ≤ x.i) && decide (x.i ≤ 255) else decide (x.i = 0)
def keyB (x : Im) : Bool := if x.p = 4 then elB x.k else decide (x.k = 0)
def rngI (x : Im) : Bool := (decide (1 ≤ x.v) && decide (x.v ≤ 255)) && (parB x && kidB x)
def oneI (x : Im) : Int := if x.p < 2 ∨ 6 < x.p then 14 else if rngI x = false then 3 else if keyB x = false then 10 else 0
def behB (x y : Im) : Bool := decide (y.p < x.p) || (decide (x.p = y.p) && decide (y.i < x.i))
def ordB (x : Im) : Option Im → Bool
  | none => true
  | some y => behB x y
def chkI : Option Im → List Im → Int
  | _, [] => 0
  | q, x :: r => if oneI x ≠ 0 then oneI x else if ordB x q = false then 17 else chkI (some x) r
def vaE (l : List Im) : Int := if 16 < l.length then 2 else chkI none l
def preI (l : List Im) (j : Nat) : Option Im := if j = 0 then none else l[j - 1]?
theorem preI_next {l : List Im} {j : Nat} {x : Im} (h : l[j]? = some x) : preI l (j + 1) = some x := by simp [preI, h]
theorem chkI_drop {l : List Im} {j : Nat} {x : Im} (h : l[j]? = some x) : chkI (preI l j) (l.drop j) = if oneI x ≠ 0 then oneI x else if ordB x (preI l j) = false then 17 else chkI (preI l (j + 1)) (l.drop (j + 1)) := by
  have hj := (List.getElem?_eq_some_iff.1 h).1
  have e : l[j] = x := (List.getElem?_eq_some_iff.1 h).2
  rw [List.drop_eq_getElem_cons hj, e, preI_next h]
  rfl
theorem vaE_none {l : List Im} (h : vaE l = 0) : l.length ≤ 16 ∧ chkI none l = 0 := by
  unfold vaE at h
  split at h
  · omega
  · exact ⟨by omega, h⟩
theorem chkI_all : ∀ {l : List Im} {q : Option Im}, chkI q l = 0 → ∀ x ∈ l, oneI x = 0
  | [], _, _, x, hx => by cases hx
  | y :: r, q, h, x, hx => by
    unfold chkI at h
    split at h
    · rename_i h1; exact absurd h h1
    · rename_i h1
      split at h
      · cases h
      · rcases List.mem_cons.1 hx with rfl | hx
        · exact Decidable.not_not.1 h1
        · exact chkI_all h x hx
theorem vaE_ok {l : List Im} (h : vaE l = 0) : l.length ≤ 16 ∧ ∀ x ∈ l, oneI x = 0 := ⟨(vaE_none h).1, chkI_all (vaE_none h).2⟩
theorem oneI_ok {x : Im} (h : oneI x = 0) : (2 ≤ x.p ∧ x.p ≤ 6) ∧ rngI x = true ∧ keyB x = true := by
  unfold oneI at h
  split at h
  · cases h
  · rename_i h1
    split at h
    · cases h
    · rename_i h2
      split at h
      · cases h
      · rename_i h3
        exact ⟨by omega, by simpa using h2, by simpa using h3⟩
theorem oneI_bd {x : Im} (h : oneI x = 0) : (2 ≤ x.p ∧ x.p ≤ 6) ∧ (1 ≤ x.v ∧ x.v ≤ 255) ∧ (0 ≤ x.a ∧ x.a ≤ 31) ∧ (0 ≤ x.k ∧ x.k < 2147483579) ∧ (0 ≤ x.i ∧ x.i ≤ 255) := by
  obtain ⟨h1, h2, h3⟩ := oneI_ok h
  have ha : 0 ≤ x.a ∧ x.a ≤ 31 := by
    unfold rngI parB at h2
    split at h2 <;> simp at h2 <;> omega
  have hi : 0 ≤ x.i ∧ x.i ≤ 255 := by
    unfold rngI kidB at h2
    split at h2 <;> simp at h2 <;> omega
  have hv : 1 ≤ x.v ∧ x.v ≤ 255 := by
    unfold rngI at h2
    simp at h2
    omega
  refine ⟨h1, hv, ha, ?_, hi⟩
  unfold keyB at h3
  split at h3
  · have := elB_bd h3; omega
  · have : x.k = 0 := by simpa using h3
    omega
def idL (p : Int) : List UInt8 := [4, 0, 127, 0, 7, 2, 2] ++ (if p = 2 then [4, 1] else if p = 3 then [4, 2] else if p = 4 then [3, 1] else if p = 5 then [2, 1] else [5, 1])
theorem idL_len (p : Int) : (idL p).length = 9 := by
  unfold idL
  split
  · rfl
  · split
    · rfl
    · split
      · rfl
      · split <;> rfl
def numsI (p : Int) : List (Int × Nat × Nat) := (2, 1, 1) :: (if pwB p = true then [(2, 1, 2)] else if p = 4 then [(4, 4, 3), (2, 1, 4)] else [])
def Im.get (x : Im) : Nat → Int
  | 0 => x.p
  | 1 => x.v
  | 2 => x.a
  | 3 => x.k
  | _ => x.i
def numF (x : Im) : List (Int × Nat × Nat) → F
  | [] => .nil
  | (t, s, c) :: r => .cons t (octL (x.get c).toNat s) .nil (numF x r)
def kidF (x : Im) : F := .cons 6 (idL x.p) .nil (numF x (numsI x.p))
def objsI : List Im → F
  | [] => .nil
  | x :: r => .cons 48 [] (kidF x) (objsI r)
def setF (l : List Im) : F := .cons 49 [] (objsI l) .nil
theorem objsI_len : ∀ l : List Im, (objsI l).len = l.length
  | [] => rfl
  | _ :: r => by simp only [objsI, F.len, List.length_cons]; rw [objsI_len r]
theorem objsI_snoc : ∀ (l : List Im) (x : Im), objsI (l ++ [x]) = (objsI l).app (.cons 48 [] (kidF x) .nil)
  | [], x => rfl
  | y :: r, x => by simp only [List.cons_append, objsI, F.app]; rw [objsI_snoc r x]
def seE (l : List Im) : Int := if vaE l = 0 then encE (setF l) else vaE l
def seB (l : List Im) : List UInt8 := if vaE l = 0 then encB (setF l) else []
def idT (v : List UInt8) : Option Int := if v = idL 2 then some 2 else if v = idL 3 then some 3 else if v = idL 4 then some 4 else if v = idL 5 then some 5 else if v = idL 6 then some 6 else none
def Im.put (x : Im) (c : Nat) (n : Int) : Im := match c with
  | 0 => { x with p := n }
  | 1 => { x with v := n }
  | 2 => { x with a := n }
  | 3 => { x with k := n }
  | _ => { x with i := n }
def numT (x : Im) : List (Int × Nat × Nat) → F → Option Im
  | [], .nil => some x
  | (t, s, c) :: r, .cons t' v k g => if t' = t ∧ v.length = s then numT (x.put c (numL v : Nat)) r g else none
  | _, _ => none
def infT (t : Int) : F → Option Im
  | .nil => none
  | .cons t0 v0 _ r => if t = 48 ∧ t0 = 6 then match idT v0 with
    | none => none
    | some p => numT ⟨p, 0, 0, 0, 0⟩ (numsI p) r
    else none
def infsT : F → Option (List Im)
  | .nil => some []
  | .cons t _ k r => match infT t k with
    | none => none
    | some x => (infsT r).map (x :: ·)
def lstI : F → Option (List Im)
  | .cons t _ k .nil => if t = 49 then infsT k else none
  | _ => none
def deE (r : Except Int (F × Nat)) : Int := match r with
  | .error e => e
  | .ok (f, _) => match lstI f with
    | none => 1
    | some l => vaE l
def deL (r : Except Int (F × Nat)) : List Im := match r with
  | .error e => []
  | .ok (f, _) => match lstI f with
    | none => []
    | some l => if vaE l = 0 then l else []
theorem infsT_len : ∀ {f : F} {l : List Im}, infsT f = some l → l.length = f.len
  | .nil, l, h => by cases h; rfl
  | .cons t v k r, l, h => by
    unfold infsT at h
    split at h
    · cases h
    · rw [Option.map_eq_some_iff] at h
      obtain ⟨l', h1, rfl⟩ := h
      simp only [List.length_cons, F.len, infsT_len h1]
def newI (q : Int) : Im → List Im → Im
  | b, [] => b
  | b, x :: r => newI q (if x.p = q ∧ b.v < x.v then x else b) r
def chuI (l : List Im) : List Int → Im × Int
  | [] => (zerI, 16)
  | q :: r => if 0 < (newI q zerI l).v then (newI q zerI l, 0) else chuI l r
def choI (l : List Im) (o : List Int) : Im × Int := if vaE l = 0 then chuI l o else (zerI, vaE l)
def eqI (x y : Im) : Bool := (((decide (x.p = y.p) && decide (x.v = y.v)) && decide (x.a = y.a)) && decide (x.k = y.k)) && decide (x.i = y.i)
theorem eqI_iff {x y : Im} : eqI x y = true ↔ x = y := by
  obtain ⟨a, b, c, d, e⟩ := x
  obtain ⟨a', b', c', d', e'⟩ := y
  simp [eqI, and_assoc]
def misB (a : List Im) (x : Im) : Bool := pwB x.p && !a.any (eqI x)
def misI (a s : List Im) : List Im := s.filter (misB a)
end Go.Proofs.YtcapbojjceeapaaDoor
namespace Go.Proofs.YtcapbojjceeapaaDoor
section
open Go.RowKit
def numO (x : List UInt8) : Nat := x.foldl (fun n c => 256 * n + c.toNat) 0
theorem numO_snoc {x : List UInt8} {k : Nat} (h : k < x.length) : numO (x.take (k + 1)) = 256 * numO (x.take k) + (x[k]'h).toNat := by
  rw [List.take_succ_eq_append_getElem h]; unfold numO; rw [List.foldl_append]; rfl
theorem numO_lt (x : List UInt8) (k : Nat) (h : k ≤ x.length) : numO (x.take k) < 256 ^ k := by
  induction k with
  | zero => simp [numO]
  | succ k ih =>
    rw [numO_snoc (by omega), Nat.pow_succ]
    have h1 := ih (by omega)
    have h2 := UInt8.toNat_lt (x[k]'(by omega))
    omega
theorem numO_b (x : List UInt8) (k : Nat) (h : k ≤ x.length) (h7 : k ≤ 6) : numO (x.take k) < 281474976710656 :=
  Nat.lt_of_lt_of_le (numO_lt x k h) (Nat.le_trans (Nat.pow_le_pow_right (by decide) h7) (by decide))
theorem or_i64 (a b : Nat) (ha : a < 9223372036854775808) (hb : b < 9223372036854775808) : bits .or .i64 (a : Int) (b : Int) = ((a ||| b : Nat) : Int) := by
  have hx : a ||| b < 2 ^ 63 := Nat.or_lt_two_pow (by omega) (by omega)
  have h1 : (BitVec.ofInt 64 (a : Int)).toNat = a := by rw [BitVec.toNat_ofInt]; omega
  have h2 : (BitVec.ofInt 64 (b : Int)).toNat = b := by rw [BitVec.toNat_ofInt]; omega
  show IntKind.i64.wrap ((BitVec.ofInt 64 (a : Int) ||| BitVec.ofInt 64 (b : Int)).toNat : Int) = _
  rw [BitVec.toNat_or, h1, h2]
  exact IntWalk.i64_in _ (by omega)
theorem or256 (m c : Nat) (hm : m < 281474976710656) (hc : c < 256) : bits .or .i64 ((m : Int) * 256) (c : Int) = ((256 * m + c : Nat) : Int) := by
  have h := or_i64 (m * 256) c (by omega) (by omega)
  have e : m * 256 ||| c = 256 * m + c := by
    have := Nat.two_pow_add_eq_or_of_lt (i := 8) (b := c) (by omega) m
    rw [Nat.mul_comm m 256]; exact this.symm
  rw [e] at h
  simpa using h
def numV (x : List UInt8) : Int := if x.length ≤ 7 then (numO x : Int) else 0
def numE (x : List UInt8) : Int := if x.length ≤ 7 then 0 else 2
def NumEnd (x : List UInt8) (e : Ending) : Prop := e = .returned (.tuple #[.int .i64 (numV x), .int .i64 (numE x)])
theorem num_end {x : List UInt8} {k m : Nat} (hk : x.length ≤ k) (h7 : x.length ≤ 7) (hm : m = numO (x.take k)) : NumEnd x (.returned (.tuple #[.int .i64 (m : Int), .int .i64 0])) := by
  rw [List.take_of_length_le hk] at hm
  unfold NumEnd numV numE
  rw [if_pos h7, if_pos h7, hm]
theorem num_big {x : List UInt8} (h7 : ¬ x.length ≤ 7) : NumEnd x (.returned (.tuple #[.int .i64 0, .int .i64 2])) := by
  unfold NumEnd numV numE
  rw [if_neg h7, if_neg h7]
set_option maxHeartbeats 400000 in
theorem oct_num (A : Option Addr) (c n : Nat) (x : List UInt8) (w : World) (B : Nat) (h : Sees w B A (Us x)) (l : n = x.length) (m : n ≤ maxLen) :
    Calls Tryd.prog 95 #[.slice A n c] w fun e w' => NumEnd x e ∧ w' = w := by
  unfold maxLen at m
  have L := Lib.hid l
  clear l
  by_cases h7 : n ≤ 7
  · have d0 : decide ((7 : Int) < (n : Int)) = false := by simp; omega
    go_enter Tryd.func95, Tryd.ntmps95
    go_wp2
    go_loop [4, 11] (fun v i => ∃ k q : Nat, k ≤ n ∧ i = .int .i64 k ∧ v = .int .i64 (q : Int) ∧ Hid (q = numO (x.take k))) (fun _ i => n - (intOf i).toNat)
    case atStart => exact ⟨0, 0, Nat.zero_le _, rfl, rfl, Lib.hid rfl⟩
    case round =>
      obtain ⟨k, q, hk, rfl, rfl, HQ⟩ := hrel
      by_cases hlt : k < n
      · have hkx : k < x.length := by have := L.out; omega
        obtain ⟨b1, o1, rfl, g1⟩ := byte_at h (Below.refl B w) hkx
        have hq : q < 281474976710656 := by rw [HQ.out]; exact numO_b x k (by omega) (by omega)
        have hc := UInt8.toNat_lt (x[k]'hkx)
        obtain ⟨d, hd⟩ : ∃ d, d = (x[k]'hkx).toNat := ⟨_, rfl⟩
        rw [← hd] at g1 hc
        have HD := Lib.hid hd
        have e1 := or256 q d hq (by omega)
        clear hd
        go_wp2
        go_round
        case rel => exact ⟨k + 1, 256 * q + d, by omega, by go_num, by go_num, Lib.hid (by rw [numO_snoc hkx, ← HQ.out, ← HD.out])⟩
        case measure => simp [intOf]; omega
      · have hf := num_end (x := x) (k := k) (by have := L.out; omega) (by have := L.out; omega) HQ.out
        have HF := Lib.hid hf
        clear hf
        go_wp2
        go_ret2
        exact ⟨HF.out, rfl⟩
  · have hf := num_big (x := x) (by have := L.out; omega)
    have HF := Lib.hid hf
    have d0 : decide ((7 : Int) < (n : Int)) = true := by simp; omega
    clear hf
    go_enter Tryd.func95, Tryd.ntmps95
    go_wp2
    go_ret2
    exact ⟨HF.out, rfl⟩
end
section
section
open Go.RowKit
set_option linter.unusedVariables false
end
section
open Go.RowKit
end
section
open Go.RowKit
end
section
open Go.RowKit
end
section
open Go.RowKit
end
section
open Go.RowKit
end
section
open Go.RowKit
section
variable {w0 w w' : World} {B g k k' cap N : Nat} {l l' : List UInt8} {a b c : Value}
end
end
section
open Go.RowKit
end
section
open Go.RowKit
end
section
open Go.RowKit
end
section
open Go.RowKit
end
section
open Go.RowKit
end
section
open Go.RowKit
set_option linter.unusedVariables false
end
section
open Go.RowKit
set_option linter.unusedVariables false
end
section
open Go.RowKit
set_option linter.unusedVariables false
end
section
open Go.RowKit
set_option linter.unusedVariables false
end
section
open Go.ChangeShapes Go.WideShapes Go.ChangeAt Go.RowKit
variable {H : Type} {enc : TypeId × Value → H} {W : World}
end
section
open Go.ChangeShapes Go.WideShapes Go.ChangeAt Go.RowKit
variable {H : Type} {enc : TypeId × Value → H} {W : World}
end
section
open Go.ChangeShapes Go.WideShapes Go.ChangeAt Go.RowKit
variable {H : Type} {enc : TypeId × Value → H} {W : World}
end
section
open Go.RowKit
end
section
open Go.RowKit
set_option linter.unusedVariables false
end
section
open Go.RowKit
set_option linter.unusedVariables false
end
section
open Go.RowKit
set_option linter.unusedVariables false
end
section
open Go.RowKit
set_option linter.unusedVariables false
end
section
open Go.RowKit
set_option linter.unusedVariables false
end
end
section
open Go.RowKit
set_option linter.unusedVariables false
section
variable {w w' : World} {p p' : Nat → Prop} {A : Option Addr} {cs : List Value}
end
end
section
open Go.RowKit
set_option linter.unusedVariables false
section
variable {w w' : World} {p p' : Nat → Prop} {A : Option Addr} {vs : List Value} {k : Nat}
end
end
section
open Go.RowKit
set_option linter.unusedVariables false
set_option linter.unusedSimpArgs false
theorem below_al1 (w : World) (o : Obj) : Below w.heap.size w (w.alloc o) := (Below.refl _ _).alloc (Nat.le_refl _) o
end
section
open Go.RowKit
set_option linter.unusedVariables false
set_option linter.unusedSimpArgs false
theorem at_any_ {P : Program} {ops : Array Oper} {rest : List Oper} {a : Act} {w : World} {Q : Exit → Act → World → Prop} {d : Nat} {op : Op} {t : TypeId} {ps : String} {af : Array Edge} {gd : Option (Nat × Bool)} (h : wpList P ops Q (⟨some d, op, t, ps, af, gd⟩ :: rest) a w) : wpList P ops Q (⟨some d, op, t, ps, af, gd⟩ :: rest) a w := h
theorem at_call_ {P : Program} {ops : Array Oper} {rest : List Oper} {a : Act} {w : World} {Q : Exit → Act → World → Prop} {d : Nat} {x : Call} {t : TypeId} {ps : String} {af : Array Edge} {gd : Option (Nat × Bool)} (h : wpList P ops Q (⟨some d, .call x, t, ps, af, gd⟩ :: rest) a w) : wpList P ops Q (⟨some d, .call x, t, ps, af, gd⟩ :: rest) a w := h
theorem at_box_ {P : Program} {ops : Array Oper} {rest : List Oper} {a : Act} {w : World} {Q : Exit → Act → World → Prop} {d : Nat} {x : Operand} {ty t : TypeId} {ps : String} {af : Array Edge} {gd : Option (Nat × Bool)} (h : wpList P ops Q (⟨some d, .box ty x, t, ps, af, gd⟩ :: rest) a w) : wpList P ops Q (⟨some d, .box ty x, t, ps, af, gd⟩ :: rest) a w := h
end
section
open Go.RowKit
set_option linter.unusedVariables false
set_option linter.unusedSimpArgs false
theorem wpList_load_vg {P : Program} {ops : Array Oper} {rest : List Oper} {op : Oper} {a : Act} {w : World} {Q : Exit → Act → World → Prop} (hw : Region.wanted op (yielded ops a.tmps) = true) (ty : TypeId) (x : Operand) (ho : op.op = .load ty x) (g : Nat) (hx : a.eval x = .pointer (some ⟨g, 0, none⟩)) (vs : List Value) (d : TypeDesc)
    (h : RowV w g vs) (hu : P.underlying ty = some d) (hd : d.isRow = true) (hi : (P.info? ty).map (·.size) = some vs.length)
    (hK : wpList P ops Q rest (a.put op.dst (.agg vs.toArray)) w) : wpList P ops Q (op :: rest) a w := by
  refine wpList_step fun K hK2 => ?_
  rw [if_pos hw]
  have hr := exec_load_v (op := op) (a := a) ty x ho g hx vs d h hu hd hi
  unfold Oper.wp
  rw [hr, Oper.upon_value]
  exact hK2 _ _ hK
end
section
open Go.RowKit
set_option linter.unusedVariables false
set_option linter.unusedSimpArgs false
theorem grown_new {w w' : World} (h : w.grownBy w' none) : Below w.heap.size w w' := ⟨h.os, h.tape, h.output, h.size, fun k hk => h.block k hk (by intro e; cases e)⟩
theorem own_seesP {w : World} {base : Nat} {e : TypeId} {g n c : Nat} {xs : List Value} (h : w.ownsRow base e 1 (.slice (some ⟨g, 0, none⟩) n c) n xs) : SeesP w (fun b => b = g) (some ⟨g, 0, none⟩) xs := by
  rcases h.2 with ⟨h0, _⟩ | ⟨g', cap, cur, hv, hg, hh, hn, hm, hs, ht⟩
  · simp at h0
  · simp only [Value.slice.injEq, Option.some.injEq, Addr.mk.injEq, and_true, true_and] at hv
    obtain ⟨rfl, rfl⟩ := hv
    refine .inr ⟨g, 0, rfl, rfl, fun j hj => ?_⟩
    have hl := h.1
    rw [Nat.zero_add, cell_of_row w g j cur _ (0, 0) hh, ← ht, List.getElem?_take, if_pos (by omega), Array.getElem?_toList]
set_option maxHeartbeats 800000 in
theorem oct_new (n : Nat) (s : Nat) (hs : s ≤ 7) (hn : n < 256 ^ s) (w : World) :
    Calls Tryd.prog 75 #[.int .i64 (n : Int), .int .i64 (s : Int)] w fun e w' => ∃ A c, e = .returned (.tuple #[.slice A s c, .int .i64 0]) ∧ ((A = none → c = 0) ∧ s ≤ c) ∧ SeesP w' (newB w w') A (Us (octL n s)) ∧ Below w.heap.size w w' := by
  obtain ⟨i0, hi, hz0, hz1, hz2⟩ := info_parts info_u8
  have hb : n < 72057594037927936 := Nat.lt_of_lt_of_le hn (Nat.le_trans (Nat.pow_le_pow_right (by decide) hs) (by decide))
  have d1 : decide ((s : Int) < 0) = false := by simp
  have d2 : decide ((7 : Int) < (s : Int)) = false := by simp; omega
  have d3 : decide ((n : Int) < 0) = false := by simp
  have d4 : ((n : Int) / 2 ^ (8 * s) != 0) = false := by
    have e : ((n : Int) / 2 ^ (8 * s)) = ((n / 256 ^ s : Nat) : Int) := by
      rw [show (256 : Nat) = 2 ^ 8 from rfl, ← Nat.pow_mul]; simp
    rw [e, Nat.div_eq_of_lt hn]; rfl
  clear hn
  go_enter Tryd.func75, Tryd.ntmps75
  go_wp2_with (at_make; refine wpList_make_full _ rfl _ _ 23 rfl w.heap.size 5 i0 (.int .u8 0) 1 Tryd.underlying23 hi hz0 hz1 _ _ _ _ s rfl rfl (by simp) (by simp) (by rw [hz2]; omega) (by unfold maxLen; omega) (Nat.le_refl _) ?_; intro w1 hown hgrow)
  have hR : OctRel w.heap.size w.heap.size n s 0 w w1 := by
    refine ⟨?_, (Below.refl _ _).grown hgrow (Nat.le_refl _) (by simp), Nat.le_refl _⟩
    rw [octTo_zero, Us_zeros]
    simpa [Value.cells, toList_madeCells_one] using hown
  clear hown hgrow d1 d2 d3 d4
  go_wp2
  go_loopw [26] (fun i wr => ∃ k : Nat, k ≤ s ∧ i = .int .i64 k ∧ OctRel w.heap.size w.heap.size n s k w wr) (fun i _ => s - (intOf i).toNat)
  case atStart => exact ⟨0, by omega, rfl, hR⟩
  case round =>
    clear hR
    obtain ⟨k, hk, rfl, hR⟩ := hrel
    by_cases hlt : k < s
    · obtain ⟨old, g3⟩ := hR.cell (j := s - 1 - k) (by omega)
      have g4 := hR.1.frozenAt (s - 1 - k)
      go_wp2
      go_roundw
      case rel => exact ⟨k + 1, by omega, by go_num, hR.step hlt⟩
      case measure => simp [intOf]; omega
    · obtain rfl : k = s := by omega
      have hd : ((some (⟨w.heap.size, 0, none⟩ : Addr) = none → k = 0) ∧ k ≤ k) ∧ SeesP wr (newB w wr) (some ⟨w.heap.size, 0, none⟩) (Us (octL n k)) ∧ Below w.heap.size w wr := by
        have h1 := hR.1
        rw [octTo_all] at h1
        have hlt := (own_lt3 h1 w.heap.size rfl).2
        exact ⟨⟨fun h => (by cases h), Nat.le_refl _⟩, (own_seesP h1).imp fun b hb => (by subst hb; exact ⟨Nat.le_refl _, hlt⟩), hR.2.1⟩
      have HD := Lib.hid hd
      clear hd hR
      go_wp2
      go_ret2
      exact ⟨_, k, rfl, HD.out⟩
def zerN : List Value := [.int .i64 0, .slice none 0 0, .slice none 0 0]
theorem info_n : (Tryd.prog.info? 54).map (·.zero) = some (some (.agg zerN.toArray)) := by kernel_rfl
theorem size_n : (Tryd.prog.info? 54).map (·.size) = some 3 := by kernel_rfl
theorem nodV_one (t : Int) (Av : Option Addr) (lv cv : Nat) (Ak : Option Addr) (lk ck : Nat) : ∀ u ∈ nodV t Av lv cv Ak lk ck, u.oneCell' = true := by
  intro u hu
  simp only [nodV, List.mem_cons, List.not_mem_nil, or_false] at hu
  rcases hu with rfl | rfl | rfl <;> rfl
end
section
open Go.RowKit
set_option linter.unusedVariables false
set_option linter.unusedSimpArgs false
theorem bs1 (u1 u2 u3 : Value) : Tryd.prog.builtSlice 54 1 [(0, .agg #[u1, u2, u3])] = some #[u1, u2, u3] := by kernel_rfl
theorem pe1 {a : Act} {x : Operand} {u : Value} (h : a.eval x = u) : ((#[(0, x)] : Array (Nat × Operand)).map fun (i, x) => (i, a.eval x)).toList = [(0, u)] := by simp [h]
theorem row_below {w c c' : World} {v : Value} (h : Below w.heap.size w c) (hg : c.grownBy c' v.ownBlock) (hv : ∀ g, v.ownBlock = some g → w.heap.size ≤ g) : Below w.heap.size w c' := h.grown hg h.size (fun k e => hv k e)
end
section
open Go.RowKit
set_option linter.unusedVariables false
set_option linter.unusedSimpArgs false
theorem SeesN.put {w w3 w9 w10 : World} {g2 : Nat} {A : Option Addr} {f : F} (h : SeesN w9 (newB w3 w9) A f) (hw : Wr w9 w10 g2) (hg2 : g2 < w3.heap.size) (hww : w.heap.size ≤ w3.heap.size) : SeesN w10 (newB w w10) A f := by
  have hp : ∀ b, newB w3 w9 b → newB w w10 b ∧ b ≠ g2 := fun b hb => ⟨⟨Nat.le_trans hww hb.1, by rw [hw.2.2.2.1]; exact hb.2⟩, by have := hb.1; omega⟩
  exact (h.keep fun q hq => World.cell?_of_block (hw.2.2.2.2 _ (hp _ hq).2)).imp fun b hb => (hp b hb).1
theorem RowV.src {w : World} {g : Nat} {vs : List Value} (h : RowV w g vs) : ∀ j u, vs[j]? = some u → w.cell? ((⟨g, 0, none⟩ : Addr).add j) = some u := fun j u hu => by
  have hj : (⟨g, 0, none⟩ : Addr).add j = ⟨g, j, none⟩ := by unfold Addr.add; split <;> simp_all
  rw [hj, h.cell]; exact hu
end
section
open Go.RowKit
set_option linter.unusedVariables false
set_option linter.unusedSimpArgs false
theorem p_numberO (v : List UInt8) (n : Nat) (hn : v.length = n) (hz : n ≤ 7) (A : Option Addr) (c : Nat) (w : World) (hs : SeesP w (· < w.heap.size) A (Us v)) :
    Calls Tryd.prog 95 #[.slice A n c] w fun e w' => e = .returned (.tuple #[.int .i64 ((numO v : Nat) : Int), .int .i64 0]) ∧ w = w' :=
  (oct_num A c n v w w.heap.size (SeesP.iff_sees.1 hs) hn.symm (by unfold maxLen; omega)).mono fun _ _ ⟨he, hw⟩ => ⟨by
    unfold NumEnd numV numE at he
    rwa [if_pos (by omega), if_pos (by omega)] at he, hw.symm⟩
end
section
open Go.RowKit
set_option linter.unusedVariables false
set_option linter.unusedSimpArgs false
theorem ix_nod (g o n c k : Nat) (hk : k < n) (w : World) : (Instr.indexAt 52 (.slice (some ⟨g, o, none⟩) n c) (.int .i64 (k : Int))).run Tryd.prog w = .ok (.pointer (some ⟨g, o + k * 3, none⟩)) w := by
  have h0 : (k : Int) < (n : Int) := by omega
  have h1 : (0 : Int) ≤ (k : Int) := by omega
  simp [go_sem, Addr.add, h0, h1]
end
section
open Go.RowKit
set_option linter.unusedVariables false
set_option linter.unusedSimpArgs false
theorem ix_nod0 (g o n c : Nat) (hk : 0 < n) (w : World) : (Instr.indexAt 52 (.slice (some ⟨g, o, none⟩) n c) (.int .i64 0)).run Tryd.prog w = .ok (.pointer (some ⟨g, o, none⟩)) w := by
  have h := ix_nod g o n c 0 hk w
  rw [Nat.zero_mul, Nat.add_zero] at h
  exact h
end
section
open Go.RowKit
set_option linter.unusedVariables false
set_option linter.unusedSimpArgs false
end
section
open Go.RowKit
set_option linter.unusedVariables false
set_option linter.unusedSimpArgs false
theorem quiet_load_mid {P : Program} {ops : Array Oper} {C : World → Prop} {Q : Act → Prop} {a : Act} {o : Oper} {rest : List Oper} (hw : Region.wanted o (yielded ops a.tmps) = true) (ty : TypeId) (x : Operand) (ho : o.op = .load ty x) (g k : Nat) (hx : a.eval x = .pointer (some ⟨g, k, none⟩)) (vs : List Value) (d : TypeDesc)
    (h : ∀ w, C w → w.rangeAt g k vs) (hu : P.underlying ty = some d) (hd : d.isRow = true) (hi : (P.info? ty).map (·.size) = some vs.length) (hK : wpQuiet P ops C Q rest (a.put o.dst (.agg vs.toArray))) : wpQuiet P ops C Q (o :: rest) a := by
  refine Go.BigFrame.wpQuiet_want hw fun K hKK => ?_
  refine ⟨_, fun w hc => ?_, hKK _ hK⟩
  have hr := run_loadVar_mid (P := P) w g k ty vs d (h w hc) hu hd hi
  unfold Oper.quietAt execOp
  simp only [ho, hx, Instr.loadAt, Instr.sureAddr, Sem.run_bind, Sem.run_pure, Result.andThen_ok, hr]
  exact ⟨rfl, rfl⟩
theorem at_qload_ {P : Program} {ops : Array Oper} {C : World → Prop} {Q : Act → Prop} {a : Act} {d : Nat} {rest : List Oper} {x : Operand} {ty t : TypeId} {ps : String} {af : Array Edge} {gd : Option (Nat × Bool)}
    (h : wpQuiet P ops C Q (⟨some d, .load ty x, t, ps, af, gd⟩ :: rest) a) : wpQuiet P ops C Q (⟨some d, .load ty x, t, ps, af, gd⟩ :: rest) a := h
theorem range_up {w : World} {g k : Nat} {vs : List Value} (h : ∀ w', Below w.heap.size w w' → w'.rangeAt g k vs) : ∀ w', (∃ p : Regrown, w' = Go.Sort.grow (redrawn w p.d) p.os) → w'.rangeAt g k vs := fun w' hw => h w' (below_of_regrown hw)
theorem cell_up {w : World} {g k : Nat} {v : Value} (h : ∀ w', Below w.heap.size w w' → w'.cell? ⟨g, k, none⟩ = some v) (d : Nat) (os : Array Obj) : (Go.Sort.grow (redrawn w d) os).cell? ⟨g, k, none⟩ = some v := h _ (below_regrown w d os)
end
section
open Go.RowKit
set_option linter.unusedVariables false
set_option linter.unusedSimpArgs false
end
theorem numO_eq (x : List UInt8) : numO x = numL x := by
  unfold numO numL
  congr 1
  funext n c
  omega
theorem p_number (v : List UInt8) (n : Nat) (hn : v.length = n) (hz : n ≤ 7) (A : Option Addr) (c : Nat) (w : World) (hs : SeesP w (· < w.heap.size) A (Us v)) :
    Calls Tryd.prog 95 #[.slice A n c] w fun e w' => e = .returned (.tuple #[.int .i64 ((numL v : Nat) : Int), .int .i64 0]) ∧ w = w' := by
  rw [← numO_eq]
  exact p_numberO v n hn hz A c w hs
end Go.Proofs.YtcapbojjceeapaaDoor
namespace Go.Proofs.YtcapbojjceeapaaDoor
open Go.RowKit
set_option maxRecDepth 8000
set_option linter.unusedVariables false
set_option linter.unusedSimpArgs false
theorem p_pw (p : Int) (w : World) : Calls Tryd.prog 43 #[.int .i64 p] w fun e w' => e = .returned (.bool (pwB p)) ∧ w = w' := by
  by_cases h : p = 2
  · have d : (p == 2) = true := by simpa using h
    have hv : pwB p = true := by simp [pwB, h]
    rw [hv]; clear h hv
    go_enter Tryd.func43, Tryd.ntmps43
    go_wp2
    go_ret
    exact ⟨rfl, rfl⟩
  · have d : (p == 2) = false := by simpa using h
    have hv : pwB p = (p == 3) := by unfold pwB; rw [decide_eq_false h, Bool.false_or]; rfl
    rw [hv]; clear h hv
    go_enter Tryd.func43, Tryd.ntmps43
    go_wp2
    go_ret
    exact ⟨rfl, rfl⟩
theorem par_cases (x : Im) : (pwB x.p = true ∧ decide (0 ≤ x.a) = false ∧ parB x = false) ∨ (pwB x.p = true ∧ decide (0 ≤ x.a) = true ∧ parB x = decide (x.a ≤ 31)) ∨ (pwB x.p = false ∧ parB x = (x.a == 0)) := by
  unfold parB
  rcases h : pwB x.p with _ | _
  · right; right; exact ⟨rfl, rfl⟩
  · by_cases h2 : 0 ≤ x.a
    · right; left; simp [h2]
    · left; simp [h2]
theorem p_par (x : Im) (w : World) : Calls Tryd.prog 60 #[.agg x.cs.toArray] w fun e w' => e = .returned (.bool (parB x)) ∧ Below w.heap.size w w' := by
  have hP := fun w => p_pw x.p w
  have ha : x.cs.toArray = #[.int .i64 x.p, .int .i64 x.v, .int .i64 x.a, .int .i64 x.k, .int .i64 x.i] := rfl
  rw [ha]
  clear ha
  rcases par_cases x with ⟨h1, h2, hv⟩ | ⟨h1, h2, hv⟩ | ⟨h1, hv⟩
  all_goals
    rw [hv]
    rw [h1] at hP
    have HP := Lib.hid hP
    clear hv hP
    go_enter Tryd.func60, Tryd.ntmps60
    go_wp2_with (go_at_call 43; ((with_reducible refine (HP.out _).mono ?_); rintro e w' ⟨rfl, rfl⟩))
    go_ret
    exact ⟨rfl, below_al1 _ _⟩
theorem kid_cases (x : Im) : ((x.p == 4) = true ∧ decide (0 ≤ x.i) = false ∧ kidB x = false) ∨ ((x.p == 4) = true ∧ decide (0 ≤ x.i) = true ∧ kidB x = decide (x.i ≤ 255)) ∨ ((x.p == 4) = false ∧ kidB x = (x.i == 0)) := by
  unfold kidB
  by_cases h : x.p = 4
  · by_cases h2 : 0 ≤ x.i
    · right; left; simp [h, h2]
    · left; simp [h, h2]
  · right; right
    refine ⟨by simpa using h, ?_⟩
    rw [if_neg h]; rfl
theorem p_kid (x : Im) (w : World) : Calls Tryd.prog 61 #[.agg x.cs.toArray] w fun e w' => e = .returned (.bool (kidB x)) ∧ Below w.heap.size w w' := by
  have ha : x.cs.toArray = #[.int .i64 x.p, .int .i64 x.v, .int .i64 x.a, .int .i64 x.k, .int .i64 x.i] := rfl
  rw [ha]
  clear ha
  rcases kid_cases x with ⟨h1, h2, hv⟩ | ⟨h1, h2, hv⟩ | ⟨h1, hv⟩
  all_goals
    rw [hv]
    clear hv
    go_enter Tryd.func61, Tryd.ntmps61
    go_wp2
    go_ret
    exact ⟨rfl, below_al1 _ _⟩
theorem key_cases (x : Im) : ((x.p == 4) = true ∧ keyB x = elB x.k) ∨ ((x.p == 4) = false ∧ keyB x = (x.k == 0)) := by
  unfold keyB
  by_cases h : x.p = 4
  · left; simp [h]
  · right
    refine ⟨by simpa using h, ?_⟩
    rw [if_neg h]; rfl
theorem p_key (x : Im) (w : World) : Calls Tryd.prog 62 #[.agg x.cs.toArray] w fun e w' => e = .returned (.bool (keyB x)) ∧ Below w.heap.size w w' := by
  have HE := Lib.hid fun w => grp_element x.k w
  have ha : x.cs.toArray = #[.int .i64 x.p, .int .i64 x.v, .int .i64 x.a, .int .i64 x.k, .int .i64 x.i] := rfl
  rw [ha]
  clear ha
  rcases key_cases x with ⟨h1, hv⟩ | ⟨h1, hv⟩
  all_goals
    rw [hv]
    clear hv
    go_enter Tryd.func62, Tryd.ntmps62
    go_wp2_with (go_at_call 86; ((with_reducible refine (HE.out _).mono ?_); rintro e w' ⟨rfl, rfl⟩))
    go_ret
    exact ⟨rfl, below_al1 _ _⟩
theorem beh_cases (x y : Im) : (decide (y.p < x.p) = true ∧ behB x y = true) ∨ (decide (y.p < x.p) = false ∧ (x.p == y.p) = false ∧ behB x y = false) ∨ (decide (y.p < x.p) = false ∧ (x.p == y.p) = true ∧ behB x y = decide (y.i < x.i)) := by
  unfold behB
  by_cases h : y.p < x.p
  · left; simp [h]
  · right
    by_cases h2 : x.p = y.p
    · right; simp [h2]
    · left
      have h3 : ¬ y.p = x.p := fun e => h2 e.symm
      simp [h, h2]
theorem p_beh (x y : Im) (w : World) : Calls Tryd.prog 38 #[.agg x.cs.toArray, .agg y.cs.toArray] w fun e w' => e = .returned (.bool (behB x y)) ∧ Below w.heap.size w w' := by
  have ha : x.cs.toArray = #[.int .i64 x.p, .int .i64 x.v, .int .i64 x.a, .int .i64 x.k, .int .i64 x.i] := rfl
  have hb : y.cs.toArray = #[.int .i64 y.p, .int .i64 y.v, .int .i64 y.a, .int .i64 y.k, .int .i64 y.i] := rfl
  rw [ha, hb]
  clear ha hb
  rcases beh_cases x y with ⟨h1, hv⟩ | ⟨h1, h2, hv⟩ | ⟨h1, h2, hv⟩
  all_goals
    rw [hv]
    clear hv
    go_enter Tryd.func38, Tryd.ntmps38
    go_wp2
    go_ret
    exact ⟨rfl, (below_al1 _ _).alloc (below_al1 _ _).size _⟩
theorem one_cases (x : Im) :
    (decide (x.p < 2) = true ∧ oneI x = 14) ∨ (decide (x.p < 2) = false ∧ decide (6 < x.p) = true ∧ oneI x = 14) ∨ (decide (x.p < 2) = false ∧ decide (6 < x.p) = false ∧ decide (x.v < 1) = true ∧ oneI x = 3) ∨
    (decide (x.p < 2) = false ∧ decide (6 < x.p) = false ∧ decide (x.v < 1) = false ∧ decide (255 < x.v) = true ∧ oneI x = 3) ∨
    (decide (x.p < 2) = false ∧ decide (6 < x.p) = false ∧ decide (x.v < 1) = false ∧ decide (255 < x.v) = false ∧ ((parB x = false ∧ oneI x = 3) ∨ (parB x = true ∧ kidB x = false ∧ oneI x = 3) ∨ (parB x = true ∧ kidB x = true ∧ keyB x = false ∧ oneI x = 10) ∨ (parB x = true ∧ kidB x = true ∧ keyB x = true ∧ oneI x = 0))) := by
  unfold oneI rngI
  by_cases h1 : x.p < 2
  · left; simp [h1]
  by_cases h2 : 6 < x.p
  · right; left; simp [h1, h2]
  have h12 : ¬ (x.p < 2 ∨ 6 < x.p) := by omega
  rw [if_neg h12]
  by_cases h3 : x.v < 1
  · have : ¬ 1 ≤ x.v := by omega
    right; right; left; simp [h1, h2, h3, this]
  have h3' : 1 ≤ x.v := by omega
  by_cases h4 : 255 < x.v
  · have : ¬ x.v ≤ 255 := by omega
    right; right; right; left; simp [h1, h2, h3, h3', h4, this]
  have h4' : x.v ≤ 255 := by omega
  right; right; right; right
  rcases parB x with _ | _ <;> rcases kidB x with _ | _ <;> rcases keyB x with _ | _ <;> simp [h1, h2, h3, h3', h4, h4']
def zerX : List Value := [.int .i64 0, .int .i64 0, .int .i64 0, .int .i64 0, .int .i64 0]
theorem info_x : (Tryd.prog.info? 44).map (·.zero) = some (some (.agg zerX.toArray)) := by kernel_rfl
theorem size_x : (Tryd.prog.info? 44).map (·.size) = some 5 := by kernel_rfl
set_option maxHeartbeats 3200000 in
theorem p_one (x : Im) (w : World) : Calls Tryd.prog 37 #[.agg x.cs.toArray] w fun e w' => e = .returned (.int .i64 (oneI x)) ∧ Below w.heap.size w w' := by
  have hP := fun w => p_par x w
  have hI := fun w => p_kid x w
  have hK := fun w => p_key x w
  have hc := one_cases x
  obtain ⟨b1, hb1⟩ : ∃ b, parB x = b := ⟨_, rfl⟩
  obtain ⟨b2, hb2⟩ : ∃ b, kidB x = b := ⟨_, rfl⟩
  obtain ⟨b3, hb3⟩ : ∃ b, keyB x = b := ⟨_, rfl⟩
  obtain ⟨v, hv⟩ : ∃ v, oneI x = v := ⟨_, rfl⟩
  obtain ⟨us, hus⟩ : ∃ us, x.cs = us := ⟨_, rfl⟩
  have hu5 : us.length = 5 := by rw [← hus]; rfl
  have hu1 : ∀ u ∈ us, u.oneCell' = true := by rw [← hus]; exact x.cs_one
  have hu : us[0]? = some (.int .i64 x.p) ∧ us[1]? = some (.int .i64 x.v) := by rw [← hus]; exact ⟨rfl, rfl⟩
  obtain ⟨p, hp⟩ : ∃ z, x.p = z := ⟨_, rfl⟩
  obtain ⟨vv, hvv⟩ : ∃ z, x.v = z := ⟨_, rfl⟩
  rw [hb1, hb2, hb3, hv, hp, hvv] at hc
  rw [hus, hb1] at hP
  rw [hus, hb2] at hI
  rw [hus, hb3] at hK
  rw [hp, hvv] at hu
  rw [hus, hv]
  have HB := Lib.hid (Below.refl w.heap.size w)
  have HP := Lib.hid (show _ ∧ _ ∧ _ from ⟨hP, hI, hK⟩)
  have HU := Lib.hid (show _ ∧ _ ∧ _ from ⟨hu5, hu1, hu⟩)
  clear hP hI hK hb1 hb2 hb3 hv hus hp hvv hu hu5 hu1
  rcases hc with ⟨h1, rfl⟩ | ⟨h1, h2, rfl⟩ | ⟨h1, h2, h3, rfl⟩ | ⟨h1, h2, h3, h4, rfl⟩ | ⟨h1, h2, h3, h4, ⟨rfl, rfl⟩ | ⟨rfl, rfl, rfl⟩ | ⟨rfl, rfl, rfl, rfl⟩ | ⟨rfl, rfl, rfl, rfl⟩⟩
  all_goals
    go_enter Tryd.func37, Tryd.ntmps37
    go_wp2_with (first
      | ((with_reducible refine at_box_ (d := 1) ?_); refine wpList_box_v rfl 44 _ rfl us rfl ?_; intro g1 w1 hf hr; have H1 := Lib.hid (show _ ∧ _ ∧ _ from ⟨hf.bl HB.out, hr, hf.ge HB.out⟩); have c0 := (hr.cell 0).trans HU.out.2.2.1; have c1 := (hr.cell 1).trans HU.out.2.2.2; clear hf hr)
      | ((with_reducible refine at_load_ (d := 17) ?_); refine wpList_load_v rfl 44 (.tmp 1) rfl g1 rfl us _ H1.out.2.1 Tryd.underlying44 rfl (by rw [HU.out.1]; exact size_x) ?_)
      | ((with_reducible refine at_load_ (d := 20) ?_); refine wpList_load_v rfl 44 (.tmp 1) rfl g1 rfl us _ H2.out.2.1 Tryd.underlying44 rfl (by rw [HU.out.1]; exact size_x) ?_)
      | ((with_reducible refine at_load_ (d := 24) ?_); refine wpList_load_v rfl 44 (.tmp 1) rfl g1 rfl us _ H3.out.2.1 Tryd.underlying44 rfl (by rw [HU.out.1]; exact size_x) ?_)
      | (go_at_call 60; ((with_reducible refine (HP.out.1 _).mono ?_); rintro e w2 ⟨rfl, hb⟩); have H2 := Lib.hid (show _ ∧ _ ∧ _ from ⟨below_on H1.out.1 hb, H1.out.2.1.on hb, H1.out.2.2⟩); clear hb)
      | (go_at_call 61; ((with_reducible refine (HP.out.2.1 _).mono ?_); rintro e w3 ⟨rfl, hb⟩); have H3 := Lib.hid (show _ ∧ _ ∧ _ from ⟨below_on H2.out.1 hb, H2.out.2.1.on hb, H2.out.2.2⟩); clear hb)
      | (go_at_call 62; ((with_reducible refine (HP.out.2.2 _).mono ?_); rintro e w4 ⟨rfl, hb⟩); have H4 := Lib.hid (show _ ∧ _ from ⟨below_on H3.out.1 hb, H3.out.2.1.on hb⟩); clear hb))
    go_ret
    exact ⟨rfl, by first | exact H4.out.1 | exact H3.out.1 | exact H2.out.1 | exact H1.out.1⟩
end Go.Proofs.YtcapbojjceeapaaDoor
