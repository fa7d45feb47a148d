/-
  What is proved here: plain definitions of what a zone is, of its lines and of what lines stand for, as the document says them, without any memory; plain facts on them.
-/
import Derived.Test.YtibahbkjjfmbgaaGreatDoorUA1
import Derived.Test.YtibahbkjjfmbgaaGreatDoorUA4
import Derived.Test.YtibahbkjjfmbgaaGreatDoorUA2
import Derived.Test.YtibahbkjjfmbgaaGreatDoorUA3
namespace Go.Proofs.YtibahbkjjfmbgaaGreatDoor
open Go.RowKit
def lettersB (x : List UInt8) : Bool := decide (∀ i, i < x.length → ltrB (cB x i) = true)
def codeB (x : List UInt8) (n : Nat) : Bool := decide (1 ≤ x.length ∧ x.length ≤ n) && lettersB x
def noFill (x : List UInt8) : Bool := decide (∀ i, i < x.length → cB x i ≠ 60)
def plainB (x : List UInt8) : Bool := noFill x && validL x
def pairN (x : List UInt8) (i : Nat) : Int :=
 if cB x i = 60 ∧ cB x (i + 1) = 60 then -1 else if cB x i < 48 ∨ 57 < cB x i ∨ cB x (i + 1) < 48 ∨ 57 < cB x (i + 1) then -2 else 10 * (cB x i - 48) + (cB x (i + 1) - 48)
def birthB (x : List UInt8) : Bool :=
 decide (x.length = 6) && (decide (-2 < pairN x 0) && (decide (pairN x 2 = -1 ∨ (1 ≤ pairN x 2 ∧ pairN x 2 ≤ 12)) && decide (pairN x 4 = -1 ∨ (1 ≤ pairN x 4 ∧ pairN x 4 ≤ 31))))
def sexB (x : List UInt8) : Bool := decide (x = [77] ∨ x = [70] ∨ x = [60])
def expB (x : List UInt8) : Bool := decide (psE (S x) 2000 = 0)
def extraB (x : List UInt8) : Bool := validL x && decide (x = [] ∨ (cB x 0 ≠ 60 ∧ cB x (x.length - 1) ≠ 60))
def needN (z : Zn) : Nat := z.op.length + if 9 < z.nu.length then z.nu.length - 7 else 0
def vE1 (z : Zn) : Bool := decide (1 ≤ z.fm ∧ z.fm ≤ 3) && (codeB z.kd 2 && (codeB z.st 3 && (nameL z.su && (decide (z.su ≠ []) && (nameL z.gi && (decide (z.nu ≠ []) && plainB z.nu))))))
def vE (z : Zn) : Int :=
 if vE1 z = false then 14 else if maxN z.fm < z.nu.length then 2 else if codeB z.na 3 = false then 14 else if birthB z.bi = false then 8 else if sexB z.sx = false then 14 else if expB z.ex = false then 8
 else if extraB z.op = false ∨ extraB z.se = false ∨ (z.se ≠ [] ∧ z.fm ≠ 1) then 14 else if optN z.fm < needN z ∨ 11 < z.se.length then 2 else 0
def restT (z : Zn) : List UInt8 := if 9 < z.nu.length then z.nu.drop 9 ++ dgL z.nu ++ [60] ++ z.op else z.op
def tx (z : Zn) (k : Nat) : List UInt8 :=
 if k = 0 then z.kd else if k = 1 then z.st else if k = 2 then fieldL z.su z.gi (namN z.fm) else if k = 3 then z.nu.take 9 else if k = 4 then (if 9 < z.nu.length then [60] else dgL z.nu)
 else if k = 5 then z.na else if k = 6 then z.bi else if k = 7 then dgL z.bi else if k = 8 then z.sx else if k = 9 then z.ex else if k = 10 then dgL z.ex
 else if k = 11 then restT z else if k = 12 then (if z.op = [] then [] else dgL z.op) else if k = 13 then z.se else []
def tx2 (z : Zn) (k : Nat) : List UInt8 := if k = 14 then dgL (cmpT z.fm (linesT z.fm (tx z))) else tx z k
def buildT (z : Zn) : List (List UInt8) := linesT z.fm (tx2 z)
def buildL (z : Zn) : List (List UInt8) := if vE z = 0 then buildT z else []
def wide9 (x : List UInt8) : List UInt8 := wideL x 9
def shapeL (ls : List (List UInt8)) : Int :=
 if ls.length = 3 ∧ (ls.getD 0 []).length = 30 ∧ (ls.getD 1 []).length = 30 ∧ (ls.getD 2 []).length = 30 then 1
 else if ls.length = 2 ∧ (ls.getD 0 []).length = 36 ∧ (ls.getD 1 []).length = 36 then 2
 else if ls.length = 2 ∧ (ls.getD 0 []).length = 44 ∧ (ls.getD 1 []).length = 44 then 3 else 0
def fd (f : Int) (ls : List (List UInt8)) (k : Nat) : List UInt8 := subL ls (plc f k)
def dg1 (T : Nat → List UInt8) : Bool := decide (T 4 = [60] ∨ T 4 = dgL (T 3))
def dg2 (T : Nat → List UInt8) : Bool := decide (T 7 = dgL (T 6) ∧ T 10 = dgL (T 9))
def dg3 (f : Int) (T : Nat → List UInt8) : Bool := decide (f ≠ 3 ∨ T 12 = dgL (T 11) ∨ (trimT (T 11) = [] ∧ T 12 = [60]))
def digsB (f : Int) (T : Nat → List UInt8) : Bool := dg1 T && (dg2 T && dg3 f T)
def kf (x : List UInt8) : Nat := (x.takeWhile (fun b => b ≠ 60)).length
def jE (d f r : List UInt8) : Int := if d ≠ [60] then 0 else if kf r = r.length ∨ kf r < 2 then 1 else if (r.drop (kf r - 1)).take 1 ≠ dgL (f ++ r.take (kf r - 1)) then 13 else 0
def jN (d f r : List UInt8) : List UInt8 := if d ≠ [60] then trimT f else f ++ r.take (kf r - 1)
def jO (d r : List UInt8) : List UInt8 := if d ≠ [60] then trimT r else trimT (r.drop (kf r + 1))
def jnE (T : Nat → List UInt8) : Int := jE (T 4) (T 3) (T 11)
def jnN (T : Nat → List UInt8) : List UInt8 := jN (T 4) (T 3) (T 11)
def jnO (T : Nat → List UInt8) : List UInt8 := jO (T 4) (T 11)
def zoE (f : Int) (T : Nat → List UInt8) : Int := if T 4 = [60] ∧ f = 3 then 1 else if jnE T ≠ 0 then jnE T else spE (T 2)
def zoZ (f : Int) (T : Nat → List UInt8) : Zn := ⟨f, trimT (T 0), trimT (T 1), spA (T 2), spB (T 2), jnN T, trimT (T 5), T 6, T 8, T 9, jnO T, trimT (T 13)⟩
def zoV (f : Int) (T : Nat → List UInt8) : Zn := if zoE f T = 0 then zoZ f T else Zn.zero
def allV (ls : List (List UInt8)) : Bool := ls.all validL
def parE (ls : List (List UInt8)) : Int :=
 if shapeL ls = 0 then 2 else if allV ls = false then 12 else if digsB (shapeL ls) (fd (shapeL ls) ls) = false ∨ fd (shapeL ls) ls 14 ≠ dgL (cmpT (shapeL ls) ls) then 13
 else if zoE (shapeL ls) (fd (shapeL ls) ls) ≠ 0 then zoE (shapeL ls) (fd (shapeL ls) ls) else vE (zoZ (shapeL ls) (fd (shapeL ls) ls))
def parZ (ls : List (List UInt8)) : Zn := if parE ls = 0 then zoZ (shapeL ls) (fd (shapeL ls) ls) else Zn.zero
end Go.Proofs.YtibahbkjjfmbgaaGreatDoor
