/-
  What is proved here: plain definitions of a zone as a value and of the places of the fields in its lines, without any memory; plain facts on them.
-/
import Derived.Test.YtdlcoilpkelbaaaGreatDoorRows
import Derived.Test.YtdlcoilpkelbaaaGreatDoorKit
import Derived.Test.YtdlcoilpkelbaaaGreatDoorStr
namespace Go.Proofs.YtdlcoilpkelbaaaGreatDoor
open Go.RowKit

/-- a zone -/
structure Zn where
  fm : Int
  kd : List UInt8
  st : List UInt8
  su : List UInt8
  gi : List UInt8
  nu : List UInt8
  na : List UInt8
  bi : List UInt8
  sx : List UInt8
  ex : List UInt8
  op : List UInt8
  se : List UInt8
deriving DecidableEq
def Zn.val (z : Zn) : Value := .agg #[.int .i64 z.fm, .string (S z.kd), .string (S z.st), .string (S z.su), .string (S z.gi), .string (S z.nu), .string (S z.na), .string (S z.bi), .string (S z.sx), .string (S z.ex), .string (S z.op), .string (S z.se)]
def Zn.zero : Zn := ⟨0, [], [], [], [], [], [], [], [], [], [], []⟩

def maxN (f : Int) : Nat := if f = 1 then 20 else if f = 2 then 14 else if f = 3 then 9 else 0
def optN (f : Int) : Nat := if f = 1 then 15 else if f = 2 then 7 else if f = 3 then 14 else 0
def namN (f : Int) : Nat := if f = 1 then 30 else if f = 2 then 31 else if f = 3 then 39 else 0
/-! ## lines -/
/-- the fields of a line: their numbers and sizes -/
def segs (f : Int) (i : Nat) : List (Nat × Nat) :=
  if f = 3 then (if i = 0 then [(0, 2), (1, 3), (2, 39)] else [(3, 9), (4, 1), (5, 3), (6, 6), (7, 1), (8, 1), (9, 6), (10, 1), (11, 14), (12, 1), (14, 1)])
  else if f = 2 then (if i = 0 then [(0, 2), (1, 3), (2, 31)] else [(3, 9), (4, 1), (5, 3), (6, 6), (7, 1), (8, 1), (9, 6), (10, 1), (11, 7), (14, 1)])
  else (if i = 0 then [(0, 2), (1, 3), (3, 9), (4, 1), (11, 15)] else if i = 1 then [(6, 6), (7, 1), (8, 1), (9, 6), (10, 1), (5, 3), (13, 11), (14, 1)] else [(2, 30)])
/-- where a field is: line, from, to -/
def plcs (f : Int) : List (Nat × Nat × Nat) :=
  if f = 3 then [(0, 0, 2), (0, 2, 5), (0, 5, 44), (1, 0, 9), (1, 9, 10), (1, 10, 13), (1, 13, 19), (1, 19, 20), (1, 20, 21), (1, 21, 27), (1, 27, 28), (1, 28, 42), (1, 42, 43), (0, 0, 0), (1, 43, 44)]
  else if f = 2 then [(0, 0, 2), (0, 2, 5), (0, 5, 36), (1, 0, 9), (1, 9, 10), (1, 10, 13), (1, 13, 19), (1, 19, 20), (1, 20, 21), (1, 21, 27), (1, 27, 28), (1, 28, 35), (1, 35, 35), (0, 0, 0), (1, 35, 36)]
  else [(0, 0, 2), (0, 2, 5), (2, 0, 30), (0, 5, 14), (0, 14, 15), (1, 15, 18), (1, 0, 6), (1, 6, 7), (1, 7, 8), (1, 8, 14), (1, 14, 15), (0, 15, 30), (0, 0, 0), (1, 18, 29), (1, 29, 30)]
def plc (f : Int) (k : Nat) : Nat × Nat × Nat := (plcs f).getD k (0, 0, 0)
def cmps (f : Int) : List (Nat × Nat × Nat) :=
  if f = 3 then [(1, 0, 10), (1, 13, 20), (1, 21, 43), (0, 0, 0)] else if f = 2 then [(1, 0, 10), (1, 13, 20), (1, 21, 35), (0, 0, 0)] else [(0, 5, 30), (1, 0, 7), (1, 8, 15), (1, 18, 29)]
def widN (f : Int) : Nat := if f = 3 then 44 else if f = 2 then 36 else 30
def cntN (f : Int) : Nat := if f = 3 then 2 else if f = 2 then 2 else 3
def subL (ls : List (List UInt8)) (p : Nat × Nat × Nat) : List UInt8 := ((ls.getD p.1 []).drop p.2.1).take (p.2.2 - p.2.1)
def cmpT (f : Int) (ls : List (List UInt8)) : List UInt8 := (cmps f).flatMap (subL ls)
def padT (n : Nat) (x : List UInt8) : List UInt8 := x.take n ++ List.replicate (n - x.length) 60
def lineT (sg : List (Nat × Nat)) (T : Nat → List UInt8) : List UInt8 := sg.flatMap fun p => padT p.2 (T p.1)
def linesT (f : Int) (T : Nat → List UInt8) : List (List UInt8) := (List.range (cntN f)).map fun i => lineT (segs f i) T
end Go.Proofs.YtdlcoilpkelbaaaGreatDoor
