/-
  What is proved here: the makers' dice and what they stand on (parts of texts of earlier layers).
-/
import Derived.Test.YtibahbkjjfmbgaaGreatDoorRows
import Derived.Test.YtibahbkjjfmbgaaGreatDoorA1
import Derived.Test.YtibahbkjjfmbgaaGreatDoorA3
import Derived.Laws.BitsAllLaws
import Derived.Lib.Strings
import Derived.Lib.Slices
import Derived.Lib.Small
import Derived.Lib.Walk
import Derived.Lib.BitFns
import Derived.Deep.RegionWith
import Derived.Laws.ResultCell
import Derived.Laws.Rows
import Derived.BigQuiet
import Derived.ProofKit
import Derived.OpenShut
import Derived.ShutString
import Derived.ChangeOld
import Derived.SizedLaws
import Derived.Laws.AppendOwnNone
import Derived.Deep.AppendLies
namespace Go.Proofs.YtibahbkjjfmbgaaGreatDoor
section
open Go.RowKit
/-- how many bytes follow the first one of a length in shortest form -/
def lb (n : Nat) : Nat := if n ≤ 127 then 0 else (Lib.bitLen n + 7) / 8
end
section
open Go.RowKit
section
variable {w w' : World} {p p' : Nat → Prop} {A : Option Addr} {cs : List Value}
end
end
section
open Go.RowKit
def tagN (t : Int) : Nat := if 255 < t then 2 else 1
/-- how many bytes the encodings of objects have -/
def encN : F → Nat
  | .nil => 0
  | .cons t v k r => (tagN t + 1 + lb (v.length + encN k) + (v.length + encN k)) + encN r

end
section
open Go.RowKit
/-- the bytes of a tag -/
def tagL (t : Nat) : List UInt8 := if 255 < t then [UInt8.ofNat (t / 256), UInt8.ofNat t] else [UInt8.ofNat t]
/-- the bytes of a length in shortest form -/
def lenD (n s k : Nat) : List UInt8 := (List.range k).map fun i => UInt8.ofNat (n / 256 ^ (s - 1 - i))
def lenL (n : Nat) : List UInt8 := if n ≤ 127 then [UInt8.ofNat n] else UInt8.ofNat (128 + lb n) :: lenD n (lb n) (lb n)
end
section
open Go.RowKit
/-- the encodings of objects, one behind the other -/
def enc : F → List UInt8
  | .nil => []
  | .cons t v k r => tagL t.toNat ++ lenL (v.length + encN k) ++ v ++ enc k ++ enc r
theorem grown_cell {a b : World} {g : Nat} (h : a.grownBy b (some g)) {p : Addr} (h1 : p.block < a.heap.size) (h2 : p.block ≠ g) : b.cell? p = a.cell? p :=
  by
  obtain ⟨_, _, _, _, h5⟩ := h
  exact World.cell?_of_block (w := a) (h5 p.block h1 (by simpa using fun e => h2 e))

def St (w0 : World) (B g k cap : Nat) (l : List UInt8) (N : Nat) (a b c : Value) (w : World) : Prop :=
  Out w B g k cap l ∧ w0.grownBy w (some g) ∧ (N ≠ g ∧ N < w.heap.size) ∧ w.cell? ⟨N, 0, none⟩ = some a ∧ w.cell? ⟨N, 1, none⟩ = some b ∧ w.cell? ⟨N, 2, none⟩ = some c
section
variable {w0 w w' : World} {B g k k' cap N : Nat} {l l' : List UInt8} {a b c : Value}
theorem St.puts (h : St w0 B g k cap l N a b c w) (ho : Out w' B g k' cap l') (hg : w.grownBy w' (some g)) : St w0 B g k' cap l' N a b c w' := by
  obtain ⟨h1, h2, h3, h4, h5, h6⟩ := h
  exact ⟨ho, grown_trans h2 hg, ⟨h3.1, Nat.lt_of_lt_of_le h3.2 hg.size⟩, (grown_cell hg (p := ⟨N, 0, none⟩) h3.2 h3.1).trans h4, (grown_cell hg (p := ⟨N, 1, none⟩) h3.2 h3.1).trans h5, (grown_cell hg (p := ⟨N, 2, none⟩) h3.2 h3.1).trans h6⟩
theorem St.below (h : St w0 B g k cap l N a b c w) (hb : Below w.heap.size w w') : St w0 B g k cap l N a b c w' :=
  h.puts (own_new h.1 (grown_below hb)) (grown_below hb)
end
end
section
open Go.RowKit
end
section
open Go.RowKit
set_option linter.unusedVariables false
theorem made_mod (n m : Int) (lo : -9223372036854775808 ≤ n) (hi : n ≤ 9223372036854775807) (hm : 0 < m) (hm2 : m ≤ 4611686018427387903) (w : World) :
    Calls Tryz.prog 27 #[.int .i64 n, .int .i64 m] w fun e w' => e = .returned (.int .i64 (n % m)) ∧ w' = w := by
  have hne : m ≠ 0 := by omega
  have ht := Int.tmod_eq_emod (a := n) (b := m)
  have hr0 := Int.emod_nonneg n hne
  have hr1 := Int.emod_lt_of_pos n hm
  by_cases h : n.tmod m < 0
  · have e : n.tmod m + m = n % m := by
      split at ht
      · omega
      · have : ((m.natAbs : Int)) = m := by omega
        omega
    have lt : -m ≤ n.tmod m := by rw [← e] at hr0; omega
    have E := Lib.hid e
    have HM := Lib.hid hm2
    clear ht e
    go_enter Tryz.func27, Tryz.ntmps27
    go_wp2_with fail
    go_ret
    exact ⟨by rw [← E.out]; rfl, rfl⟩
  · have e : n.tmod m = n % m := by
      split at ht
      · omega
      · have : ((m.natAbs : Int)) = m := by omega
        omega
    have E := Lib.hid e
    clear ht e
    go_enter Tryz.func27, Tryz.ntmps27
    go_wp2_with fail
    go_ret
    exact ⟨by rw [← E.out]; rfl, rfl⟩

end
section
open Go.RowKit
set_option linter.unusedVariables false
/-- dice at block D -/
def DiceOk (w : World) (D : Nat) : Prop := ∃ (AL : Option Addr) (cL k : Nat) (ls : List Int), w.heap[D]? = some (.cells #[.slice AL ls.length cL, .int .i64 (k : Int)] 72 (0, 0)) ∧
  k ≤ ls.length ∧ ls.length ≤ 140737488351232 ∧ (∀ x ∈ ls, -9223372036854775808 ≤ x ∧ x ≤ 9223372036854775807) ∧ SeesP w (· < D) AL (ls.map (Value.int .i64))
theorem DiceOk.lt {w : World} {D : Nat} (h : DiceOk w D) : D < w.heap.size := by
  obtain ⟨_, _, _, _, h1, _⟩ := h
  exact lt_of_block h1
/-- carried over whatever leaves the blocks up to D as they were -/
theorem DiceOk.keep {w w' : World} {D : Nat} (h : DiceOk w D) (hk : ∀ k, k ≤ D → w'.heap[k]? = w.heap[k]?) : DiceOk w' D := by
  obtain ⟨AL, cL, k, ls, h1, h2, h3, h4, h5⟩ := h
  exact ⟨AL, cL, k, ls, (hk D (Nat.le_refl _)).trans h1, h2, h3, h4, h5.keep fun q hq => World.cell?_of_block (hk _ (Nat.le_of_lt hq))⟩
theorem DiceOk.below {w w' : World} {D : Nat} (h : DiceOk w D) (hb : Below w.heap.size w w') : DiceOk w' D :=
  h.keep fun k hk => hb.block k (Nat.lt_of_le_of_lt hk h.lt)
theorem DiceOk.grown {w w' : World} {D : Nat} {row : Option Nat} (h : DiceOk w D) (hg : w.grownBy w' row) (hr : ∀ g, row = some g → D < g) : DiceOk w' D :=
  h.keep fun k hk => hg.block k (Nat.lt_of_le_of_lt hk h.lt) (by intro e; have := hr k e.symm; omega)

/-- a number below n -/
def NextIs (w : World) (D n : Nat) (e : Ending) (w' : World) : Prop := ∃ r : Nat, r < n ∧ e = .returned (.int .i64 (r : Int)) ∧ w.grownBy w' (some D) ∧ DiceOk w' D

set_option maxHeartbeats 1000000 in
theorem dice_next (D n : Nat) (w : World) (hn : 0 < n) (hn2 : n ≤ 4611686018427387903) (h : DiceOk w D) :
    Calls Tryz.prog 47 #[.pointer (some ⟨D, 0, none⟩), .int .i64 (n : Int)] w (NextIs w D n) := by
  obtain ⟨AL, cL, k, ls, h1, h2, h3, h4, h5⟩ := h
  have c0 := cell_of_row w D 0 _ _ _ h1
  have c1 := cell_of_row w D 1 _ _ _ h1
  have f1 := frozen_of_row w D 1 _ _ h1
  simp only [List.getElem?_toArray, List.getElem?_cons_succ, List.getElem?_cons_zero] at c0 c1
  by_cases hlt : k < ls.length
  · obtain ⟨x, hx⟩ : ∃ x, x = ls[k] := ⟨_, rfl⟩
    have hxr := h4 x (by rw [hx]; exact List.getElem_mem hlt)
    obtain ⟨b, o, hA, hb, hc⟩ : ∃ b o, AL = some ⟨b, o, none⟩ ∧ b < D ∧ w.cell? ⟨b, o + k, none⟩ = some (.int .i64 x) := by
      rcases h5 with h | ⟨b, o, e, hb, hc⟩
      · have : ls = [] := by simpa using h
        subst this; simp at hlt
      · exact ⟨b, o, e, hb, (hc k (by simpa using hlt)).trans (by simp [hlt, hx])⟩
    have hne : b ≠ D := by omega
    have HS := Lib.hid h5
    subst hA
    obtain ⟨r, hr⟩ : ∃ r : Nat, x % (n : Int) = (r : Int) := ⟨(x % (n : Int)).toNat, by have := Int.emod_nonneg x (show (n : Int) ≠ 0 by omega); omega⟩
    have hrn : r < n := by have := Int.emod_lt_of_pos x (show (0 : Int) < n by omega); omega
    have hM : ∀ u, Calls Tryz.prog 27 #[.int .i64 x, .int .i64 (n : Int)] u fun e w' => e = .returned (.int .i64 (r : Int)) ∧ ∃ q, w' = u.drewN q := fun u => by
      have := made_mod x (n : Int) hxr.1 hxr.2 (by omega) (by omega) u
      rw [hr] at this
      exact this.mono fun e w' ⟨h1, h2⟩ => ⟨h1, 0, h2⟩
    have HM := Lib.hid hM
    have H1 := Lib.hid (show _ ∧ (∀ x ∈ ls, -9223372036854775808 ≤ x ∧ x ≤ 9223372036854775807) from ⟨h1, h4⟩)
    clear hM hx hr h1 h4 h5 hxr
    go_enter Tryz.func47, Tryz.ntmps47
    go_wp2_with fail
    go_quiet (fail)
    go_wp2_with fail
    obtain ⟨W, hW⟩ : ∃ W, W = (w.drewN nq).setCell ⟨D, 1, none⟩ (.int .i64 ((k : Int) + 1)) := ⟨_, rfl⟩
    have e0 : W.cell? ⟨D, 0, none⟩ = some (.slice (some ⟨b, o, none⟩) ls.length cL) := by rw [hW, cell_of_row _ D 0 _ _ _ (block_set (w := w.drewN nq) (i := 1) H1.out.1 _)]; rfl
    have e1 : W.cell? ⟨D, 1, none⟩ = some (.int .i64 ((k : Int) + 1)) := by rw [hW, cell_of_row _ D 1 _ _ _ (block_set (w := w.drewN nq) (i := 1) H1.out.1 _)]; rfl
    have e2 : W.cell? ⟨b, o + k, none⟩ = some (.int .i64 x) := by rw [hW]; exact (World.cell?_of_block (Below.heap_setCell _ _ _ b hne)).trans hc
    have hg : w.grownBy W (some D) := by
      rw [hW]
      exact ⟨rfl, rfl, rfl, Nat.le_of_eq (by simp), fun j _ hj => Below.heap_setCell (w.drewN nq) _ _ j (by simpa using fun e => hj (by rw [e]))⟩
    have hd : DiceOk W D := ⟨some ⟨b, o, none⟩, cL, k + 1, ls, by rw [hW]; exact block_set (w := w.drewN nq) (i := 1) H1.out.1 _, by omega, h3, H1.out.2, HS.out.keep fun q hq => grown_cell hg (Nat.lt_trans hq (lt_of_block H1.out.1)) (Nat.ne_of_lt hq)⟩
    have HF := Lib.hid (show ∀ q, NextIs w D n (.returned (.int .i64 (r : Int))) (W.drewN q) from fun q => ⟨r, hrn, rfl, ⟨hg.os, hg.tape, hg.output, hg.size, hg.block⟩, hd.keep fun _ _ => rfl⟩)
    rw [← hW]
    clear hW hg hd c0 c1 f1 hc HS H1
    go_quiet ((go_at_call 27; exact Calls.quiet_of (HM.out _)))
    go_wp2_with fail
    go_ret
    exact HF.out _
  · have HF := Lib.hid (show DiceOk w D from ⟨AL, cL, k, ls, h1, h2, h3, h4, h5⟩)
    clear h1 h4 h5
    go_enter Tryz.func47, Tryz.ntmps47
    go_wp2_with fail
    go_quiet (fail)
    go_wp2_with fail
    go_ret
    exact ⟨0, hn, rfl, ⟨rfl, rfl, rfl, Nat.le_refl _, fun _ _ _ => rfl⟩, HF.out.keep fun _ _ => rfl⟩

end
section
open Go.RowKit
end
section
open Go.RowKit
def newB (w w' : World) (b : Nat) : Prop := w.heap.size ≤ b ∧ b < w'.heap.size
end
section
open Go.RowKit
theorem own_size3 {w : World} {base : Nat} {e : TypeId} {v : Value} {n : Nat} {xs : List Value} (h : w.ownsRow base e 3 v n xs) : v.ownBlock = none ∨ ∃ g, v.ownBlock = some g ∧ base ≤ g ∧ g < w.heap.size := by
  rcases h.2 with ⟨rfl, _⟩ | ⟨g, cap, cur, rfl, hb, hh, _⟩
  · left; rfl
  · right; exact ⟨g, rfl, hb, lt_of_block hh⟩
end
section
open Go.RowKit
set_option linter.unusedVariables false
/-- a row that was made since: all else but the dice is as it was -/
theorem grown_row {w a b : World} {D : Nat} {row : Option Nat} (h : w.grownBy a (some D)) (hg : a.grownBy b row) (hr : ∀ g, row = some g → w.heap.size ≤ g) : w.grownBy b (some D) := by
  refine ⟨hg.os.trans h.os, hg.tape.trans h.tape, hg.output.trans h.output, Nat.le_trans h.size hg.size, fun k hk hk2 => ?_⟩
  refine (hg.block k (Nat.lt_of_lt_of_le hk h.size) ?_).trans (h.block k hk hk2)
  intro e
  have := hr k e.symm
  omega

theorem byte_of_mod (r : Nat) (h : r < 256) : Value.int .u8 (r : Int) = U (UInt8.ofNat r) := by
  unfold U
  rw [UInt8.toNat_ofNat']
  congr 1
  omega

end
section
open Go.RowKit
set_option linter.unusedVariables false
/-- dice that lie at the end of what was there: what they turn is new -/
theorem below_row {w a b : World} (h : Below w.heap.size w a) (hg : a.grownBy b (some w.heap.size)) : Below w.heap.size w b :=
  h.grown hg h.size (fun k e => by injection e with e; omega)
theorem made_light (A : Option Addr) (n c : Nat) (w : World) (hn : n ≤ 140737488351232) :
    Calls Tryz.prog 16 #[.slice A n c] w fun e w' => e = .returned (.bool (decide (n ≤ 400))) ∧ w' = w := by
  by_cases h : n ≤ 400
  · have d : decide ((n : Int) ≤ 400) = true := by simp; omega
    rw [decide_eq_true h]
    clear h
    go_enter Tryz.func16, Tryz.ntmps16
    go_wp2
    go_ret
    exact ⟨rfl, rfl⟩
  · have d : decide ((n : Int) ≤ 400) = false := by simp; omega
    rw [decide_eq_false h]
    clear h
    go_enter Tryz.func16, Tryz.ntmps16
    go_wp2
    go_ret
    exact ⟨rfl, rfl⟩

theorem made_roll (A : Option Addr) (c : Nat) (ls : List Int) (w : World) (hl : ls.length ≤ 140737488351232) (hr : ∀ x ∈ ls, -9223372036854775808 ≤ x ∧ x ≤ 9223372036854775807) (hs : SeesP w (· < w.heap.size) A (ls.map (Value.int .i64))) :
    Calls Tryz.prog 18 #[.slice A ls.length c] w fun e w' => e = .returned (.pointer (some ⟨w.heap.size, 0, none⟩)) ∧ DiceOk w' w.heap.size ∧ Below w.heap.size w w' := by
  have hd : DiceOk (w.alloc (.cells #[.slice A ls.length c, .int .i64 0] 72)) w.heap.size :=
    ⟨A, c, 0, ls, heap_alloc_new w _, Nat.zero_le _, hl, hr, hs.keep fun q hq => World.cell?_alloc_lt w _ q hq⟩
  have HD := Lib.hid hd
  clear hd hs hr
  go_enter Tryz.func18, Tryz.ntmps18
  go_wp2
  go_ret
  exact ⟨rfl, HD.out, (Below.refl _ _).alloc (Nat.le_refl _) _⟩

end
section
open Go.ChangeShapes Go.WideShapes Go.ChangeAt Go.RowKit
theorem laidOut : laidOutB Tryz.prog = true := by kernel_rfl
variable {H : Type} {enc : TypeId × Value → H} {W : World}
end
section
open Go.ChangeShapes Go.WideShapes Go.ChangeAt Go.RowKit
theorem cells_int : Tryz.prog.cellsOf 3 = 1 := by kernel_rfl
theorem bytes_int : Tryz.prog.bytesOf 3 = 8 := by kernel_rfl

variable {H : Type} {enc : TypeId × Value → H} {W : World}
theorem open_i64s {A : Option Addr} {len cap : Nat} {d : DataW H} {p : List MemPlace} (hf : DataW.Trod enc Tryz.prog W 0 (fun _ => true) true 26 (.slice A len cap) d p)
    (lt : ∀ q ∈ p, q.block < W.heap.size) :
    ∃ x : List Int, len = x.length ∧ SeesP W (· < W.heap.size) A (x.map (Value.int .i64)) ∧ (∀ y ∈ x, -9223372036854775808 ≤ y ∧ y ≤ 9223372036854775807) ∧ len ≤ cap ∧ (cap = 0 ∨ ∃ es sp, d = .slice es sp ∧ es.length + sp.length = cap) := by
  obtain ⟨fuel, hf⟩ := hf
  rcases open_ints Tryz.underlying26 Tryz.underlying3 cells_int hf with ⟨hcs, _⟩ | ⟨a, l, c, zs, hcs, _, hl, hm, hz, hx, hcell, hwz⟩
  · simp [Value.cells] at hcs
    obtain ⟨rfl, rfl, rfl⟩ := hcs
    exact ⟨[], rfl, .inl rfl, by simp, Nat.le_refl _, .inl rfl⟩
  · simp [Value.cells] at hcs
    obtain ⟨rfl, rfl, rfl⟩ := hcs
    simp only [Prod.mk.injEq] at hx
    obtain ⟨rfl, rfl⟩ := hx
    simp only [if_true] at hz
    refine ⟨zs.take len, by simp; omega, ?_, ?_, hl, .inr ⟨_, _, rfl, by simp [lits]; omega⟩⟩
    · rcases Nat.eq_zero_or_pos len with h0 | h0
      · subst h0; exact .inl (by simp)
      · obtain ⟨b, off, spot⟩ := a
        have hspot : spot = none := by simpa [Addr.add] using World.cell?_spot (hcell 0 (by omega))
        subst hspot
        have hb : b < W.heap.size := lt (.cell b off) (MemPlace.mem_row.2 ⟨0, by omega, by simp⟩)
        refine .inr ⟨b, off, rfl, hb, fun j hj => ?_⟩
        have hj' : j < len := by simp at hj; omega
        have hjz : j < zs.length := by omega
        have hadd : (⟨b, off, none⟩ : Addr).add j = ⟨b, off + j, none⟩ := by unfold Addr.add; split <;> simp_all
        rw [← hadd, hcell j hjz]
        have hg : zs.getD j 0 = zs[j] := by simp [List.getD, hjz]
        rw [hg]
        simp [hj', hjz]
    · intro y hy
      have := hwz y (List.mem_of_mem_take hy)
      simpa [Lit.wf, IntKind.min, IntKind.max, IntKind.signed, IntKind.bits] using this

theorem reach_i64s {ts : List TypeId} {ds : List (DataW H)} (h : (DataW.weightsEach Tryz.prog ts ds).all (· ≤ reachBytes) = true) {j : Nat} {d : DataW H} (ht : ts[j]? = some 26) (hd : ds[j]? = some d)
    {len cap : Nat} (hl : len ≤ cap) (hc : cap = 0 ∨ ∃ es sp, d = .slice es sp ∧ es.length + sp.length = cap) : len ≤ 140737488351232 := by
  rcases hc with rfl | ⟨es, sp, rfl, rfl⟩
  · omega
  · have := sized_slice h ht hd Tryz.underlying26
    rw [bytes_int] at this
    simp only [reachBytes] at this
    omega

end
section
open Go.RowKit
set_option linter.unusedVariables false
/-- an append of bytes that lie apart, or of none, onto a row of the call's own -/
theorem app_bytes {P : Program} {w : World} {ops : Array Oper} {rest : List Oper} {o : Oper} {a : Act} {Q : Exit → Act → World → Prop} (hgd : o.guard = none) (s x : Operand) (t : TypeId)
    (ho : o.op = .call { callee := .builtin .append, args := #[s, x], argTypes := #[t, t] })
    (base : Nat) (e : TypeId) (i : TypeInfo) (z : Value) (ht : P.underlying t = some (.slice e)) (hi : P.info? e = some i) (hz : i.zero = some z)
    (hsize : i.size = 1) (hby : i.bytes = 1) (hzs : z.cells.size = 1)
    (v : Value) (n : Nat) (xs : List Value) (hs : a.eval s = v) (hown : w.ownsRow base e 1 v n xs)
    (A : Option Addr) (c : Nat) (cb : List UInt8) (p : Nat → Prop) (hx : a.eval x = .slice A cb.length c) (hn : A = none → c = 0) (hc : SeesP w p A (Us cb))
    (h63 : n + cb.length ≤ maxLen) (hbytes : n + cb.length ≤ 140737488355328) (hbase : base ≤ w.heap.size)
    (h : ∀ v' w', w'.ownsRow base e 1 v' (n + cb.length) (xs ++ Us cb) → w.grownBy w' v.ownBlock → wpList P ops Q rest (a.put o.dst v') w') : wpList P ops Q (o :: rest) a w := by
  cases A with
  | none =>
    have h1 : cb = [] := by have := congrArg List.length hc.none_nil; rw [Us_length] at this; exact List.eq_nil_of_length_eq_zero this
    have h2 := hn rfl
    subst h1 h2
    exact wpList_append_own_none hgd s x t ho base e i 1 ht hi v n xs hs hown hx (h v w (by simpa [Us] using hown) (World.grownBy.refl _ _))
  | some ad =>
    exact wpList_append_own w hgd s x t ho base e i z 1 1 ht hi hz hsize hby hzs (by decide) v n xs hs hown ad cb.length c (Us cb) hx (by rw [Us_length]; omega) (hc.src ad rfl) (Us_one _) h63 (by omega) hbase fun v' w' h1 h2 _ => h v' w' h1 h2
theorem own_len {w : World} {base n : Nat} {e : TypeId} {v : Value} {xs : List Value} (h : w.ownsRow base e 1 v n xs) : ∃ A c, v = .slice A n c := by
  rcases h.2 with ⟨rfl, rfl⟩ | ⟨g, cap, cur, rfl, _⟩
  · exact ⟨none, 0, rfl⟩
  · exact ⟨_, cap, rfl⟩
/-- all that a row of the call's own grows by lies behind what was there -/
theorem below_own {w a b : World} {t : TypeId} {s : Nat} {v : Value} {n : Nat} {xs : List Value} (h : Below w.heap.size w a) (ho : a.ownsRow w.heap.size t s v n xs) (hg : a.grownBy b v.ownBlock) : Below w.heap.size w b :=
  h.grown hg h.size (fun k e => (ho.lt k e).1)
end
end Go.Proofs.YtibahbkjjfmbgaaGreatDoor
