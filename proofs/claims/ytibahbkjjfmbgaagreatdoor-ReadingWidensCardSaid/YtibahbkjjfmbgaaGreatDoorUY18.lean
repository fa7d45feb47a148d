/-
  What is proved here: the makers' dice and what they stand on (parts of texts of earlier layers).
-/
import Derived.Test.YtibahbkjjfmbgaaGreatDoorRows
import Derived.Test.YtibahbkjjfmbgaaGreatDoorUA1
import Derived.Test.YtibahbkjjfmbgaaGreatDoorUA3
import Derived.Laws.BitsAllLaws
import Derived.Lib.Strings
import Derived.Lib.Slices
import Derived.Lib.Small
import Derived.Lib.Walk
import Derived.Lib.BitFns
import Derived.Deep.RegionWith
import Derived.Laws.ResultCell
import Derived.Laws.Rows
import Derived.BigQuiet
import Derived.ProofKit
import Derived.OpenShut
import Derived.ShutString
import Derived.ChangeOld
import Derived.SizedLaws
import Derived.Laws.AppendOwnNone
import Derived.Deep.AppendLies
import Derived.Test.YtibahbkjjfmbgaaGreatDoorUA4
namespace Go.Proofs.YtibahbkjjfmbgaaGreatDoor
section
open Go.RowKit
def lb (n : Nat) : Nat := if n ≤ 127 then 0 else (Lib.bitLen n + 7) / 8
end
section
open Go.RowKit
section
variable {w w' : World} {p p' : Nat → Prop} {A : Option Addr} {cs : List Value}
end
end
section
open Go.RowKit
def tagN (t : Int) : Nat := if 255 < t then 2 else 1
def encN : F → Nat
 | .nil => 0
 | .cons t v k r => (tagN t + 1 + lb (v.length + encN k) + (v.length + encN k)) + encN r
end
section
open Go.RowKit
def tagL (t : Nat) : List UInt8 := if 255 < t then [UInt8.ofNat (t / 256), UInt8.ofNat t] else [UInt8.ofNat t]
def lenD (n s k : Nat) : List UInt8 := (List.range k).map fun i => UInt8.ofNat (n / 256 ^ (s - 1 - i))
def lenL (n : Nat) : List UInt8 := if n ≤ 127 then [UInt8.ofNat n] else UInt8.ofNat (128 + lb n) :: lenD n (lb n) (lb n)
end
section
open Go.RowKit
def enc : F → List UInt8
 | .nil => []
 | .cons t v k r => tagL t.toNat ++ lenL (v.length + encN k) ++ v ++ enc k ++ enc r
theorem grown_cell {a b : World} {g : Nat} (h : a.grownBy b (some g)) {p : Addr} (h1 : p.block < a.heap.size) (h2 : p.block ≠ g) : b.cell? p = a.cell? p :=
 by
 obtain ⟨_, _, _, _, h5⟩ := h
 exact World.cell?_of_block (w := a) (h5 p.block h1 (by simpa using fun e => h2 e))
def St (w0 : World) (B g k cap : Nat) (l : List UInt8) (N : Nat) (a b c : Value) (w : World) : Prop :=
 Out w B g k cap l ∧ w0.grownBy w (some g) ∧ (N ≠ g ∧ N < w.heap.size) ∧ w.cell? ⟨N, 0, none⟩ = some a ∧ w.cell? ⟨N, 1, none⟩ = some b ∧ w.cell? ⟨N, 2, none⟩ = some c
section
variable {w0 w w' : World} {B g k k' cap N : Nat} {l l' : List UInt8} {a b c : Value}
theorem St.puts (h : St w0 B g k cap l N a b c w) (ho : Out w' B g k' cap l') (hg : w.grownBy w' (some g)) : St w0 B g k' cap l' N a b c w' := by
 obtain ⟨h1, h2, h3, h4, h5, h6⟩ := h
 exact ⟨ho, grown_trans h2 hg, ⟨h3.1, Nat.lt_of_lt_of_le h3.2 hg.size⟩, (grown_cell hg (p := ⟨N, 0, none⟩) h3.2 h3.1).trans h4, (grown_cell hg (p := ⟨N, 1, none⟩) h3.2 h3.1).trans h5, (grown_cell hg (p := ⟨N, 2, none⟩) h3.2 h3.1).trans h6⟩
theorem St.below (h : St w0 B g k cap l N a b c w) (hb : Below w.heap.size w w') : St w0 B g k cap l N a b c w' :=
 h.puts (own_new h.1 (grown_below hb)) (grown_below hb)
end
end
section
open Go.RowKit
end
section
open Go.RowKit
set_option linter.unusedVariables false
theorem made_mod (n m : Int) (lo : -9223372036854775808 ≤ n) (hi : n ≤ 9223372036854775807) (hm : 0 < m) (hm2 : m ≤ 4611686018427387903) (w : World) :
 Calls Tryz.prog 27 #[.int .i64 n, .int .i64 m] w fun e w' => e = .returned (.int .i64 (n % m)) ∧ w' = w := by
 have hne : m ≠ 0 := by omega
 have ht := Int.tmod_eq_emod (a := n) (b := m)
 have hr0 := Int.emod_nonneg n hne
 have hr1 := Int.emod_lt_of_pos n hm
 by_cases h : n.tmod m < 0
 · have e : n.tmod m + m = n % m := by
    split at ht
    · omega
    · have : ((m.natAbs : Int)) = m := by omega
      omega
   have lt : -m ≤ n.tmod m := by rw [← e] at hr0; omega
   have E := Lib.hid e
   have HM := Lib.hid hm2
   clear ht e
   go_enter Tryz.func27, Tryz.ntmps27
   go_wp2_with fail
   go_ret
   exact ⟨by rw [← E.out]; rfl, rfl⟩
 · have e : n.tmod m = n % m := by
    split at ht
    · omega
    · have : ((m.natAbs : Int)) = m := by omega
      omega
   have E := Lib.hid e
   clear ht e
   go_enter Tryz.func27, Tryz.ntmps27
   go_wp2_with fail
   go_ret
   exact ⟨by rw [← E.out]; rfl, rfl⟩
end
section
open Go.RowKit
set_option linter.unusedVariables false
def DiceOk (w : World) (D : Nat) : Prop := ∃ (AL : Option Addr) (cL k : Nat) (ls : List Int), w.heap[D]? = some (.cells #[.slice AL ls.length cL, .int .i64 (k : Int)] 72 (0, 0)) ∧
 k ≤ ls.length ∧ ls.length ≤ 140737488351232 ∧ (∀ x ∈ ls, -9223372036854775808 ≤ x ∧ x ≤ 9223372036854775807) ∧ SeesP w (· < D) AL (ls.map (Value.int .i64))
theorem DiceOk.lt {w : World} {D : Nat} (h : DiceOk w D) : D < w.heap.size := by
 obtain ⟨_, _, _, _, h1, _⟩ := h
 exact lt_of_block h1
theorem DiceOk.keep {w w' : World} {D : Nat} (h : DiceOk w D) (hk : ∀ k, k ≤ D → w'.heap[k]? = w.heap[k]?) : DiceOk w' D := by
 obtain ⟨AL, cL, k, ls, h1, h2, h3, h4, h5⟩ := h
 exact ⟨AL, cL, k, ls, (hk D (Nat.le_refl _)).trans h1, h2, h3, h4, h5.keep fun q hq => World.cell?_of_block (hk _ (Nat.le_of_lt hq))⟩
theorem DiceOk.below {w w' : World} {D : Nat} (h : DiceOk w D) (hb : Below w.heap.size w w') : DiceOk w' D :=
 h.keep fun k hk => hb.block k (Nat.lt_of_le_of_lt hk h.lt)
theorem DiceOk.grown {w w' : World} {D : Nat} {row : Option Nat} (h : DiceOk w D) (hg : w.grownBy w' row) (hr : ∀ g, row = some g → D < g) : DiceOk w' D :=
 h.keep fun k hk => hg.block k (Nat.lt_of_le_of_lt hk h.lt) (by intro e; have := hr k e.symm; omega)
def NextIs (w : World) (D n : Nat) (e : Ending) (w' : World) : Prop := ∃ r : Nat, r < n ∧ e = .returned (.int .i64 (r : Int)) ∧ w.grownBy w' (some D) ∧ DiceOk w' D
set_option maxHeartbeats 1000000 in
theorem dice_next (D n : Nat) (w : World) (hn : 0 < n) (hn2 : n ≤ 4611686018427387903) (h : DiceOk w D) :
 Calls Tryz.prog 47 #[.pointer (some ⟨D, 0, none⟩), .int .i64 (n : Int)] w (NextIs w D n) := by
 obtain ⟨AL, cL, k, ls, h1, h2, h3, h4, h5⟩ := h
 have c0 := cell_of_row w D 0 _ _ _ h1
 have c1 := cell_of_row w D 1 _ _ _ h1
 have f1 := frozen_of_row w D 1 _ _ h1
 simp only [List.getElem?_toArray, List.getElem?_cons_succ, List.getElem?_cons_zero] at c0 c1
 by_cases hlt : k < ls.length
 ·
  obtain ⟨x, hx⟩ : ∃ x, x = ls[k] := ⟨_, rfl⟩
  have hxr := h4 x (by rw [hx]; exact List.getElem_mem hlt)
  obtain ⟨b, o, hA, hb, hc⟩ : ∃ b o, AL = some ⟨b, o, none⟩ ∧ b < D ∧ w.cell? ⟨b, o + k, none⟩ = some (.int .i64 x) := by
   rcases h5 with h | ⟨b, o, e, hb, hc⟩
   · have : ls = [] := by simpa using h
     subst this; simp at hlt
   · exact ⟨b, o, e, hb, (hc k (by simpa using hlt)).trans (by simp [hlt, hx])⟩
  have hne : b ≠ D := by omega
  have HS := Lib.hid h5
  subst hA
  obtain ⟨r, hr⟩ : ∃ r : Nat, x % (n : Int) = (r : Int) := ⟨(x % (n : Int)).toNat, by have := Int.emod_nonneg x (show (n : Int) ≠ 0 by omega); omega⟩
  have hrn : r < n := by have := Int.emod_lt_of_pos x (show (0 : Int) < n by omega); omega
  have hM : ∀ u, Calls Tryz.prog 27 #[.int .i64 x, .int .i64 (n : Int)] u fun e w' => e = .returned (.int .i64 (r : Int)) ∧ ∃ q, w' = u.drewN q := fun u => by
   have := made_mod x (n : Int) hxr.1 hxr.2 (by omega) (by omega) u
   rw [hr] at this
   exact this.mono fun e w' ⟨h1, h2⟩ => ⟨h1, 0, h2⟩
  have HM := Lib.hid hM
  have H1 := Lib.hid (show _ ∧ (∀ x ∈ ls, -9223372036854775808 ≤ x ∧ x ≤ 9223372036854775807) from ⟨h1, h4⟩)
  clear hM hx hr h1 h4 h5 hxr
  go_enter Tryz.func47, Tryz.ntmps47
  go_wp2_with fail
  go_quiet (fail)
  go_wp2_with fail
  obtain ⟨W, hW⟩ : ∃ W, W = (w.drewN nq).setCell ⟨D, 1, none⟩ (.int .i64 ((k : Int) + 1)) := ⟨_, rfl⟩
  have e0 : W.cell? ⟨D, 0, none⟩ = some (.slice (some ⟨b, o, none⟩) ls.length cL) := by rw [hW, cell_of_row _ D 0 _ _ _ (block_set (w := w.drewN nq) (i := 1) H1.out.1 _)]; rfl
  have e1 : W.cell? ⟨D, 1, none⟩ = some (.int .i64 ((k : Int) + 1)) := by rw [hW, cell_of_row _ D 1 _ _ _ (block_set (w := w.drewN nq) (i := 1) H1.out.1 _)]; rfl
  have e2 : W.cell? ⟨b, o + k, none⟩ = some (.int .i64 x) := by rw [hW]; exact (World.cell?_of_block (Below.heap_setCell _ _ _ b hne)).trans hc
  have hg : w.grownBy W (some D) := by
   rw [hW]
   exact ⟨rfl, rfl, rfl, Nat.le_of_eq (by simp), fun j _ hj => Below.heap_setCell (w.drewN nq) _ _ j (by simpa using fun e => hj (by rw [e]))⟩
  have hd : DiceOk W D := ⟨some ⟨b, o, none⟩, cL, k + 1, ls, by rw [hW]; exact block_set (w := w.drewN nq) (i := 1) H1.out.1 _, by omega, h3, H1.out.2, HS.out.keep fun q hq => grown_cell hg (Nat.lt_trans hq (lt_of_block H1.out.1)) (Nat.ne_of_lt hq)⟩
  have HF := Lib.hid (show ∀ q, NextIs w D n (.returned (.int .i64 (r : Int))) (W.drewN q) from fun q => ⟨r, hrn, rfl, ⟨hg.os, hg.tape, hg.output, hg.size, hg.block⟩, hd.keep fun _ _ => rfl⟩)
  rw [← hW]
  clear hW hg hd c0 c1 f1 hc HS H1
  go_quiet ((go_at_call 27; exact Calls.quiet_of (HM.out _)))
  go_wp2_with fail
  go_ret
  exact HF.out _
 · have HF := Lib.hid (show DiceOk w D from ⟨AL, cL, k, ls, h1, h2, h3, h4, h5⟩)
   clear h1 h4 h5
   go_enter Tryz.func47, Tryz.ntmps47
   go_wp2_with fail
   go_quiet (fail)
   go_wp2_with fail
   go_ret
   exact ⟨0, hn, rfl, ⟨rfl, rfl, rfl, Nat.le_refl _, fun _ _ _ => rfl⟩, HF.out.keep fun _ _ => rfl⟩
end
section
open Go.RowKit
end
section
open Go.RowKit
end
section
open Go.RowKit
end
section
open Go.RowKit
set_option linter.unusedVariables false
theorem grown_row {w a b : World} {D : Nat} {row : Option Nat} (h : w.grownBy a (some D)) (hg : a.grownBy b row) (hr : ∀ g, row = some g → w.heap.size ≤ g) : w.grownBy b (some D) := by
 refine ⟨hg.os.trans h.os, hg.tape.trans h.tape, hg.output.trans h.output, Nat.le_trans h.size hg.size, fun k hk hk2 => ?_⟩
 refine (hg.block k (Nat.lt_of_lt_of_le hk h.size) ?_).trans (h.block k hk hk2)
 intro e
 have := hr k e.symm
 omega
end
section
open Go.RowKit
set_option linter.unusedVariables false
theorem below_row {w a b : World} (h : Below w.heap.size w a) (hg : a.grownBy b (some w.heap.size)) : Below w.heap.size w b :=
 h.grown hg h.size (fun k e => by injection e with e; omega)
theorem made_light (A : Option Addr) (n c : Nat) (w : World) (hn : n ≤ 140737488351232) :
 Calls Tryz.prog 16 #[.slice A n c] w fun e w' => e = .returned (.bool (decide (n ≤ 400))) ∧ w' = w := by
 by_cases h : n ≤ 400
 · have d : decide ((n : Int) ≤ 400) = true := by simp; omega
   rw [decide_eq_true h]
   clear h
   go_enter Tryz.func16, Tryz.ntmps16
   go_wp2
   go_ret
   exact ⟨rfl, rfl⟩
 · have d : decide ((n : Int) ≤ 400) = false := by simp; omega
   rw [decide_eq_false h]
   clear h
   go_enter Tryz.func16, Tryz.ntmps16
   go_wp2
   go_ret
   exact ⟨rfl, rfl⟩
theorem made_roll (A : Option Addr) (c : Nat) (ls : List Int) (w : World) (hl : ls.length ≤ 140737488351232) (hr : ∀ x ∈ ls, -9223372036854775808 ≤ x ∧ x ≤ 9223372036854775807) (hs : SeesP w (· < w.heap.size) A (ls.map (Value.int .i64))) :
 Calls Tryz.prog 18 #[.slice A ls.length c] w fun e w' => e = .returned (.pointer (some ⟨w.heap.size, 0, none⟩)) ∧ DiceOk w' w.heap.size ∧ Below w.heap.size w w' := by
 have hd : DiceOk (w.alloc (.cells #[.slice A ls.length c, .int .i64 0] 72)) w.heap.size :=
  ⟨A, c, 0, ls, heap_alloc_new w _, Nat.zero_le _, hl, hr, hs.keep fun q hq => World.cell?_alloc_lt w _ q hq⟩
 have HD := Lib.hid hd
 clear hd hs hr
 go_enter Tryz.func18, Tryz.ntmps18
 go_wp2
 go_ret
 exact ⟨rfl, HD.out, (Below.refl _ _).alloc (Nat.le_refl _) _⟩
end
section
open Go.ChangeShapes Go.WideShapes Go.ChangeAt Go.RowKit
theorem laidOut : laidOutB Tryz.prog = true := by kernel_rfl
variable {H : Type} {enc : TypeId × Value → H} {W : World}
end
section
open Go.ChangeShapes Go.WideShapes Go.ChangeAt Go.RowKit
theorem cells_int : Tryz.prog.cellsOf 3 = 1 := by kernel_rfl
theorem bytes_int : Tryz.prog.bytesOf 3 = 8 := by kernel_rfl
variable {H : Type} {enc : TypeId × Value → H} {W : World}
theorem open_i64s {A : Option Addr} {len cap : Nat} {d : DataW H} {p : List MemPlace} (hf : DataW.Trod enc Tryz.prog W 0 (fun _ => true) true 26 (.slice A len cap) d p)
 (lt : ∀ q ∈ p, q.block < W.heap.size) :
 ∃ x : List Int, len = x.length ∧ SeesP W (· < W.heap.size) A (x.map (Value.int .i64)) ∧ (∀ y ∈ x, -9223372036854775808 ≤ y ∧ y ≤ 9223372036854775807) ∧ len ≤ cap ∧ (cap = 0 ∨ ∃ es sp, d = .slice es sp ∧ es.length + sp.length = cap) := by
 obtain ⟨fuel, hf⟩ := hf
 rcases open_ints Tryz.underlying26 Tryz.underlying3 cells_int hf with ⟨hcs, _⟩ | ⟨a, l, c, zs, hcs, _, hl, hm, hz, hx, hcell, hwz⟩
 · simp [Value.cells] at hcs
   obtain ⟨rfl, rfl, rfl⟩ := hcs
   exact ⟨[], rfl, .inl rfl, by simp, Nat.le_refl _, .inl rfl⟩
 ·
  simp [Value.cells] at hcs
  obtain ⟨rfl, rfl, rfl⟩ := hcs
  simp only [Prod.mk.injEq] at hx
  obtain ⟨rfl, rfl⟩ := hx
  simp only [if_true] at hz
  refine ⟨zs.take len, by simp; omega, ?_, ?_, hl, .inr ⟨_, _, rfl, by simp [lits]; omega⟩⟩
  ·
   rcases Nat.eq_zero_or_pos len with h0 | h0
   · subst h0; exact .inl (by simp)
   · obtain ⟨b, off, spot⟩ := a
     have hspot : spot = none := by simpa [Addr.add] using World.cell?_spot (hcell 0 (by omega))
     subst hspot
     have hb : b < W.heap.size := lt (.cell b off) (MemPlace.mem_row.2 ⟨0, by omega, by simp⟩)
     refine .inr ⟨b, off, rfl, hb, fun j hj => ?_⟩
     have hj' : j < len := by simp at hj; omega
     have hjz : j < zs.length := by omega
     have hadd : (⟨b, off, none⟩ : Addr).add j = ⟨b, off + j, none⟩ := by unfold Addr.add; split <;> simp_all
     rw [← hadd, hcell j hjz]
     have hg : zs.getD j 0 = zs[j] := by simp [List.getD, hjz]
     rw [hg]
     simp [hj', hjz]
  · intro y hy
    have := hwz y (List.mem_of_mem_take hy)
    simpa [Lit.wf, IntKind.min, IntKind.max, IntKind.signed, IntKind.bits] using this
theorem reach_i64s {ts : List TypeId} {ds : List (DataW H)} (h : (DataW.weightsEach Tryz.prog ts ds).all (· ≤ reachBytes) = true) {j : Nat} {d : DataW H} (ht : ts[j]? = some 26) (hd : ds[j]? = some d)
 {len cap : Nat} (hl : len ≤ cap) (hc : cap = 0 ∨ ∃ es sp, d = .slice es sp ∧ es.length + sp.length = cap) : len ≤ 140737488351232 := by
 rcases hc with rfl | ⟨es, sp, rfl, rfl⟩
 · omega
 · have := sized_slice h ht hd Tryz.underlying26
   rw [bytes_int] at this
   simp only [reachBytes] at this
   omega
end
section
open Go.RowKit
set_option linter.unusedVariables false
theorem own_len {w : World} {base n : Nat} {e : TypeId} {v : Value} {xs : List Value} (h : w.ownsRow base e 1 v n xs) : ∃ A c, v = .slice A n c := by
 rcases h.2 with ⟨rfl, rfl⟩ | ⟨g, cap, cur, rfl, _⟩
 · exact ⟨none, 0, rfl⟩
 · exact ⟨_, cap, rfl⟩
end
end Go.Proofs.YtibahbkjjfmbgaaGreatDoor
namespace Go.Proofs.YtibahbkjjfmbgaaGreatDoor
open Go.RowKit
set_option linter.unusedVariables false
def allL (x : List UInt8) : Prop := ∀ k, k < x.length → ltrB (cB x k) = true
theorem name_word {x : List UInt8} (h : allL x) : nameL x = true := nameL_good fun k hk => okP_let (h k hk)
theorem name_more {x y : List UInt8} (hx : nameL x = true) (hx0 : x ≠ []) (hy : allL y) (hy0 : y ≠ []) : nameL (x ++ [32] ++ y) = true := by
 have hxp := List.length_pos_iff.2 hx0
 have hyp := List.length_pos_iff.2 hy0
 have hc : ∀ i, cB (x ++ [32] ++ y) i = if i < x.length then cB x i else if i = x.length then 32 else cB y (i - x.length - 1) := fun i => by
  rw [List.append_assoc, cB_app]
  split
  · rfl
  · rw [cB_app]
    simp only [List.length_cons, List.length_nil]
    split
    · rename_i h1 h2
      rw [if_pos (by omega), show i - x.length = 0 by omega]; rfl
    · rename_i h1 h2
      rw [if_neg (by omega)]
 have hl : (x ++ [32] ++ y).length = x.length + 1 + y.length := by simp; omega
 refine nameL_good fun k hk => ?_
 rw [hl] at hk
 rcases Nat.lt_or_ge k x.length with h | h
 · rcases name_chars hx h with h1 | h1
   · refine okP_let ?_
     rw [hc, if_pos h]; exact h1
   · unfold okP gapL
     rw [Bool.or_eq_true]
     refine .inr (decide_eq_true ⟨by rw [hc, if_pos h]; exact h1.1, h1.2.1, by rw [hl]; omega, ?_, ?_⟩)
     · rw [hc, if_pos (by omega)]; exact h1.2.2.2.1
     · rw [hc, if_pos h1.2.2.1]; exact h1.2.2.2.2
 ·
  rcases Nat.lt_or_ge x.length k with h2 | h2
  · refine okP_let ?_
    rw [hc, if_neg (by omega), if_neg (by omega)]
    exact hy _ (by omega)
  · obtain rfl : k = x.length := by omega
    unfold okP gapL
    rw [Bool.or_eq_true]
    refine .inr (decide_eq_true ⟨by rw [hc, if_neg (by omega), if_pos rfl], hxp, by rw [hl]; omega, ?_, ?_⟩)
    · rw [hc, if_pos (by omega)]
      rcases name_chars hx (show x.length - 1 < x.length by omega) with h1 | h1
      · exact h1
      · omega
    · rw [hc, if_neg (by omega), if_neg (by omega), show x.length + 1 - x.length - 1 = 0 by omega]
      exact hy 0 hyp
def wordsL : List (List UInt8) := [[65], [69, 82, 73, 75, 83, 83, 79, 78], [77, 65, 82, 73, 65], [68, 69], [76, 79, 83], [79, 75], [86, 65, 78, 68, 69, 82, 86, 65, 76, 75], [90, 90]]
theorem words_ok (j : Nat) (hj : j < 8) : allL (wordsL.getD j []) ∧ wordsL.getD j [] ≠ [] ∧ (wordsL.getD j []).length ≤ 10 := by
 have : ∀ j : _root_.Fin 8, allL (wordsL.getD j.val []) ∧ wordsL.getD j.val [] ≠ [] ∧ (wordsL.getD j.val []).length ≤ 10 := by unfold allL; decide
 exact this ⟨j, hj⟩
def wordRow : Array Value := (wordsL.map fun x => Value.string (S x)).toArray
theorem word_cell (j : Nat) (hj : j < 8) : wordRow[j]? = some (.string (S (wordsL.getD j []))) := by
 have h : j < wordsL.length := hj
 simp [wordRow, h]
def NameIs (w : World) (D most : Nat) (e : Ending) (w' : World) : Prop := ∃ x : List UInt8, e = .returned (.string (S x)) ∧ nameL x = true ∧ x.length ≤ 11 * most ∧ w.grownBy w' (some D) ∧ DiceOk w' D
def MRel (w : World) (D g : Nat) (x : List UInt8) (k : Nat) (wr : World) : Prop := nameL x = true ∧ x.length ≤ 11 * k ∧ w.grownBy wr (some D) ∧ DiceOk wr D ∧ wr.heap[g]? = some (.cells wordRow 130 (0, 0)) ∧ D < g
set_option maxRecDepth 40000 in
set_option maxHeartbeats 2000000 in
theorem dice_name (D most : Nat) (w : World) (hm : most ≤ 1000) (h : DiceOk w D) :
 Calls Tryz.prog 78 #[.pointer (some ⟨D, 0, none⟩), .int .i64 (most : Int)] w (NameIs w D most) := by
 have hDw := h.lt
 have HD := Lib.hid h
 clear h
 go_enter Tryz.func78, Tryz.ntmps78
 go_wp2_with fail
 obtain ⟨W, hW⟩ : ∃ W, W = w.alloc (.cells wordRow 130) := ⟨_, rfl⟩
 have hW2 : w.alloc (.cells #[.string ⟨#[65]⟩, .string ⟨#[69, 82, 73, 75, 83, 83, 79, 78]⟩, .string ⟨#[77, 65, 82, 73, 65]⟩, .string ⟨#[68, 69]⟩, .string ⟨#[76, 79, 83]⟩, .string ⟨#[79, 75]⟩, .string ⟨#[86, 65, 78, 68, 69, 82, 86, 65, 76, 75]⟩, .string ⟨#[90, 90]⟩] 130) = W := hW.symm
 rw [hW2]
 have hrow : W.heap[w.heap.size]? = some (.cells wordRow 130 (0, 0)) := by rw [hW]; exact heap_alloc_new w _
 have hgW : w.grownBy W (some D) := by rw [hW]; exact grown_alloc w _ _
 have hdW : DiceOk W D := HD.out.below (by rw [hW]; exact (Below.refl _ _).alloc (Nat.le_refl _) _)
 obtain ⟨g, hg⟩ : ∃ g, g = w.heap.size := ⟨_, rfl⟩
 rw [← hg] at hrow ⊢
 have hDg : D < g := by omega
 clear hW hW2 hg
 have hN := dice_next D (most + 1) W (by omega) (by omega) hdW
 rw [show ((most + 1 : Nat) : Int) = (most : Int) + 1 by omega] at hN
 refine hN.mono ?_
 rintro e w1 ⟨r, hr, rfl, hg1, hd1⟩
 have hrow1 : w1.heap[g]? = some (.cells wordRow 130 (0, 0)) := (hg1.block g (lt_of_block hrow) (by intro e; injection e with e; omega)).trans hrow
 have H1 := Lib.hid (show MRel w D g [] 0 w1 from ⟨by decide, by simp, grown_trans hgW hg1, hd1, hrow1, hDg⟩)
 clear hN hg1 hd1 hrow1 hrow hgW hdW hDg
 go_wp2_with fail
 go_loopw [6, 7] (fun s i wr => ∃ (k : Nat) (x : List UInt8) (b : ByteArray), k ≤ r ∧ i = .int .i64 ((r : Int) - (k : Int)) ∧ s = .string b ∧ Hid (b = S x) ∧ Hid (MRel w D g x k wr)) (fun _ i _ => (intOf i).toNat)
 case atStart => exact ⟨0, [], ⟨#[]⟩, Nat.zero_le _, by go_num, rfl, Lib.hid rfl, H1⟩
 case round =>
  clear H1
  obtain ⟨k, x, b, hk, rfl, rfl, HB, HM⟩ := hrel
  by_cases hlt : k < r
  ·
   have d1 : decide ((0 : Int) < (r : Int) - (k : Int)) = true := by simp; omega
   have HN := Lib.hid (dice_next D 8 wr (by decide) (by decide) HM.out.2.2.2.1)
   have hbs : b.size ≤ 11000 := by rw [HB.out, S_size]; have := HM.out.2.1; omega
   have hstep : ∀ (j : Nat) (w2 : World), j < 8 → wr.grownBy w2 (some D) → DiceOk w2 D → w2.cell? ⟨g, j, none⟩ = some (.string (S (wordsL.getD j []))) ∧
    Hid (MRel w D g (if x = [] then wordsL.getD j [] else x ++ [32] ++ wordsL.getD j []) (k + 1) w2) := fun j w2 hj hg hd => by
    obtain ⟨m1, m2, m3, m4, m5, m6⟩ := HM.out
    obtain ⟨v1, v2, v3⟩ := words_ok j hj
    have hrow2 : w2.heap[g]? = some (.cells wordRow 130 (0, 0)) := (hg.block g (lt_of_block m5) (by intro e; injection e with e; omega)).trans m5
    refine ⟨(cell_of_row w2 g j _ _ _ hrow2).trans (word_cell j hj), Lib.hid ⟨?_, ?_, grown_trans m3 hg, hd, hrow2, m6⟩⟩
    · split
      · exact name_word v1
      · rename_i h; exact name_more m1 h v1 v2
    · split
      · omega
      · rw [List.length_append, List.length_append]; simp only [List.length_cons, List.length_nil]; omega
   by_cases hx0 : x = []
   ·
    have hem := s_nil HB.out hx0
    have HX := Lib.hid hx0
    clear hx0
    go_wp2_with fail
    refine HN.out.mono ?_
    rintro e w2 ⟨j, hj, rfl, hg, hd⟩
    obtain ⟨c, hM⟩ := hstep j w2 hj hg hd
    rw [if_pos HX.out] at hM
    obtain ⟨v, hv⟩ : ∃ v, S (wordsL.getD j []) = v := ⟨_, rfl⟩
    have hv10 : v.size ≤ 10 := by rw [← hv, S_size]; exact (words_ok j hj).2.2
    rw [hv] at c
    have HV := Lib.hid hv
    have hbv : Hid (b ++ v = S (wordsL.getD j [])) := Lib.hid (by rw [HB.out, HX.out, ← hv]; exact S_append [] _)
    clear hstep hg hd hv HN
    have j8 : (j : Int) < 8 := by omega
    go_wp2_with fail
    go_roundw
    case rel => exact ⟨k + 1, _, _, by omega, by go_num, rfl, hbv, hM⟩
    case measure => simp [intOf]; omega
   ·
    have hem := s_ne HB.out hx0
    have HX := Lib.hid hx0
    clear hx0
    go_wp2_with fail
    refine HN.out.mono ?_
    rintro e w2 ⟨j, hj, rfl, hg, hd⟩
    obtain ⟨c, hM⟩ := hstep j w2 hj hg hd
    rw [if_neg HX.out] at hM
    obtain ⟨v, hv⟩ : ∃ v, S (wordsL.getD j []) = v := ⟨_, rfl⟩
    have hv10 : v.size ≤ 10 := by rw [← hv, S_size]; exact (words_ok j hj).2.2
    rw [hv] at c
    have HV := Lib.hid hv
    have hbv : Hid (b ++ ⟨#[32]⟩ ++ v = S (x ++ [32] ++ wordsL.getD j [])) := Lib.hid (by
     rw [HB.out, ← hv]
     show S x ++ S [32] ++ S _ = _
     rw [S_append, S_append])
    clear hstep hg hd hv HN
    have j8 : (j : Int) < 8 := by omega
    go_wp2_with fail
    go_roundw
    case rel => exact ⟨k + 1, _, _, by omega, by go_num, rfl, hbv, hM⟩
    case measure => simp [intOf]; omega
  · obtain rfl : k = r := by omega
    have d1 : decide ((0 : Int) < (k : Int) - (k : Int)) = false := by simp
    have HF := Lib.hid (show NameIs w D most (.returned (.string b)) wr from ⟨x, by rw [HB.out], HM.out.1, by have := HM.out.2.1; omega, HM.out.2.2.1, HM.out.2.2.2.1⟩)
    clear HM
    go_wp2_with fail
    go_ret
    exact HF.out
def alphaB : ByteArray := ⟨#[48, 49, 50, 51, 52, 53, 54, 55, 56, 57, 65, 66, 67, 68, 69, 70, 71, 72, 73, 74, 75, 76, 77, 78, 79, 80, 81, 82, 83, 84, 85, 86, 87, 88, 89, 90]⟩
def sgnB (c : UInt8) : Bool := decide ((48 ≤ c.toNat ∧ c.toNat ≤ 57) ∨ (65 ≤ c.toNat ∧ c.toNat ≤ 90))
def alphaL : List UInt8 := [48, 49, 50, 51, 52, 53, 54, 55, 56, 57, 65, 66, 67, 68, 69, 70, 71, 72, 73, 74, 75, 76, 77, 78, 79, 80, 81, 82, 83, 84, 85, 86, 87, 88, 89, 90]
theorem alpha_sgn (c : UInt8) (h : c ∈ alphaL) : sgnB c = true := by
 have : alphaL.all sgnB = true := by decide
 exact List.all_eq_true.1 this c h
def SignsIs (w : World) (D most : Nat) (e : Ending) (w' : World) : Prop := ∃ x : List UInt8, e = .returned (.string (S x)) ∧ 1 ≤ x.length ∧ x.length ≤ most ∧ (∀ c ∈ x, sgnB c = true) ∧ w.grownBy w' (some D) ∧ DiceOk w' D
def BRel (w : World) (D : Nat) (a : Value) (k : Nat) (wr : World) : Prop := (∃ l : List UInt8, l.length = k ∧ (∀ c ∈ l, sgnB c = true) ∧ wr.ownsRow w.heap.size 5 1 a k (Us l)) ∧ w.grownBy wr (some D) ∧ DiceOk wr D
set_option maxRecDepth 40000 in
set_option maxHeartbeats 1000000 in
theorem dice_signs (D most : Nat) (w : World) (hm : most ≤ 1000) (hm1 : 1 ≤ most) (h : DiceOk w D) :
 Calls Tryz.prog 79 #[.pointer (some ⟨D, 0, none⟩), .int .i64 (most : Int)] w (SignsIs w D most) := by
 obtain ⟨i0, hi, hz0, hz1, hz2⟩ := info_parts info_u8b
 have hDw := h.lt
 have hN := dice_next D most w (by omega) (by omega) h
 have HN := Lib.hid hN
 clear hN h
 go_enter Tryz.func79, Tryz.ntmps79
 go_wp2_with fail
 refine HN.out.mono ?_
 rintro e w1 ⟨r, hr, rfl, hg, hd⟩
 have H1 := Lib.hid (show BRel w D (.slice none 0 0) 0 w1 from ⟨⟨[], rfl, by simp, ⟨rfl, .inl ⟨rfl, rfl⟩⟩⟩, hg, hd⟩)
 clear HN hg hd
 go_wp2_with fail
 go_loopw [5, 6] (fun a i wr => ∃ k : Nat, k ≤ r + 1 ∧ i = .int .i64 (1 + (r : Int) - (k : Int)) ∧ Hid (BRel w D a k wr)) (fun _ i _ => (intOf i).toNat)
 case atStart => exact ⟨0, Nat.zero_le _, by go_num, H1⟩
 case round =>
  clear H1
  obtain ⟨k, hk, rfl, HB⟩ := hrel
  by_cases hlt : k < r + 1
  ·
   have d1 : decide ((0 : Int) < 1 + (r : Int) - (k : Int)) = true := by simp; omega
   have HN := Lib.hid (dice_next D 36 wr (by decide) (by decide) HB.out.2.2)
   go_wp2_with fail
   refine HN.out.mono ?_
   rintro e w2 ⟨x, hx, rfl, hg, hd⟩
   obtain ⟨l, hl, hls, hown⟩ := HB.out.1
   have hown2 : w2.ownsRow w.heap.size 5 1 u5 k (Us l) := own_far hown hg (by
    rcases hown.2 with ⟨e, _⟩ | ⟨g, cap, cur, e, hb, _⟩
    · rw [e]; simp [Value.ownBlock]
    · rw [e]; simp [Value.ownBlock]; omega)
   have HG := Lib.hid (show _ ∧ _ ∧ _ ∧ _ from ⟨grown_trans HB.out.2.1 hg, hd, hl, hls⟩)
   clear hown hg hd HN hl hls
   have hxs : x < alphaB.size := hx
   go_wp2_with (at_builtin; refine wpList_append_own _ rfl (.tmp 15) (.tmp 19) 59 rfl w.heap.size 5 i0 (.int .u8 0) 1 1 Tryz.underlying59 hi hz0 hz1 hz2 rfl (by decide) u5 k _ rfl (hown2.alloc _) ⟨w2.heap.size, 0, none⟩ 1 1 [_] rfl rfl (news_of_one _ _ _) (one_cell1 _) (by unfold maxLen; omega) (by omega) (by have := HG.out.1.size; simp; omega) ?_; intro v3 w3 ho hg3 _)
   have hch : alphaB[x]'hxs ∈ alphaL := by unfold alphaB; exact Array.mem_toList_iff.2 (Array.getElem_mem _)
   have hrow : w3.ownsRow w.heap.size 5 1 v3 (k + 1) (Us (l ++ [alphaB[x]'hxs])) := by
    rw [Us_append]
    exact ho
   have hgw := grown_row (grown_trans HG.out.1 (grown_alloc w2 (.cells #[.int .u8 ((alphaB[x]'hxs).toNat : Int)] 5) (some D))) hg3 (fun g e => (hown2.lt g e).1)
   have hdd : DiceOk w3 D := (HG.out.2.1.below ((Below.refl _ _).alloc (Nat.le_refl _) (.cells #[.int .u8 ((alphaB[x]'hxs).toNat : Int)] 5))).grown hg3 (fun g e => by have := (hown2.lt g e).1; omega)
   have HF := Lib.hid (show BRel w D v3 (k + 1) w3 from ⟨⟨_, by rw [List.length_append, HG.out.2.2.1]; rfl, (fun c hc => by
    rcases List.mem_append.1 hc with h | h
    · exact HG.out.2.2.2 c h
    · rw [List.mem_singleton.1 h]; exact alpha_sgn _ hch), hrow⟩, hgw, hdd⟩)
   clear hrow hgw hdd ho hg3 hown2 hch
   go_roundw
   case rel => exact ⟨k + 1, by omega, by go_num, HF⟩
   case measure => simp [intOf]; omega
  · obtain rfl : k = r + 1 := by omega
    have d1 : decide ((0 : Int) < 1 + (r : Int) - ((r + 1 : Nat) : Int)) = false := by simp; omega
    obtain ⟨l, hl, hls, hown⟩ := HB.out.1
    obtain ⟨A, c, e⟩ := own_form hown
    subst e
    have hc := run_conv wr _ _ _ (Sees.of_own hown) (r + 1) c hl.symm
    have HF := Lib.hid (show SignsIs w D most (.returned (.string (S l))) wr from ⟨l, rfl, by omega, by omega, hls, HB.out.2⟩)
    clear hown HB hls
    go_wp2_with fail
    go_ret
    exact HF.out
end Go.Proofs.YtibahbkjjfmbgaaGreatDoor
namespace Go.Proofs.YtibahbkjjfmbgaaGreatDoor
open Go.RowKit
def Row8 (w : World) (g : Nat) (l : List UInt8) : Prop := ∃ rest fr, (fr = (0, 0) ∨ l.length ≤ fr.1) ∧ w.heap[g]? = some (.cells (Us l ++ rest).toArray 5 fr)
section
variable {w w' : World} {g : Nat} {l : List UInt8}
theorem Row8.lt (h : Row8 w g l) : g < w.heap.size := by obtain ⟨_, _, _, h⟩ := h; exact lt_of_block h
theorem Row8.cell (h : Row8 w g l) {k : Nat} (hk : k < l.length) : w.cell? ⟨g, k, none⟩ = some (.int .u8 (l[k].toNat : Int)) := by
 obtain ⟨rest, fr, _, h⟩ := h
 rw [cell_of_row w g k _ _ _ h, List.getElem?_toArray, List.getElem?_append_left (by rw [Us_length]; exact hk), Us_get hk]
theorem Row8.free (h : Row8 w g l) {k : Nat} (hk : k < l.length) : w.frozen? ⟨g, k, none⟩ = false := by
 obtain ⟨rest, fr, hf, h⟩ := h
 rcases hf with rfl | hf
 · exact frozen_of_row w g k _ _ h
 · unfold World.frozen?
   rw [h]
   simp
   omega
theorem Row8.set (h : Row8 w g l) {k : Nat} (hk : k < l.length) (c : UInt8) : Row8 (w.setCell ⟨g, k, none⟩ (.int .u8 (c.toNat : Int))) g (l.set k c) := by
 obtain ⟨rest, fr, hf, h⟩ := h
 refine ⟨rest, fr, by rw [List.length_set]; exact hf, ?_⟩
 rw [Go.Joins.block_setCell h]
 congr 2
 rw [← Us_set]
 simp only [List.setIfInBounds_toArray]
 rw [List.set_append_left _ _ (by rw [Us_length]; exact hk)]
 rfl
theorem Row8.sees (h : Row8 w g l) (p : Nat → Prop) (hp : p g) : SeesP w p (some ⟨g, 0, none⟩) (Us l) :=
 .inr ⟨g, 0, rfl, hp, fun j hj => by rw [Us_length] at hj; rw [Nat.zero_add, h.cell hj, Us_get hj]⟩
theorem Row8.see (h : Row8 w g l) : Sees w (g + 1) (some ⟨g, 0, none⟩) (Us l) :=
 .inr ⟨g, 0, rfl, by omega, fun j hj => by rw [Us_length] at hj; rw [Nat.zero_add, h.cell hj, Us_get hj]⟩
theorem Row8.on (h : Row8 w g l) (hb : Below w.heap.size w w') : Row8 w' g l := by
 have hl := h.lt
 obtain ⟨rest, fr, hf, h⟩ := h
 exact ⟨rest, fr, hf, (hb.block g hl).trans h⟩
theorem Row8.far {p : Addr} {v : Value} (h : Row8 w g l) (hne : g ≠ p.block) : Row8 (w.setCell p v) g l := by
 obtain ⟨rest, fr, hf, h⟩ := h
 exact ⟨rest, fr, hf, (Below.heap_setCell w p v g hne).trans h⟩
theorem Row8.of_own {base n : Nat} {v : Value} (h : w.ownsRow base 5 1 v n (Us l)) (h1 : 1 ≤ n) : ∃ g cap, v = .slice (some ⟨g, 0, none⟩) n cap ∧ n ≤ cap ∧ base ≤ g ∧ Row8 w g l := by
 rcases h.2 with ⟨_, h0⟩ | ⟨g, cap, cur, e, hb, hh, hn, hmx, hs, ht⟩
 · omega
 · refine ⟨g, cap, e, hn, hb, cur.toList.drop (n * 1), (0, 0), .inl rfl, ?_⟩
   rw [← ht, List.take_append_drop]
   exact hh
end
end Go.Proofs.YtibahbkjjfmbgaaGreatDoor
