/-
  What is proved here: what the loop that writes a state's bytes keeps; a state's words in memory, and the blocks of padded bytes.
-/
import Derived.Test.YtaikoeoabgkglaaDoorSmp
namespace Go.Proofs.YtaikoeoabgkglaaDoor
open Go.RowKit
set_option linter.unusedVariables false

/-- what the loop that writes a state's bytes keeps -/
def O3 (w2 : World) (st : List UInt32) (j : Nat) (v : Value) (wr : World) : Prop := wr.ownsRow w2.heap.size 5 1 v (4 * j) (Us (outB (st.take j))) ∧ Below w2.heap.size w2 wr
theorem keep_far {wr w6 : World} {o : Obj} {v : Value} {gh p : Nat} {u : Value} (hg : ((wr.alloc o).drew).grownBy w6 v.ownBlock) (hgw : gh < wr.heap.size) (ag : v.ownBlock ≠ some gh) (hx : wr.cell? ⟨gh, p, none⟩ = some u) : w6.cell? ⟨gh, p, none⟩ = some u :=
  (hg.cell_far ⟨gh, p, none⟩ (by simp; omega) (Ne.symm ag)).trans ((((Below.refl wr.heap.size wr).alloc (Nat.le_refl _) o).cell (p := ⟨gh, p, none⟩) hgw).trans hx)
theorem O3.start (w2 : World) (st : List UInt32) : O3 w2 st 0 (.slice none 0 0) w2 := ⟨by simpa [outB, Us] using World.ownsRow_nil w2 w2.heap.size 5 1, Below.refl _ _⟩
theorem O3.step {w2 wr w6 : World} {st : List UInt32} {j : Nat} {v v' : Value} {o : Obj} (h : O3 w2 st j v wr) (hj : j < st.length) (ho : w6.ownsRow w2.heap.size 5 1 v' (4 * j + 4) (Us (outB (st.take j)) ++ bytesV (st[j]?.getD 0))) (hg : ((wr.alloc o).drew).grownBy w6 v.ownBlock) : O3 w2 st (j + 1) v' w6 := by
  rw [bytesV_us, ← Us_append, ← outB_take st j hj] at ho
  exact ⟨ho, (h.2.alloc h.2.size o).drew.grown hg (by have := h.2.size; simp; omega) (fun k e => (h.1.lt k e).1)⟩
theorem O3.done {w w2 wr : World} {st : List UInt32} {v : Value} (h : O3 w2 st 8 v wr) (hl : st.length = 8) (hb : Below w.heap.size w w2) : Mk w (outB st) (.returned v) wr := by
  obtain ⟨h1, h2⟩ := h
  rw [List.take_of_length_le (by omega)] at h1
  obtain ⟨A, c, he, k1, k2, k3, k4⟩ := mk_own (w := w2) h1 h2 (by rw [outB_length, hl])
  exact ⟨A, c, he, k1, k2, k3.imp (fun b hb2 => ⟨Nat.le_trans hb.size hb2.1, hb2.2⟩), hb.trans (h2.mono hb.size)⟩
/-- the words of a state lie behind an address -/
theorem state_cells {w : World} {A : Option Addr} {st : List UInt32} (hl : st.length = 8) (h : SeesP w (· < w.heap.size) A (Ws st)) :
    ∃ gh oh, A = some ⟨gh, oh, none⟩ ∧ gh < w.heap.size ∧ ∀ j, j < 8 → w.cell? ⟨gh, oh + j, none⟩ = some (.int .u32 ((st.getD j 0).toNat : Int)) := by
  rcases h with h | ⟨gh, oh, e, hp, hc⟩
  · have := congrArg List.length h; rw [Ws_length] at this; have e0 : ([] : List Value).length = 0 := rfl; omega
  · exact ⟨gh, oh, e, hp, fun j hj => by rw [hc j (by rw [Ws_length]; omega), ws_get (by omega), getD_at (by omega)]⟩
/-- what the loop over the blocks keeps: the state, and what was there -/
def BlR (w1 : World) (p : List UInt8) (k : Nat) (A : Option Addr) (wr : World) : Prop := SeesP wr (· < wr.heap.size) A (Ws (stW p k)) ∧ Below w1.heap.size w1 wr
theorem BlR.start {w1 w2 : World} {p : List UInt8} {e : Ending} (h : MkW w1 firstW e w2) : ∃ A c, e = .returned (.slice A 8 c) ∧ Hid (BlR w1 p 0 A w2) := by
  obtain ⟨A, c, he, hc, hn, hs, hb⟩ := h
  exact ⟨A, c, he, Lib.hid ⟨hs.imp fun b hb => hb.2, hb⟩⟩
theorem BlR.next {w1 wr w2 : World} {p : List UInt8} {k : Nat} {A : Option Addr} {e : Ending} (h : BlR w1 p k A wr) (hg : GivesW wr (comp (stW p k) (blkL p k)) 0 e w2) : ∃ A c, e = .returned (.tuple #[.slice A 8 c, .int .i64 0]) ∧ Hid (BlR w1 p (k + 1) A w2) := by
  obtain ⟨A2, c, he, hc, hn, hs, hb⟩ := hg
  rw [comp_length] at he
  exact ⟨A2, c, he, Lib.hid ⟨hs.imp fun b hb => hb.2, h.2.trans (hb.mono h.2.size)⟩⟩
theorem BlR.blk {w1 wr : World} {p : List UInt8} {k m pb off : Nat} {A : Option Addr} (h : BlR w1 p k A wr) (hp : p.length = 64 * m) (hk : k < m) (hpb : pb < w1.heap.size) (hc : ∀ j, j < p.length → w1.cell? ⟨pb, off + j, none⟩ = (Us p)[j]?) : SeesP wr (· < wr.heap.size) (some ⟨pb, off + 64 * k, none⟩) (Us (blkL p k)) :=
  blk_sees hp hk (Nat.lt_of_lt_of_le hpb h.2.size) fun j hj => (h.2.cell (p := ⟨pb, off + j, none⟩) hpb).trans (hc j hj)

end Go.Proofs.YtaikoeoabgkglaaDoor
