/-
  What is proved here: what the program's clone returns, for an object that lies in memory.
-/
import Derived.Test.YtipmmclahngabaaRows
import Derived.Test.YtipmmclahngabaaKit
import Derived.Test.YtipmmclahngabaaFoQ
import Derived.Test.YtipmmclahngabaaObj
import Derived.Test.YtipmmclahngabaaHdrB
import Derived.Deep.RegionWith
import Derived.Deep.Cut
import Derived.Deep.CutRange
import Derived.Deep.CutBlock
import Derived.Deep.DeepCutAuto
namespace Go.Proofs.Ytipmmclahngabaa
open Go.RowKit
set_option linter.unusedVariables false

theorem ret_cell_one {P : Program} {fn : Func} {p : Tmp} {ty : TypeId} (h : fn.results = #[.cell p ty]) (tmps : Array Value) (w : World) (g : Nat) (t : TypeId) (cs : Array Value) (fr : Nat × Nat) (d : TypeDesc)
    (hp : tmps.getD p undef = .pointer (some ⟨g, 0, none⟩)) (hg : w.heap[g]? = some (.cells cs t fr))
    (hu : P.underlying ty = some d) (hd : (match d with | .struct _ | .array _ _ => true | _ => false) = true) (hi : (P.info? ty).map (·.size) = some cs.size) :
    (results fn tmps).run P w = .ok (.agg cs) w := by
  have hp' : tmps[p]?.getD undef = .pointer (some ⟨g, 0, none⟩) := by simpa using hp
  simp only [results, h]
  simp [hp', asAddr, run_loadVar_row w g t ty cs fr d hg hu hd hi]

/-- what is known of the three blocks behind the call of cloneBytes -/
def ClB (w w3 : World) (t : Int) (Av Ak : Option Addr) (lv cv lk ck : Nat) : Prop :=
  w3.heap[w.heap.size]? = some (.cells #[.int .i64 t, .slice Av lv cv, .slice Ak lk ck] 32 (0, 0)) ∧
  w3.heap[w.heap.size + 1]? = some (.cells #[.int .i64 0, .slice none 0 0, .slice none 0 0] 32 (0, 0))
def ZeroN (w3 : World) (g : Nat) : Prop := w3.heap[g]? = some (.cells #[.int .i64 0, .slice none 0 0, .slice none 0 0] 32 (0, 0))
theorem ClB.cells {w w3 : World} {t : Int} {Av Ak : Option Addr} {lv cv lk ck : Nat} (h : ClB w w3 t Av Ak lv cv lk ck) :
    w3.cell? ⟨w.heap.size, 0, none⟩ = some (.int .i64 t) ∧ w3.cell? ⟨w.heap.size, 1, none⟩ = some (.slice Av lv cv) ∧ w3.cell? ⟨w.heap.size, 2, none⟩ = some (.slice Ak lk ck) :=
  ⟨cell_of_row w3 w.heap.size 0 _ _ _ h.1, cell_of_row w3 w.heap.size 1 _ _ _ h.1, cell_of_row w3 w.heap.size 2 _ _ _ h.1⟩
theorem ZeroN.cells {w3 : World} {g : Nat} (h : ZeroN w3 g) :
    w3.cell? ⟨g, 0, none⟩ = some (.int .i64 0) ∧ w3.cell? ⟨g, 1, none⟩ = some (.slice none 0 0) ∧ w3.cell? ⟨g, 2, none⟩ = some (.slice none 0 0) ∧ w3.frozen? ⟨g, 0, none⟩ = false ∧ w3.frozen? ⟨g, 1, none⟩ = false ∧ w3.frozen? ⟨g, 2, none⟩ = false :=
  ⟨cell_of_row w3 g 0 _ _ _ h, cell_of_row w3 g 1 _ _ _ h, cell_of_row w3 g 2 _ _ _ h, frozen_of_row w3 g 0 _ _ h, frozen_of_row w3 g 1 _ _ h, frozen_of_row w3 g 2 _ _ h⟩

theorem block_at {X : World} {n : Nat} {o : Obj} (h : X.heap.size = n) : (X.alloc o).heap[n]? = some o := by
  subst h; exact heap_alloc_new X o

/-- what the blocks hold behind the first statement of clone: the object itself (G: the block of what is made) -/
def Cl1 (w : World) (t : Int) (v : List UInt8) (Av Ak : Option Addr) (cv lk ck G g : Nat) (wx : World) : Prop :=
  ClB w wx t Av Ak v.length cv lk ck ∧ wx.heap[G]? = some (.cells #[.int .i64 t, .slice (some ⟨g, 0, none⟩) v.length v.length, .slice none 0 0] 32 (0, 0)) ∧ w.heap.size + 2 ≤ G ∧
  SeesP wx (fun b => w.heap.size + 2 ≤ b ∧ b ≠ G ∧ b < wx.heap.size) (some ⟨g, 0, none⟩) (Us v) ∧ Below w.heap.size w wx
theorem cl_after {w w3 : World} {t : Int} {v : List UInt8} {Av Ak : Option Addr} {cv lk ck g : Nat} (hB : ClB w w3 t Av Ak v.length cv lk ck)
    (hs : SeesP w3 (fun b => w.heap.size + 2 ≤ b ∧ b < w3.heap.size) (some ⟨g, 0, none⟩) (Us v)) (hb : Below w.heap.size w w3) :
    Cl1 w t v Av Ak cv lk ck w3.heap.size g (w3.alloc (.cells #[.int .i64 t, .slice (some ⟨g, 0, none⟩) v.length v.length, .slice none 0 0] 32)) := by
  have h1 := lt_of_block hB.2
  refine ⟨⟨block_alloc hB.1 _, block_alloc hB.2 _⟩, heap_alloc_new _ _, by omega, ?_, hb.alloc hb.size _⟩
  refine (hs.keep fun q hq => World.cell?_alloc_lt w3 _ q hq.2).imp fun b hb => ⟨hb.1, by omega, by simp; omega⟩
theorem cl_before {w w3 : World} {t : Int} {v : List UInt8} {Av Ak : Option Addr} {cv lk ck g G : Nat} (hG : G = w.heap.size + 2) (hB : ClB w w3 t Av Ak v.length cv lk ck) (hZ : ZeroN w3 (w.heap.size + 2))
    (hs : SeesP w3 (fun b => w.heap.size + 3 ≤ b ∧ b < w3.heap.size) (some ⟨g, 0, none⟩) (Us v)) (hb : Below w.heap.size w w3) :
    Cl1 w t v Av Ak cv lk ck G g (((w3.setCell ⟨G, 0, none⟩ (.int .i64 t)).setCell ⟨G, 1, none⟩ (.slice (some ⟨g, 0, none⟩) v.length v.length)).setCell ⟨G, 2, none⟩ (.slice none 0 0)) := by
  subst hG
  refine ⟨⟨?_, ?_⟩, ?_, by omega, ?_, ?_⟩
  · exact block_far (block_far (block_far hB.1 (by simp) _) (by simp) _) (by simp) _
  · exact block_far (block_far (block_far hB.2 (by simp) _) (by simp) _) (by simp) _
  · have := block_set (block_set (block_set hZ (i := 0) (.int .i64 t)) (i := 1) (.slice (some ⟨g, 0, none⟩) v.length v.length)) (i := 2) (.slice none 0 0)
    simpa using this
  · refine (hs.keep fun q hq => ?_).imp fun b hb => ⟨by omega, by omega, by simpa using hb.2⟩
    have hne : q.block ≠ w.heap.size + 2 := by have := hq.1; omega
    refine World.cell?_of_block ?_
    rw [Below.heap_setCell _ _ _ _ (by simpa using hne), Below.heap_setCell _ _ _ _ (by simpa using hne), Below.heap_setCell _ _ _ _ (by simpa using hne)]
  · exact ((hb.setCell (by simp) _).setCell (by simp) _).setCell (by simp) _

/-- what clone answers -/
def CloneIs (w : World) (t : Int) (v : List UInt8) (k : F) (e : Ending) (w' : World) : Prop :=
  ∃ (Av : Option Addr) (cv : Nat) (Ak : Option Addr) (ck : Nat), e = .returned (.agg #[.int .i64 t, .slice Av v.length cv, .slice Ak k.len ck]) ∧ (Av = none → cv = 0) ∧ SeesP w' (newB w w') Av (Us v) ∧ SeesF w' (newB w w') Ak k ∧ Below w.heap.size w w'
def CloneAll (n : Nat) : Prop := ∀ (t : Int) (v : List UInt8) (k : F) (Av Ak : Option Addr) (cv ck : Nat) (w : World) (p : Nat → Prop), k.size < n → k.ok → v.length ≤ 140737488351232 → (∀ x, p x → x < w.heap.size) → SeesP w p Av (Us v) → SeesF w p Ak k →
  Calls Try.prog 48 #[.agg #[.int .i64 t, .slice Av v.length cv, .slice Ak k.len ck]] w (CloneIs w t v k)

theorem set3 (arr : Array Value) (n j : Nat) (hs : arr.size = n * 3) (hj : j < n) (a b c : Value) :
    (((arr.setIfInBounds (j * 3) a).setIfInBounds (j * 3 + 1) b).setIfInBounds (j * 3 + 2) c).toList.take (3 * (j + 1)) = arr.toList.take (3 * j) ++ [a, b, c] := by
  apply List.ext_getElem?
  intro i
  have hl : arr.toList.length = n * 3 := by simpa using hs
  simp only [Array.toList_setIfInBounds]
  rw [List.getElem?_take]
  by_cases h1 : i < 3 * j
  · rw [if_pos (by omega), List.getElem?_append_left (by rw [List.length_take]; omega), List.getElem?_take, if_pos h1]
    rw [List.getElem?_set_ne (by omega), List.getElem?_set_ne (by omega), List.getElem?_set_ne (by omega)]
  · rw [List.getElem?_append_right (by rw [List.length_take]; omega)]
    have ht : (arr.toList.take (3 * j)).length = 3 * j := by rw [List.length_take]; omega
    rw [ht]
    by_cases h2 : i = 3 * j
    · subst h2
      rw [if_pos (by omega), List.getElem?_set_ne (by omega), List.getElem?_set_ne (by omega), Nat.mul_comm 3 j, List.getElem?_set_self (by omega)]
      simp
    · by_cases h3 : i = 3 * j + 1
      · subst h3
        rw [if_pos (by omega), List.getElem?_set_ne (by omega), Nat.mul_comm 3 j, List.getElem?_set_self (by simp; omega)]
        simp
      · by_cases h4 : i = 3 * j + 2
        · subst h4
          rw [if_pos (by omega), Nat.mul_comm 3 j, List.getElem?_set_self (by simp; omega)]
          simp
        · rw [if_neg (by omega)]
          symm
          rw [List.getElem?_eq_none]
          simp; omega

theorem clone_end {w wr : World} {t : Int} {v : List UInt8} {k : F} {g K ck : Nat} {Ak : Option Addr} (p : Nat → Prop) (hp : ∀ b, p b → w.heap.size + 2 ≤ b ∧ b < wr.heap.size)
    (hv : SeesP wr p (some ⟨g, 0, none⟩) (Us v)) (hk : SeesF wr p Ak k) (hb : Below w.heap.size w wr) (x y z : Value) (e : Ending) (he : e = .returned (.agg #[.int .i64 t, .slice (some ⟨g, 0, none⟩) v.length v.length, .slice Ak k.len ck])) :
    CloneIs w t v k e (((wr.setCell ⟨w.heap.size + 1, 0, none⟩ x).setCell ⟨w.heap.size + 1, 1, none⟩ y).setCell ⟨w.heap.size + 1, 2, none⟩ z) := by
  have hkeep : ∀ q : Addr, p q.block → (((wr.setCell ⟨w.heap.size + 1, 0, none⟩ x).setCell ⟨w.heap.size + 1, 1, none⟩ y).setCell ⟨w.heap.size + 1, 2, none⟩ z).cell? q = wr.cell? q := fun q hq => by
    have hne : q.block ≠ w.heap.size + 1 := by have := hp _ hq; omega
    refine World.cell?_of_block ?_
    rw [Below.heap_setCell _ _ _ _ (by simpa using hne), Below.heap_setCell _ _ _ _ (by simpa using hne), Below.heap_setCell _ _ _ _ (by simpa using hne)]
  refine ⟨_, _, _, _, he, (fun h => by cases h), (hv.keep hkeep).imp fun b hb => ?_, (hk.keep hkeep).imp fun b hb => ?_, ((hb.setCell (by simp) _).setCell (by simp) _).setCell (by simp) _⟩
  · have := hp _ hb
    exact ⟨by omega, by simpa using this.2⟩
  · have := hp _ hb
    exact ⟨by omega, by simpa using this.2⟩

theorem Cl1.grow {w wx w1 : World} {t : Int} {v : List UInt8} {Av Ak : Option Addr} {cv lk ck G g : Nat} (h : Cl1 w t v Av Ak cv lk ck G g wx) (hg : wx.grownBy w1 none) : Cl1 w t v Av Ak cv lk ck G g w1 := by
  obtain ⟨⟨h1, h2⟩, h3, h4, h5, h6⟩ := h
  have hk : ∀ b, b < wx.heap.size → w1.heap[b]? = wx.heap[b]? := fun b hb => hg.block b hb (by simp)
  refine ⟨⟨(hk _ (lt_of_block h1)).trans h1, (hk _ (lt_of_block h2)).trans h2⟩, (hk _ (lt_of_block h3)).trans h3, h4, ?_, h6.grown hg h6.size (by simp)⟩
  exact (h5.keep fun q hq => World.cell?_of_block (hk _ hq.2.2)).imp fun b hb => ⟨hb.1, hb.2.1, Nat.lt_of_lt_of_le hb.2.2 hg.size⟩
theorem row_of {w1 : World} {base K kn : Nat} {xs : List Value} (h : w1.ownsRow base 32 3 (.slice (some ⟨K, 0, none⟩) kn kn) kn xs) (h0 : 0 < kn) : ∃ arr, w1.heap[K]? = some (.cells arr 32 (0, 0)) ∧ arr.size = kn * 3 := by
  rcases h.2 with ⟨h, _⟩ | ⟨g, cap, cur, hv, hb, hh, hn, hm, hs, ht⟩
  · cases h
  · injection hv with e1 e2 e3
    injection e1 with e1
    injection e1 with e1
    subst e1 e3
    exact ⟨cur, hh, hs⟩

/-- what the loop keeps -/
def ClL (w : World) (t : Int) (v : List UInt8) (Av Ak : Option Addr) (cv ck G g K kn : Nat) (k : F) (j : Nat) (gg : F) (wr : World) : Prop :=
  ClB w wr t Av Ak v.length cv kn ck ∧ wr.heap[G]? = some (.cells #[.int .i64 t, .slice (some ⟨g, 0, none⟩) v.length v.length, .slice (some ⟨K, 0, none⟩) kn kn] 32 (0, 0)) ∧ w.heap.size + 2 ≤ G ∧ w.heap.size + 2 ≤ K ∧ G ≠ K ∧
  SeesP wr (fun b => w.heap.size + 2 ≤ b ∧ b ≠ G ∧ b ≠ K ∧ b < wr.heap.size) (some ⟨g, 0, none⟩) (Us v) ∧ Below w.heap.size w wr ∧
  ∃ arr : Array Value, wr.heap[K]? = some (.cells arr 32 (0, 0)) ∧ arr.size = kn * 3 ∧ ∃ df : F, df.app gg = k ∧ df.len = j ∧ HoldsP wr (fun b => w.heap.size + 2 ≤ b ∧ b ≠ G ∧ b ≠ K ∧ b < wr.heap.size) df (arr.toList.take (3 * j))
theorem ClL.start {w wx w1 : World} {t : Int} {v : List UInt8} {Av Ak : Option Addr} {cv ck G g kn : Nat} {k : F} (h : Cl1 w t v Av Ak cv kn ck G g wx) (hg : wx.grownBy w1 none) (arr : Array Value) (ha : w1.heap[wx.heap.size]? = some (.cells arr 32 (0, 0))) (hs : arr.size = kn * 3) :
    ClL w t v Av Ak cv ck G g wx.heap.size kn k 0 k (w1.setCell ⟨G, 2, none⟩ (.slice (some ⟨wx.heap.size, 0, none⟩) kn kn)) := by
  have h' := h.grow hg
  obtain ⟨⟨h1, h2⟩, h3, h4, h5, h6⟩ := h'
  have hGx : G < wx.heap.size := lt_of_block h.2.1
  have hws := h.2.2.2.2.size
  have h5' := h.2.2.2.1
  refine ⟨⟨block_far h1 (by simp; omega) _, block_far h2 (by simp; omega) _⟩, ?_, h4, by have := lt_of_block h.1.2; omega, by omega, ?_, h6.setCell (by simp; omega) _, arr, block_far ha (by simp; omega) _, hs, .nil, rfl, rfl, by simp [HoldsP]⟩
  · have := block_set h3 (i := 2) (.slice (some ⟨wx.heap.size, 0, none⟩) kn kn)
    simpa using this
  · refine (h5'.keep fun q hq => ?_).imp fun b hb => ⟨hb.1, hb.2.1, by omega, by have := hg.size; simp; omega⟩
    refine (World.cell?_of_block ?_).trans (World.cell?_of_block (hg.block q.block hq.2.2 (by simp)))
    rw [Below.heap_setCell _ _ _ _ (by simpa using hq.2.1)]
theorem ClL.step {w wr w4 : World} {t t1 : Int} {v v1 : List UInt8} {Av Ak Av1 Ak1 : Option Addr} {cv ck G g K kn j cv1 ck1 : Nat} {k k1 r : F} (h : ClL w t v Av Ak cv ck G g K kn k j (.cons t1 v1 k1 r) wr) (hj : j < kn)
    (hb : Below wr.heap.size wr w4) (h0 : Av1 = none → cv1 = 0) (hv : SeesP w4 (fun b => wr.heap.size ≤ b ∧ b < w4.heap.size) Av1 (Us v1)) (hk : SeesF w4 (fun b => wr.heap.size ≤ b ∧ b < w4.heap.size) Ak1 k1) :
    ClL w t v Av Ak cv ck G g K kn k (j + 1) r (((w4.setCell ⟨K, j * 3, none⟩ (.int .i64 t1)).setCell ⟨K, j * 3 + 1, none⟩ (.slice Av1 v1.length cv1)).setCell ⟨K, j * 3 + 2, none⟩ (.slice Ak1 k1.len ck1)) := by
  obtain ⟨⟨h1, h2⟩, h3, h4, h5, h6, h7, h8, arr, ha, hs, df, d1, d2, d3⟩ := h
  have hK : K < wr.heap.size := lt_of_block ha
  have hG : G < wr.heap.size := lt_of_block h3
  have hN := h8.size
  have k4 : ∀ b o, b < wr.heap.size → wr.heap[b]? = some o → w4.heap[b]? = some o := fun b o hb' h => (hb.block b hb').trans h
  have far : ∀ (b : Nat), b ≠ K → (((w4.setCell ⟨K, j * 3, none⟩ (.int .i64 t1)).setCell ⟨K, j * 3 + 1, none⟩ (.slice Av1 v1.length cv1)).setCell ⟨K, j * 3 + 2, none⟩ (.slice Ak1 k1.len ck1)).heap[b]? = w4.heap[b]? := fun b hne => by
    rw [Below.heap_setCell _ _ _ _ (by simpa using hne), Below.heap_setCell _ _ _ _ (by simpa using hne), Below.heap_setCell _ _ _ _ (by simpa using hne)]
  have hn1 := lt_of_block h1
  have hn2 := lt_of_block h2
  have ha4 := k4 K _ hK ha
  have hset := block_set (block_set (block_set ha4 (i := j * 3) (.int .i64 t1)) (i := j * 3 + 1) (.slice Av1 v1.length cv1)) (i := j * 3 + 2) (.slice Ak1 k1.len ck1)
  have hsz : (((w4.setCell ⟨K, j * 3, none⟩ (.int .i64 t1)).setCell ⟨K, j * 3 + 1, none⟩ (.slice Av1 v1.length cv1)).setCell ⟨K, j * 3 + 2, none⟩ (.slice Ak1 k1.len ck1)).heap.size = w4.heap.size := by simp
  have h4s := hb.size
  refine ⟨⟨(far _ (by omega)).trans (k4 _ _ hn1 h1), (far _ (by omega)).trans (k4 _ _ hn2 h2)⟩, (far _ h6).trans (k4 _ _ hG h3), h4, h5, h6, ?_, ?_, _, hset, by simpa using hs, df.app (.cons t1 v1 k1 .nil), ?_, ?_, ?_⟩
  · refine (h7.keep fun q hq => ?_).imp fun b hb => ⟨hb.1, hb.2.1, hb.2.2.1, by rw [hsz]; omega⟩
    exact World.cell?_of_block ((far _ hq.2.2.1).trans (hb.block _ hq.2.2.2))
  · refine (((Below.trans h8 (hb.mono hN)).setCell ?_ _).setCell ?_ _).setCell ?_ _ <;> (simp; omega)
  · rw [F.app_assoc]; exact d1
  · rw [F.len_app, d2]; rfl
  · rw [set3 arr kn j hs hj]
    refine HoldsP.app ?_ ?_
    · refine (HoldsP.imp ?_ (HoldsP.keep (fun q hq => World.cell?_of_block ((far _ hq.2.2.1).trans (hb.block _ hq.2.2.2))) d3))
      intro b hb
      exact ⟨hb.1, hb.2.1, hb.2.2.1, by rw [hsz]; omega⟩
    · obtain ⟨ks, s1, s2⟩ := hk
      have kp : ∀ q : Addr, (wr.heap.size ≤ q.block ∧ q.block < w4.heap.size) → (((w4.setCell ⟨K, j * 3, none⟩ (.int .i64 t1)).setCell ⟨K, j * 3 + 1, none⟩ (.slice Av1 v1.length cv1)).setCell ⟨K, j * 3 + 2, none⟩ (.slice Ak1 k1.len ck1)).cell? q = w4.cell? q := fun q hq =>
        World.cell?_of_block (far _ (by omega))
      have ip : ∀ b, (wr.heap.size ≤ b ∧ b < w4.heap.size) → (w.heap.size + 2 ≤ b ∧ b ≠ G ∧ b ≠ K ∧ b < (((w4.setCell ⟨K, j * 3, none⟩ (.int .i64 t1)).setCell ⟨K, j * 3 + 1, none⟩ (.slice Av1 v1.length cv1)).setCell ⟨K, j * 3 + 2, none⟩ (.slice Ak1 k1.len ck1)).heap.size) := fun b hb => by
        rw [hsz]; omega
      exact ⟨Av1, cv1, Ak1, ck1, ks, [], rfl, h0, (hv.keep kp).imp ip, (s1.keep kp).imp ip, HoldsP.imp ip (HoldsP.keep kp s2), rfl⟩

/-- what the last store of the round reads, behind the call -/
theorem ClL.after {w wr w2 w4 : World} {t t1 : Int} {v v1 : List UInt8} {Av Ak Av1 Ak1 : Option Addr} {cv ck G g K kn j cv1 ck1 : Nat} {k k1 r : F} (h : ClL w t v Av Ak cv ck G g K kn k j (.cons t1 v1 k1 r) wr) (hj : j < kn)
    (hw2 : Below wr.heap.size wr w2) (h0 : Av1 = none → cv1 = 0) (hv : SeesP w4 (newB w2 w4) Av1 (Us v1)) (hk : SeesF w4 (newB w2 w4) Ak1 k1) (hb2 : Below w2.heap.size w2 w4) :
    Hid (ClL w t v Av Ak cv ck G g K kn k (j + 1) r (((w4.setCell ⟨K, j * 3, none⟩ (.int .i64 t1)).setCell ⟨K, j * 3 + 1, none⟩ (.slice Av1 v1.length cv1)).setCell ⟨K, j * 3 + 2, none⟩ (.slice Ak1 k1.len ck1))) ∧
    w4.cell? ⟨G, 2, none⟩ = some (.slice (some ⟨K, 0, none⟩) kn kn) ∧ (∃ x, w4.cell? ⟨K, j * 3, none⟩ = some x) ∧ (∃ x, w4.cell? ⟨K, j * 3 + 1, none⟩ = some x) ∧ (∃ x, w4.cell? ⟨K, j * 3 + 2, none⟩ = some x) ∧
    w4.frozen? ⟨K, j * 3, none⟩ = false ∧ w4.frozen? ⟨K, j * 3 + 1, none⟩ = false ∧ w4.frozen? ⟨K, j * 3 + 2, none⟩ = false := by
  have hb : Below wr.heap.size wr w4 := Below.trans hw2 (hb2.mono hw2.size)
  have hst := h.step (ck1 := ck1) hj hb h0 (hv.imp fun b hb => ⟨Nat.le_trans hw2.size hb.1, hb.2⟩) (hk.imp fun b hb => ⟨Nat.le_trans hw2.size hb.1, hb.2⟩)
  obtain ⟨_, h3, _, _, _, _, _, arr, ha, hs, _⟩ := h
  have hK : K < wr.heap.size := lt_of_block ha
  have hG : G < wr.heap.size := lt_of_block h3
  have ha4 := (hb.block K hK).trans ha
  have h34 := (hb.block G hG).trans h3
  refine ⟨Lib.hid hst, cell_of_row w4 G 2 _ _ _ h34, ⟨_, (cell_of_row w4 K (j * 3) _ _ _ ha4).trans (Array.getElem?_eq_getElem (by omega))⟩, ⟨_, (cell_of_row w4 K (j * 3 + 1) _ _ _ ha4).trans (Array.getElem?_eq_getElem (by omega))⟩, ⟨_, (cell_of_row w4 K (j * 3 + 2) _ _ _ ha4).trans (Array.getElem?_eq_getElem (by omega))⟩,
    frozen_of_row w4 K (j * 3) _ _ ha4, frozen_of_row w4 K (j * 3 + 1) _ _ ha4, frozen_of_row w4 K (j * 3 + 2) _ _ ha4⟩
theorem below_drew (w : World) : Below w.heap.size w w.drew := (Below.refl _ _).drew

end Go.Proofs.Ytipmmclahngabaa
