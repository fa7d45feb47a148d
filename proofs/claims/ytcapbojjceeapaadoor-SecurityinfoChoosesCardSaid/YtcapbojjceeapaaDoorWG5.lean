/-
  What is proved here: what the makers' Mod returns, for every number and a positive modulus.
-/
import Derived.Test.YtcapbojjceeapaaDoorRows
import Derived.Test.YtcapbojjceeapaaDoorWG1
import Derived.Test.YtcapbojjceeapaaDoorWG1b
import Derived.Test.YtcapbojjceeapaaDoorWG2
import Derived.BigQuiet
import Derived.Test.YtcapbojjceeapaaDoorWG4
namespace Go.Proofs.YtcapbojjceeapaaDoor
open Go.RowKit
set_option maxRecDepth 8000
set_option linter.unusedVariables false
theorem made_mod (n m : Int) (lo : -9223372036854775808 ≤ n) (hi : n ≤ 9223372036854775807) (hm : 0 < m) (hm2 : m ≤ 4611686018427387903) (w : World) :
    Calls Tryd.prog 27 #[.int .i64 n, .int .i64 m] w fun e w' => e = .returned (.int .i64 (n % m)) ∧ w' = w := by
  have hne : m ≠ 0 := by omega
  have ht := Int.tmod_eq_emod (a := n) (b := m)
  have hr0 := Int.emod_nonneg n hne
  have hr1 := Int.emod_lt_of_pos n hm
  by_cases h : n.tmod m < 0
  · have e : n.tmod m + m = n % m := by
      split at ht
      · omega
      · have : ((m.natAbs : Int)) = m := by omega
        omega
    have lt : -m ≤ n.tmod m := by rw [← e] at hr0; omega
    have E := Lib.hid e
    have HM := Lib.hid hm2
    clear ht e
    go_enter Tryd.func27, Tryd.ntmps27
    go_wp2_with fail
    go_ret
    exact ⟨by rw [← E.out]; rfl, rfl⟩
  · have e : n.tmod m = n % m := by
      split at ht
      · omega
      · have : ((m.natAbs : Int)) = m := by omega
        omega
    have E := Lib.hid e
    clear ht e
    go_enter Tryd.func27, Tryd.ntmps27
    go_wp2_with fail
    go_ret
    exact ⟨by rw [← E.out]; rfl, rfl⟩
set_option maxRecDepth 8000
set_option linter.unusedVariables false
def DiceOk (w : World) (D : Nat) : Prop := ∃ (AL : Option Addr) (cL k : Nat) (ls : List Int), w.heap[D]? = some (.cells #[.slice AL ls.length cL, .int .i64 (k : Int)] 66 (0, 0)) ∧
  k ≤ ls.length ∧ ls.length ≤ 140737488351232 ∧ (∀ x ∈ ls, -9223372036854775808 ≤ x ∧ x ≤ 9223372036854775807) ∧ SeesP w (· < D) AL (ls.map (Value.int .i64))
theorem DiceOk.lt {w : World} {D : Nat} (h : DiceOk w D) : D < w.heap.size := by
  obtain ⟨_, _, _, _, h1, _⟩ := h
  exact lt_of_block h1
theorem DiceOk.keep {w w' : World} {D : Nat} (h : DiceOk w D) (hk : ∀ k, k ≤ D → w'.heap[k]? = w.heap[k]?) : DiceOk w' D := by
  obtain ⟨AL, cL, k, ls, h1, h2, h3, h4, h5⟩ := h
  exact ⟨AL, cL, k, ls, (hk D (Nat.le_refl _)).trans h1, h2, h3, h4, h5.keep fun q hq => World.cell?_of_block (hk _ (Nat.le_of_lt hq))⟩
theorem DiceOk.below {w w' : World} {D : Nat} (h : DiceOk w D) (hb : Below w.heap.size w w') : DiceOk w' D :=
  h.keep fun k hk => hb.block k (Nat.lt_of_le_of_lt hk h.lt)
theorem DiceOk.grown {w w' : World} {D : Nat} {row : Option Nat} (h : DiceOk w D) (hg : w.grownBy w' row) (hr : ∀ g, row = some g → D < g) : DiceOk w' D :=
  h.keep fun k hk => hg.block k (Nat.lt_of_le_of_lt hk h.lt) (by intro e; have := hr k e.symm; omega)
def NextIs (w : World) (D n : Nat) (e : Ending) (w' : World) : Prop := ∃ r : Nat, r < n ∧ e = .returned (.int .i64 (r : Int)) ∧ w.grownBy w' (some D) ∧ DiceOk w' D
set_option maxHeartbeats 1000000 in
theorem dice_next (D n : Nat) (w : World) (hn : 0 < n) (hn2 : n ≤ 4611686018427387903) (h : DiceOk w D) :
    Calls Tryd.prog 40 #[.pointer (some ⟨D, 0, none⟩), .int .i64 (n : Int)] w (NextIs w D n) := by
  obtain ⟨AL, cL, k, ls, h1, h2, h3, h4, h5⟩ := h
  have c0 := cell_of_row w D 0 _ _ _ h1
  have c1 := cell_of_row w D 1 _ _ _ h1
  have f1 := frozen_of_row w D 1 _ _ h1
  simp only [List.getElem?_toArray, List.getElem?_cons_succ, List.getElem?_cons_zero] at c0 c1
  by_cases hlt : k < ls.length
  · obtain ⟨x, hx⟩ : ∃ x, x = ls[k] := ⟨_, rfl⟩
    have hxr := h4 x (by rw [hx]; exact List.getElem_mem hlt)
    obtain ⟨b, o, hA, hb, hc⟩ : ∃ b o, AL = some ⟨b, o, none⟩ ∧ b < D ∧ w.cell? ⟨b, o + k, none⟩ = some (.int .i64 x) := by
      rcases h5 with h | ⟨b, o, e, hb, hc⟩
      · have : ls = [] := by simpa using h
        subst this; simp at hlt
      · exact ⟨b, o, e, hb, (hc k (by simpa using hlt)).trans (by simp [hlt, hx])⟩
    have hne : b ≠ D := by omega
    have HS := Lib.hid h5
    subst hA
    obtain ⟨r, hr⟩ : ∃ r : Nat, x % (n : Int) = (r : Int) := ⟨(x % (n : Int)).toNat, by have := Int.emod_nonneg x (show (n : Int) ≠ 0 by omega); omega⟩
    have hrn : r < n := by have := Int.emod_lt_of_pos x (show (0 : Int) < n by omega); omega
    have hM : ∀ u, Calls Tryd.prog 27 #[.int .i64 x, .int .i64 (n : Int)] u fun e w' => e = .returned (.int .i64 (r : Int)) ∧ ∃ q, w' = u.drewN q := fun u => by
      have := made_mod x (n : Int) hxr.1 hxr.2 (by omega) (by omega) u
      rw [hr] at this
      exact this.mono fun e w' ⟨h1, h2⟩ => ⟨h1, 0, h2⟩
    have HM := Lib.hid hM
    have H1 := Lib.hid (show _ ∧ (∀ x ∈ ls, -9223372036854775808 ≤ x ∧ x ≤ 9223372036854775807) from ⟨h1, h4⟩)
    clear hM hx hr h1 h4 h5 hxr
    go_enter Tryd.func40, Tryd.ntmps40
    go_wp2_with fail
    go_quiet (fail)
    go_wp2_with fail
    obtain ⟨W, hW⟩ : ∃ W, W = (w.drewN nq).setCell ⟨D, 1, none⟩ (.int .i64 ((k : Int) + 1)) := ⟨_, rfl⟩
    have e0 : W.cell? ⟨D, 0, none⟩ = some (.slice (some ⟨b, o, none⟩) ls.length cL) := by rw [hW, cell_of_row _ D 0 _ _ _ (block_set (w := w.drewN nq) (i := 1) H1.out.1 _)]; rfl
    have e1 : W.cell? ⟨D, 1, none⟩ = some (.int .i64 ((k : Int) + 1)) := by rw [hW, cell_of_row _ D 1 _ _ _ (block_set (w := w.drewN nq) (i := 1) H1.out.1 _)]; rfl
    have e2 : W.cell? ⟨b, o + k, none⟩ = some (.int .i64 x) := by rw [hW]; exact (World.cell?_of_block (Below.heap_setCell _ _ _ b hne)).trans hc
    have hg : w.grownBy W (some D) := by
      rw [hW]
      exact ⟨rfl, rfl, rfl, Nat.le_of_eq (by simp), fun j _ hj => Below.heap_setCell (w.drewN nq) _ _ j (by simpa using fun e => hj (by rw [e]))⟩
    have hd : DiceOk W D := ⟨some ⟨b, o, none⟩, cL, k + 1, ls, by rw [hW]; exact block_set (w := w.drewN nq) (i := 1) H1.out.1 _, by omega, h3, H1.out.2, HS.out.keep fun q hq => grown_cell hg (Nat.lt_trans hq (lt_of_block H1.out.1)) (Nat.ne_of_lt hq)⟩
    have HF := Lib.hid (show ∀ q, NextIs w D n (.returned (.int .i64 (r : Int))) (W.drewN q) from fun q => ⟨r, hrn, rfl, ⟨hg.os, hg.tape, hg.output, hg.size, hg.block⟩, hd.keep fun _ _ => rfl⟩)
    rw [← hW]
    clear hW hg hd c0 c1 f1 hc HS H1
    go_quiet ((go_at_call 27; exact Calls.quiet_of (HM.out _)))
    go_wp2_with fail
    go_ret
    exact HF.out _
  · have HF := Lib.hid (show DiceOk w D from ⟨AL, cL, k, ls, h1, h2, h3, h4, h5⟩)
    clear h1 h4 h5
    go_enter Tryd.func40, Tryd.ntmps40
    go_wp2_with fail
    go_quiet (fail)
    go_wp2_with fail
    go_ret
    exact ⟨0, hn, rfl, ⟨rfl, rfl, rfl, Nat.le_refl _, fun _ _ _ => rfl⟩, HF.out.keep fun _ _ => rfl⟩
def OneIs (w : World) (D : Nat) (e : Ending) (w' : World) : Prop := ∃ q : Bool, e = .returned (.bool q) ∧ w.grownBy w' (some D) ∧ DiceOk w' D
theorem dice_one (D n : Nat) (w : World) (hn : 0 < n) (hn2 : n ≤ 4611686018427387903) (h : DiceOk w D) :
    Calls Tryd.prog 20 #[.pointer (some ⟨D, 0, none⟩), .int .i64 (n : Int)] w (OneIs w D) := by
  have HN := Lib.hid (dice_next D n w hn hn2 h)
  clear h
  go_enter Tryd.func20, Tryd.ntmps20
  go_wp2_with fail
  refine HN.out.mono ?_
  rintro e w1 ⟨r, hr, rfl, hg, hd⟩
  have HF := Lib.hid (show _ ∧ _ from ⟨hg, hd⟩)
  clear hg hd
  go_wp2_with fail
  go_ret
  exact ⟨_, rfl, HF.out.1, HF.out.2⟩
set_option maxRecDepth 8000
set_option linter.unusedVariables false
def F.gd : F → Nat → Prop
  | .nil, _ => True
  | .cons t v k r, m => 1 ≤ m ∧ validB t = true ∧ (consB t = true → v = []) ∧ (consB t = false → k = .nil) ∧ v.length ≤ 300 ∧ k.len ≤ 3 ∧ k.gd (m - 1) ∧ r.gd m
theorem F.gd_app {m : Nat} {g : F} : ∀ {f : F}, f.gd m → g.gd m → (f.app g).gd m
  | .nil, _, h => h
  | .cons _ _ _ _, ⟨h1, h2, h3, h4, h5, h6, h7, h8⟩, h => ⟨h1, h2, h3, h4, h5, h6, h7, F.gd_app h8 h⟩
theorem grown_row {w a b : World} {D : Nat} {row : Option Nat} (h : w.grownBy a (some D)) (hg : a.grownBy b row) (hr : ∀ g, row = some g → w.heap.size ≤ g) : w.grownBy b (some D) := by
  refine ⟨hg.os.trans h.os, hg.tape.trans h.tape, hg.output.trans h.output, Nat.le_trans h.size hg.size, fun k hk hk2 => ?_⟩
  refine (hg.block k (Nat.lt_of_lt_of_le hk h.size) ?_).trans (h.block k hk hk2)
  intro e
  have := hr k e.symm
  omega
def NRel (w : World) (D m : Nat) (v : Value) (k : Nat) (wr : World) : Prop := ∃ f : F, f.len = k ∧ f.gd m ∧ Held w wr v f ∧ w.grownBy wr (some D) ∧ DiceOk wr D
theorem NRel.step {w wr w3 w4 : World} {D m k g cap : Nat} {v : Value} {f : F} {cs : List Value} {t : Int} {x : List UInt8} {kf : F} {Av Ak : Option Addr} {cv ck : Nat} {o : Obj}
    (hf : f.len = k) (hgd : f.gd m) (hww : w.grownBy wr (some D)) (hown : wr.ownsRow w.heap.size 54 3 v f.len cs) (hh : HoldsP wr (fun b => newB w wr b ∧ v.ownBlock ≠ some b) f cs)
    (hDw : D < w.heap.size) (hg3 : wr.grownBy w3 (some D)) (hd : DiceOk w3 D) (hn0 : Av = none → cv = 0) (hv : SeesP w3 (newB wr w3) Av (Us x)) (hk : SeesF w3 (newB wr w3) Ak kf) (hgd2 : (F.cons t x kf .nil).gd m)
    (ho : w4.ownsRow w.heap.size 54 3 (.slice (some ⟨g, 0, none⟩) (k + 1) cap) (k + 1) (cs ++ [.int .i64 t, .slice Av x.length cv, .slice Ak kf.len ck])) (hg4 : (w3.alloc o).grownBy w4 v.ownBlock)
    (hl : v.ownBlock = some g ∨ g = (w3.alloc o).heap.size) : NRel w D m (.slice (some ⟨g, 0, none⟩) (k + 1) cap) (k + 1) w4 := by
  subst hf
  have hW := own_size3 hown
  have hc := Held.carry hDw hg3 hown hh
  have hsn := Held.snoc hg3.size ((Below.refl w3.heap.size w3).alloc (Nat.le_refl _) o) hn0 hv hk hww.size hW cs hc.2 ho hg4 hl
  have hr : ∀ g, v.ownBlock = some g → w.heap.size ≤ g := fun g e => by
    rcases hW with h | ⟨g2, h, h2, _⟩
    · rw [h] at e; cases e
    · rw [h] at e; injection e with e; omega
  exact ⟨_, by rw [F.len_app]; rfl, F.gd_app hgd hgd2, hsn, grown_row (grown_trans (grown_trans hww hg3) (grown_alloc w3 o (some D))) hg4 hr,
    (hd.below ((Below.refl _ _).alloc (Nat.le_refl _) o)).grown hg4 (fun g e => by have := hr g e; omega)⟩
set_option maxRecDepth 8000
set_option linter.unusedVariables false
def HdOk (st : Bool) (t : Int) (n : Nat) (hd tl : List UInt8) : Prop :=
  (tl = [] ∧ hd = [UInt8.ofNat n] ∧ n ≤ 127) ∨
  (tl = [] ∧ ∃ m dg, hd = UInt8.ofNat (128 + m) :: dg ∧ dg.length = m ∧ 1 ≤ m ∧ m ≤ 4 ∧ numL dg = n ∧ (st = true → shortB (128 + m) n = true)) ∨
  (st = false ∧ hd = [128] ∧ tl = [0, 0] ∧ consB t = true)
def LooseOf (st : Bool) : F → List UInt8 → Prop
  | .nil, b => b = []
  | .cons t v k r, b => ∃ ck br hd tl, LooseOf st k ck ∧ LooseOf st r br ∧ HdOk st t (v.length + ck.length) hd tl ∧ b = tagL t.toNat ++ (hd ++ (v ++ ck ++ (tl ++ br)))
theorem LooseOf.app {st : Bool} {g : F} {bg : List UInt8} (hg : LooseOf st g bg) : ∀ {f : F} {bf : List UInt8}, LooseOf st f bf → LooseOf st (f.app g) (bf ++ bg)
  | .nil, _, h => by cases h; exact hg
  | .cons t v k r, _, ⟨ck, br, hd, tl, h1, h2, h3, e⟩ => ⟨ck, br ++ bg, hd, tl, h1, LooseOf.app hg h2, h3, by rw [e]; simp only [List.append_assoc]⟩
def F.fit : F → Nat → Prop
  | .nil, _ => True
  | .cons t v k r, m => 1 ≤ m ∧ validB t = true ∧ (consB t = true → v = []) ∧ (consB t = false → k = .nil) ∧ v.length ≤ 4096 ∧ k.fit (m - 1) ∧ r.fit m
set_option maxRecDepth 8000
theorem info_u8 : (Tryd.prog.info? 5).map (fun i => (i.zero, i.size, i.bytes)) = some (some (.int .u8 0), 1, 1) := by kernel_rfl
def octAt (n s i : Nat) : UInt8 := UInt8.ofNat (n / 256 ^ (s - 1 - i))
def octL (n s : Nat) : List UInt8 := (List.range s).map (octAt n s)
theorem octL_length (n s : Nat) : (octL n s).length = s := by simp [octL]
def octTo (n s k : Nat) : List UInt8 := fillP (octAt n s) s (fun i => decide (s ≤ i + k))
theorem octTo_zero (n s : Nat) : octTo n s 0 = List.replicate s 0 := by
  apply List.ext_getElem
  · simp [octTo, fillP]
  · intro i h1 h2
    have : i < s := by simpa [octTo, fillP] using h1
    simp [octTo, fillP]; omega
theorem octTo_all (n s : Nat) : octTo n s s = octL n s := fillP_all fun i _ => by simp
theorem octTo_set {n s k : Nat} (hk : k < s) : (octTo n s k).set (s - 1 - k) (octAt n s (s - 1 - k)) = octTo n s (k + 1) := by
  refine fillP_set (by simp; omega) fun i hi => ?_
  have : (s ≤ i + (k + 1)) = (s ≤ i + k) := by apply propext; omega
  simp [this]
theorem oct_val {n s k : Nat} (hk : k < s) : Value.int .u8 (IntKind.u8.wrap ((n : Int) / 2 ^ (8 * k))) = U (octAt n s (s - 1 - k)) := by
  have e : ((n : Int) / 2 ^ (8 * k)) = ((n / 256 ^ k : Nat) : Int) := by
    rw [show (256 : Nat) = 2 ^ 8 from rfl, ← Nat.pow_mul]; simp
  rw [e, IntKind.wrap_u8']
  simp only [U, octAt]
  rw [show s - 1 - (s - 1 - k) = k from by omega]
  simp
def OctRel (B g : Nat) (n s k : Nat) (w wr : World) : Prop :=
  wr.ownsRow B 5 1 (.slice (some ⟨g, 0, none⟩) s s) s (Us (octTo n s k)) ∧ Below B w wr ∧ B ≤ g
theorem OctRel.cell {B g n s k j : Nat} {w wr : World} (h : OctRel B g n s k w wr) (hj : j < s) : ∃ u, wr.cell? ⟨g, j, none⟩ = some u := by
  have h1 := h.1.cellAt j (by omega)
  have hl : j < (Us (octTo n s k)).length := by rw [Us_length, octTo, fillP_length]; exact hj
  rw [List.getElem?_eq_getElem hl] at h1
  exact ⟨_, h1⟩
theorem OctRel.step {B g n s k : Nat} {w wr : World} (h : OctRel B g n s k w wr) (hk : k < s) :
    OctRel B g n s (k + 1) w (wr.setCell ⟨g, s - 1 - k, none⟩ (.int .u8 (IntKind.u8.wrap ((n : Int) / 2 ^ (8 * k))))) := by
  rw [oct_val hk]
  refine ⟨?_, (h.2.1.setCell (p := ⟨g, s - 1 - k, none⟩) h.2.2 _), h.2.2⟩
  have h1 := (h.1.stored (s - 1 - k) (U (octAt n s (s - 1 - k)))).1
  rw [Us_set, octTo_set hk] at h1
  exact h1
theorem OctRel.done {B g n s k : Nat} {w wr : World} (h : OctRel B g n s k w wr) (hB : B = w.heap.size) (hk : k = s) :
    Gives w (octL n s) 0 (.returned (.tuple #[.slice (some ⟨g, 0, none⟩) s s, .int .i64 0])) wr := by
  subst hB hk
  refine ⟨_, k, by rw [octL_length], ?_, h.2.1⟩
  have h1 := h.1
  rw [octTo_all] at h1
  exact Sees.of_own h1
end Go.Proofs.YtcapbojjceeapaaDoor
