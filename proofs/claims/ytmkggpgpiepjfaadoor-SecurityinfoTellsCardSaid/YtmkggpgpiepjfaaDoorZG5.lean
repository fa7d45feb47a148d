/-
  What is proved here: what the makers' Mod returns, for every number and a positive modulus.
-/
import Derived.Test.YtmkggpgpiepjfaaDoorRows
import Derived.Test.YtmkggpgpiepjfaaDoorZG1
import Derived.Test.YtmkggpgpiepjfaaDoorZG1b
import Derived.Test.YtmkggpgpiepjfaaDoorZG2
import Derived.BigQuiet
import Derived.Test.YtmkggpgpiepjfaaDoorZG4
namespace Go.Proofs.YtmkggpgpiepjfaaDoor
open Go.RowKit
set_option maxRecDepth 8000
set_option linter.unusedVariables false
theorem made_mod (n m : Int) (lo : -9223372036854775808 ≤ n) (hi : n ≤ 9223372036854775807) (hm : 0 < m) (hm2 : m ≤ 4611686018427387903) (w : World) :
    Calls Tryd.prog 27 #[.int .i64 n, .int .i64 m] w fun e w' => e = .returned (.int .i64 (n % m)) ∧ w' = w := by
  have hne : m ≠ 0 := by omega
  have ht := Int.tmod_eq_emod (a := n) (b := m)
  have hr0 := Int.emod_nonneg n hne
  have hr1 := Int.emod_lt_of_pos n hm
  by_cases h : n.tmod m < 0
  · have e : n.tmod m + m = n % m := by
      split at ht
      · omega
      · have : ((m.natAbs : Int)) = m := by omega
        omega
    have lt : -m ≤ n.tmod m := by rw [← e] at hr0; omega
    have E := Lib.hid e
    have HM := Lib.hid hm2
    clear ht e
    go_enter Tryd.func27, Tryd.ntmps27
    go_wp2_with fail
    go_ret
    exact ⟨by rw [← E.out]; rfl, rfl⟩
  · have e : n.tmod m = n % m := by
      split at ht
      · omega
      · have : ((m.natAbs : Int)) = m := by omega
        omega
    have E := Lib.hid e
    clear ht e
    go_enter Tryd.func27, Tryd.ntmps27
    go_wp2_with fail
    go_ret
    exact ⟨by rw [← E.out]; rfl, rfl⟩
set_option maxRecDepth 8000
set_option linter.unusedVariables false
def DiceOk (w : World) (D : Nat) : Prop := ∃ (AL : Option Addr) (cL k : Nat) (ls : List Int), w.heap[D]? = some (.cells #[.slice AL ls.length cL, .int .i64 (k : Int)] 66 (0, 0)) ∧
  k ≤ ls.length ∧ ls.length ≤ 140737488351232 ∧ (∀ x ∈ ls, -9223372036854775808 ≤ x ∧ x ≤ 9223372036854775807) ∧ SeesP w (· < D) AL (ls.map (Value.int .i64))
theorem DiceOk.lt {w : World} {D : Nat} (h : DiceOk w D) : D < w.heap.size := by
  obtain ⟨_, _, _, _, h1, _⟩ := h
  exact lt_of_block h1
theorem DiceOk.keep {w w' : World} {D : Nat} (h : DiceOk w D) (hk : ∀ k, k ≤ D → w'.heap[k]? = w.heap[k]?) : DiceOk w' D := by
  obtain ⟨AL, cL, k, ls, h1, h2, h3, h4, h5⟩ := h
  exact ⟨AL, cL, k, ls, (hk D (Nat.le_refl _)).trans h1, h2, h3, h4, h5.keep fun q hq => World.cell?_of_block (hk _ (Nat.le_of_lt hq))⟩
theorem DiceOk.below {w w' : World} {D : Nat} (h : DiceOk w D) (hb : Below w.heap.size w w') : DiceOk w' D :=
  h.keep fun k hk => hb.block k (Nat.lt_of_le_of_lt hk h.lt)
theorem DiceOk.grown {w w' : World} {D : Nat} {row : Option Nat} (h : DiceOk w D) (hg : w.grownBy w' row) (hr : ∀ g, row = some g → D < g) : DiceOk w' D :=
  h.keep fun k hk => hg.block k (Nat.lt_of_le_of_lt hk h.lt) (by intro e; have := hr k e.symm; omega)
def NextIs (w : World) (D n : Nat) (e : Ending) (w' : World) : Prop := ∃ r : Nat, r < n ∧ e = .returned (.int .i64 (r : Int)) ∧ w.grownBy w' (some D) ∧ DiceOk w' D
set_option maxHeartbeats 1000000 in
theorem dice_next (D n : Nat) (w : World) (hn : 0 < n) (hn2 : n ≤ 4611686018427387903) (h : DiceOk w D) :
    Calls Tryd.prog 40 #[.pointer (some ⟨D, 0, none⟩), .int .i64 (n : Int)] w (NextIs w D n) := by
  obtain ⟨AL, cL, k, ls, h1, h2, h3, h4, h5⟩ := h
  have c0 := cell_of_row w D 0 _ _ _ h1
  have c1 := cell_of_row w D 1 _ _ _ h1
  have f1 := frozen_of_row w D 1 _ _ h1
  simp only [List.getElem?_toArray, List.getElem?_cons_succ, List.getElem?_cons_zero] at c0 c1
  by_cases hlt : k < ls.length
  · obtain ⟨x, hx⟩ : ∃ x, x = ls[k] := ⟨_, rfl⟩
    have hxr := h4 x (by rw [hx]; exact List.getElem_mem hlt)
    obtain ⟨b, o, hA, hb, hc⟩ : ∃ b o, AL = some ⟨b, o, none⟩ ∧ b < D ∧ w.cell? ⟨b, o + k, none⟩ = some (.int .i64 x) := by
      rcases h5 with h | ⟨b, o, e, hb, hc⟩
      · have : ls = [] := by simpa using h
        subst this; simp at hlt
      · exact ⟨b, o, e, hb, (hc k (by simpa using hlt)).trans (by simp [hlt, hx])⟩
    have hne : b ≠ D := by omega
    have HS := Lib.hid h5
    subst hA
    obtain ⟨r, hr⟩ : ∃ r : Nat, x % (n : Int) = (r : Int) := ⟨(x % (n : Int)).toNat, by have := Int.emod_nonneg x (show (n : Int) ≠ 0 by omega); omega⟩
    have hrn : r < n := by have := Int.emod_lt_of_pos x (show (0 : Int) < n by omega); omega
    have hM : ∀ u, Calls Tryd.prog 27 #[.int .i64 x, .int .i64 (n : Int)] u fun e w' => e = .returned (.int .i64 (r : Int)) ∧ ∃ q, w' = u.drewN q := fun u => by
      have := made_mod x (n : Int) hxr.1 hxr.2 (by omega) (by omega) u
      rw [hr] at this
      exact this.mono fun e w' ⟨h1, h2⟩ => ⟨h1, 0, h2⟩
    have HM := Lib.hid hM
    have H1 := Lib.hid (show _ ∧ (∀ x ∈ ls, -9223372036854775808 ≤ x ∧ x ≤ 9223372036854775807) from ⟨h1, h4⟩)
    clear hM hx hr h1 h4 h5 hxr
    go_enter Tryd.func40, Tryd.ntmps40
    go_wp2_with fail
    go_quiet (fail)
    go_wp2_with fail
    obtain ⟨W, hW⟩ : ∃ W, W = (w.drewN nq).setCell ⟨D, 1, none⟩ (.int .i64 ((k : Int) + 1)) := ⟨_, rfl⟩
    have e0 : W.cell? ⟨D, 0, none⟩ = some (.slice (some ⟨b, o, none⟩) ls.length cL) := by rw [hW, cell_of_row _ D 0 _ _ _ (block_set (w := w.drewN nq) (i := 1) H1.out.1 _)]; rfl
    have e1 : W.cell? ⟨D, 1, none⟩ = some (.int .i64 ((k : Int) + 1)) := by rw [hW, cell_of_row _ D 1 _ _ _ (block_set (w := w.drewN nq) (i := 1) H1.out.1 _)]; rfl
    have e2 : W.cell? ⟨b, o + k, none⟩ = some (.int .i64 x) := by rw [hW]; exact (World.cell?_of_block (Below.heap_setCell _ _ _ b hne)).trans hc
    have hg : w.grownBy W (some D) := by
      rw [hW]
      exact ⟨rfl, rfl, rfl, Nat.le_of_eq (by simp), fun j _ hj => Below.heap_setCell (w.drewN nq) _ _ j (by simpa using fun e => hj (by rw [e]))⟩
    have hd : DiceOk W D := ⟨some ⟨b, o, none⟩, cL, k + 1, ls, by rw [hW]; exact block_set (w := w.drewN nq) (i := 1) H1.out.1 _, by omega, h3, H1.out.2, HS.out.keep fun q hq => grown_cell hg (Nat.lt_trans hq (lt_of_block H1.out.1)) (Nat.ne_of_lt hq)⟩
    have HF := Lib.hid (show ∀ q, NextIs w D n (.returned (.int .i64 (r : Int))) (W.drewN q) from fun q => ⟨r, hrn, rfl, ⟨hg.os, hg.tape, hg.output, hg.size, hg.block⟩, hd.keep fun _ _ => rfl⟩)
    rw [← hW]
    clear hW hg hd c0 c1 f1 hc HS H1
    go_quiet ((go_at_call 27; exact Calls.quiet_of (HM.out _)))
    go_wp2_with fail
    go_ret
    exact HF.out _
  · have HF := Lib.hid (show DiceOk w D from ⟨AL, cL, k, ls, h1, h2, h3, h4, h5⟩)
    clear h1 h4 h5
    go_enter Tryd.func40, Tryd.ntmps40
    go_wp2_with fail
    go_quiet (fail)
    go_wp2_with fail
    go_ret
    exact ⟨0, hn, rfl, ⟨rfl, rfl, rfl, Nat.le_refl _, fun _ _ _ => rfl⟩, HF.out.keep fun _ _ => rfl⟩
def OneIs (w : World) (D : Nat) (e : Ending) (w' : World) : Prop := ∃ q : Bool, e = .returned (.bool q) ∧ w.grownBy w' (some D) ∧ DiceOk w' D
theorem dice_one (D n : Nat) (w : World) (hn : 0 < n) (hn2 : n ≤ 4611686018427387903) (h : DiceOk w D) :
    Calls Tryd.prog 20 #[.pointer (some ⟨D, 0, none⟩), .int .i64 (n : Int)] w (OneIs w D) := by
  have HN := Lib.hid (dice_next D n w hn hn2 h)
  clear h
  go_enter Tryd.func20, Tryd.ntmps20
  go_wp2_with fail
  refine HN.out.mono ?_
  rintro e w1 ⟨r, hr, rfl, hg, hd⟩
  have HF := Lib.hid (show _ ∧ _ from ⟨hg, hd⟩)
  clear hg hd
  go_wp2_with fail
  go_ret
  exact ⟨_, rfl, HF.out.1, HF.out.2⟩
set_option maxRecDepth 8000
set_option linter.unusedVariables false
def F.gd : F → Nat → Prop
  | .nil, _ => True
  | .cons t v k r, m => 1 ≤ m ∧ validB t = true ∧ (consB t = true → v = []) ∧ (consB t = false → k = .nil) ∧ v.length ≤ 300 ∧ k.len ≤ 3 ∧ k.gd (m - 1) ∧ r.gd m
theorem F.gd_app {m : Nat} {g : F} : ∀ {f : F}, f.gd m → g.gd m → (f.app g).gd m
  | .nil, _, h => h
  | .cons _ _ _ _, ⟨h1, h2, h3, h4, h5, h6, h7, h8⟩, h => ⟨h1, h2, h3, h4, h5, h6, h7, F.gd_app h8 h⟩
theorem grown_row {w a b : World} {D : Nat} {row : Option Nat} (h : w.grownBy a (some D)) (hg : a.grownBy b row) (hr : ∀ g, row = some g → w.heap.size ≤ g) : w.grownBy b (some D) := by
  refine ⟨hg.os.trans h.os, hg.tape.trans h.tape, hg.output.trans h.output, Nat.le_trans h.size hg.size, fun k hk hk2 => ?_⟩
  refine (hg.block k (Nat.lt_of_lt_of_le hk h.size) ?_).trans (h.block k hk hk2)
  intro e
  have := hr k e.symm
  omega
def NRel (w : World) (D m : Nat) (v : Value) (k : Nat) (wr : World) : Prop := ∃ f : F, f.len = k ∧ f.gd m ∧ Held w wr v f ∧ w.grownBy wr (some D) ∧ DiceOk wr D
theorem NRel.step {w wr w3 w4 : World} {D m k g cap : Nat} {v : Value} {f : F} {cs : List Value} {t : Int} {x : List UInt8} {kf : F} {Av Ak : Option Addr} {cv ck : Nat} {o : Obj}
    (hf : f.len = k) (hgd : f.gd m) (hww : w.grownBy wr (some D)) (hown : wr.ownsRow w.heap.size 54 3 v f.len cs) (hh : HoldsP wr (fun b => newB w wr b ∧ v.ownBlock ≠ some b) f cs)
    (hDw : D < w.heap.size) (hg3 : wr.grownBy w3 (some D)) (hd : DiceOk w3 D) (hn0 : Av = none → cv = 0) (hv : SeesP w3 (newB wr w3) Av (Us x)) (hk : SeesF w3 (newB wr w3) Ak kf) (hgd2 : (F.cons t x kf .nil).gd m)
    (ho : w4.ownsRow w.heap.size 54 3 (.slice (some ⟨g, 0, none⟩) (k + 1) cap) (k + 1) (cs ++ [.int .i64 t, .slice Av x.length cv, .slice Ak kf.len ck])) (hg4 : (w3.alloc o).grownBy w4 v.ownBlock)
    (hl : v.ownBlock = some g ∨ g = (w3.alloc o).heap.size) : NRel w D m (.slice (some ⟨g, 0, none⟩) (k + 1) cap) (k + 1) w4 := by
  subst hf
  have hW := own_size3 hown
  have hc := Held.carry hDw hg3 hown hh
  have hsn := Held.snoc hg3.size ((Below.refl w3.heap.size w3).alloc (Nat.le_refl _) o) hn0 hv hk hww.size hW cs hc.2 ho hg4 hl
  have hr : ∀ g, v.ownBlock = some g → w.heap.size ≤ g := fun g e => by
    rcases hW with h | ⟨g2, h, h2, _⟩
    · rw [h] at e; cases e
    · rw [h] at e; injection e with e; omega
  exact ⟨_, by rw [F.len_app]; rfl, F.gd_app hgd hgd2, hsn, grown_row (grown_trans (grown_trans hww hg3) (grown_alloc w3 o (some D))) hg4 hr,
    (hd.below ((Below.refl _ _).alloc (Nat.le_refl _) o)).grown hg4 (fun g e => by have := hr g e; omega)⟩
set_option maxRecDepth 8000
set_option linter.unusedVariables false
def HdOk (st : Bool) (t : Int) (n : Nat) (hd tl : List UInt8) : Prop :=
  (tl = [] ∧ hd = [UInt8.ofNat n] ∧ n ≤ 127) ∨
  (tl = [] ∧ ∃ m dg, hd = UInt8.ofNat (128 + m) :: dg ∧ dg.length = m ∧ 1 ≤ m ∧ m ≤ 4 ∧ numL dg = n ∧ (st = true → shortB (128 + m) n = true)) ∨
  (st = false ∧ hd = [128] ∧ tl = [0, 0] ∧ consB t = true)
def LooseOf (st : Bool) : F → List UInt8 → Prop
  | .nil, b => b = []
  | .cons t v k r, b => ∃ ck br hd tl, LooseOf st k ck ∧ LooseOf st r br ∧ HdOk st t (v.length + ck.length) hd tl ∧ b = tagL t.toNat ++ (hd ++ (v ++ ck ++ (tl ++ br)))
theorem LooseOf.app {st : Bool} {g : F} {bg : List UInt8} (hg : LooseOf st g bg) : ∀ {f : F} {bf : List UInt8}, LooseOf st f bf → LooseOf st (f.app g) (bf ++ bg)
  | .nil, _, h => by cases h; exact hg
  | .cons t v k r, _, ⟨ck, br, hd, tl, h1, h2, h3, e⟩ => ⟨ck, br ++ bg, hd, tl, h1, LooseOf.app hg h2, h3, by rw [e]; simp only [List.append_assoc]⟩
theorem hdr_first {t : Nat} (hv : validB (t : Int) = true) {f : Nat} (hf : f < 256) (r : List UInt8) :
    hdrZ (tagL t ++ UInt8.ofNat f :: r) = tagN (t : Int) + 1 ∧ hdrF (tagL t ++ UInt8.ofNat f :: r) = f ∧ tagE (tagL t ++ UInt8.ofNat f :: r) = 0 ∧ tagV (tagL t ++ UInt8.ofNat f :: r) = t ∧ (tagL t ++ UInt8.ofNat f :: r).drop (tagN (t : Int) + 1) = r := by
  have ht := tag_read hv (UInt8.ofNat f :: r)
  have hZ : hdrZ (tagL t ++ UInt8.ofNat f :: r) = tagN (t : Int) + 1 := by unfold hdrZ; rw [ht.2]
  refine ⟨hZ, ?_, ht.1, ht.2, ?_⟩
  · unfold hdrF
    rw [hZ, Nat.add_sub_cancel]
    have : (tagL t ++ UInt8.ofNat f :: r).getD (tagN (t : Int)) 0 = UInt8.ofNat f := by
      rw [← tagL_len]
      simp [List.getD]
    rw [this, ofNat_toNat hf]
  · rw [← tagL_len, List.drop_append]
    simp [List.drop_eq_nil_of_le]
theorem hdr_def {st : Bool} {t : Nat} {n : Nat} {hd : List UInt8} (hv : validB (t : Int) = true) (h : HdOk st (t : Int) n hd []) (X : List UInt8) :
    hdrE (tagL t ++ (hd ++ X)) = 0 ∧ hdrF (tagL t ++ (hd ++ X)) ≠ 128 ∧ hdrN (tagL t ++ (hd ++ X)) = n ∧ (tagL t ++ (hd ++ X)).drop (hdrS (tagL t ++ (hd ++ X))) = X ∧ tagV (tagL t ++ (hd ++ X)) = t ∧ (st = true → shortB (hdrF (tagL t ++ (hd ++ X))) n = true) := by
  rcases h with ⟨_, rfl, hn⟩ | ⟨_, m, dg, rfl, hm, h1, h4, hN, hS⟩ | ⟨_, _, h, _⟩
  · obtain ⟨e1, e2, e3, e4, e5⟩ := hdr_short hv hn X
    obtain ⟨_, _, _, _, hd⟩ := hdr_first hv (f := n) (by omega) X
    rw [List.singleton_append]
    refine ⟨e1, by omega, e3, by rw [e4]; exact hd, e5, fun _ => ?_⟩
    rw [e2]
    unfold shortB
    rw [lb_0 hn, if_pos rfl, decide_eq_true hn]
  · obtain ⟨z, f, te, tv, hd⟩ := hdr_first hv (f := 128 + m) (by omega) (dg ++ X)
    rw [List.cons_append]
    have hl : (tagL t ++ UInt8.ofNat (128 + m) :: (dg ++ X)).length = tagN (t : Int) + 1 + (m + X.length) := by
      rw [List.length_append, tagL_len, List.length_cons, List.length_append, hm]; omega
    refine ⟨?_, by omega, ?_, ?_, tv, fun h => by rw [f]; exact hS h⟩
    · unfold hdrE
      rw [if_neg (by omega), z, f, if_neg (by omega), if_neg (by omega), if_neg (by omega), if_neg (by omega)]
    · unfold hdrN
      rw [f, if_neg (by omega), z, hd, show 128 + m - 128 = m by omega, ← hm, List.take_left, hN]
    · unfold hdrS
      rw [f, if_neg (by omega), z, show 128 + m - 128 = m by omega, ← List.drop_drop, hd, ← hm, List.drop_left]
  · cases h
theorem hdr_ind {t : Nat} (hv : validB (t : Int) = true) (X : List UInt8) :
    hdrE (tagL t ++ ([128] ++ X)) = 0 ∧ hdrF (tagL t ++ ([128] ++ X)) = 128 ∧ (tagL t ++ ([128] ++ X)).drop (hdrS (tagL t ++ ([128] ++ X))) = X ∧ tagV (tagL t ++ ([128] ++ X)) = t := by
  obtain ⟨z, f, te, tv, hd⟩ := hdr_first hv (f := 128) (by omega) X
  have e : (UInt8.ofNat 128) = 128 := rfl
  rw [e] at z f te tv hd
  rw [List.singleton_append]
  have hl : (tagL t ++ 128 :: X).length = tagN (t : Int) + 1 + X.length := by
    rw [List.length_append, tagL_len, List.length_cons]; omega
  refine ⟨?_, f, ?_, tv⟩
  · unfold hdrE
    rw [if_neg (by omega), z, f, if_neg (by omega), if_neg (by omega), if_neg (by omega), if_neg (by omega)]
  · unfold hdrS
    rw [f, if_neg (by omega), z]
    exact hd
theorem adm_fine {st : Bool} {t f n c : Nat} {d : Int} (h1 : f = 128 → consB (t : Int) = true ∧ st = false) (h2 : st = true → shortB f n = true) (hd : d ≤ 8) (hc : c + 1 ≤ 256) : admE st t f n d c = 0 := by
  unfold admE
  rw [if_neg ?_, if_neg (by omega), if_neg (by omega)]
  rintro (⟨h, h'⟩ | ⟨h, h'⟩)
  · rw [(h1 h).1] at h'; cases h'
  · rw [h2 h] at h'; cases h'
def F.fit : F → Nat → Prop
  | .nil, _ => True
  | .cons t v k r, m => 1 ≤ m ∧ validB t = true ∧ (consB t = true → v = []) ∧ (consB t = false → k = .nil) ∧ v.length ≤ 4096 ∧ k.fit (m - 1) ∧ r.fit m
theorem F.fit_chk : ∀ {f : F} {m : Nat} {d : Int}, f.fit m → d + m ≤ 9 → chkE f d = 0
  | .nil, _, _, _, _ => rfl
  | .cons t v k r, m, d, ⟨h1, h2, h3, h4, h5, h7, h8⟩, hd => by
    have c1 : chk1 t v.length k.len d = 0 := by
      unfold chk1
      rw [if_neg (by rw [h2]; decide), if_neg ?_, if_neg (by omega)]
      rintro (⟨hc, hl⟩ | ⟨hc, hl⟩)
      · rw [h3 hc] at hl; simp at hl
      · rw [h4 hc] at hl; simp [F.len] at hl
    rw [chkE_3 c1 (F.fit_chk h7 (by omega))]
    exact F.fit_chk h8 hd
theorem F.fit_ok : ∀ {f : F} {m : Nat}, f.fit m → f.ok
  | .nil, _, _ => trivial
  | .cons t v k r, m, ⟨h1, h2, h3, h4, h5, h7, h8⟩ => by
    have := valid_range h2
    exact ⟨by omega, by omega, F.fit_ok h7, F.fit_ok h8⟩
def BackL (st : Bool) (f : F) : Prop := ∀ (K m c : Nat) (b : List UInt8), f.fit K → K ≤ 8 → LooseOf st f b → b.length ≤ m → c + f.size ≤ 256 → loopL (pObj st K) m c b = .ok (f, c + f.size)
def BackM (st : Bool) (f : F) : Prop := ∀ (K m c : Nat) (b rest : List UInt8), f.fit K → K ≤ 8 → LooseOf st f b → (b ++ ([0, 0] ++ rest)).length ≤ m → c + f.size ≤ 256 → loopM (pObj st K) m c (b ++ ([0, 0] ++ rest)) = .ok (f, rest, c + f.size)
theorem back_obj {st : Bool} {t : Int} {v : List UInt8} {k : F} (hL : BackL st k) (hM : BackM st k) {K c : Nat} {ck hd tl X : List UInt8} (hg : (F.cons t v k .nil).fit K) (hK : K ≤ 8) (hk : LooseOf st k ck) (hh : HdOk st t (v.length + ck.length) hd tl) (hc : c + 1 + k.size ≤ 256) :
    pObj st K c (tagL t.toNat ++ (hd ++ (v ++ ck ++ (tl ++ X)))) = .ok (t, v, k, X, c + 1 + k.size) := by
  obtain ⟨g1, g2, g3, g4, g5, g7, _⟩ := hg
  have hr := valid_range g2
  obtain ⟨T, rfl⟩ := Int.eq_ofNat_of_zero_le (show 0 ≤ t by omega)
  obtain ⟨K', rfl⟩ : ∃ K', K = K' + 1 := ⟨K - 1, by omega⟩
  simp only [Nat.add_sub_cancel] at g7
  simp only [Int.toNat_natCast]
  have hd8 : (8 : Int) - (K' : Int) ≤ 8 := by omega
  have hh2 := hh
  rcases hh with ⟨rfl, _, _⟩ | ⟨rfl, _⟩ | ⟨h1, h2, h3, h4⟩
  iterate 2
    obtain ⟨e1, e2, e3, e4, e5, e6⟩ := hdr_def g2 hh2 (v ++ ck ++ ([] ++ X))
    have hA := adm_fine (st := st) (t := T) (f := hdrF (tagL T ++ (hd ++ (v ++ ck ++ ([] ++ X))))) (n := v.length + ck.length) (c := c) (fun h => absurd h e2) e6 hd8 (by omega)
    simp only [pObj]
    rw [if_neg (by omega), e3, e5, if_neg (by omega), if_neg e2, e4, if_neg (by simp only [List.length_append, List.nil_append]; omega)]
    have et : (v ++ ck ++ ([] ++ X)).take (v.length + ck.length) = v ++ ck := by rw [← List.length_append, List.take_left]
    have ed : (v ++ ck ++ ([] ++ X)).drop (v.length + ck.length) = X := by rw [← List.length_append, List.drop_left]; rfl
    rw [et, ed]
    cases hcb : consB (T : Int)
    · have hkn := g4 hcb
      subst hkn
      cases hk
      rw [if_pos rfl, List.append_nil]
      rfl
    · have hvn := g3 hcb
      subst hvn
      rw [if_neg (by decide)]
      simp only [List.nil_append, List.length_nil, Nat.zero_add]
      rw [hL K' ck.length (c + 1) ck g7 (by omega) hk (Nat.le_refl _) (by omega)]
  · subst h1 h2 h3
    have hvn := g3 h4
    subst hvn
    obtain ⟨e1, e2, e4, e5⟩ := hdr_ind g2 ([] ++ ck ++ ([0, 0] ++ X))
    have hA := adm_fine (st := false) (t := T) (f := 128) (n := hdrN (tagL T ++ ([128] ++ ([] ++ ck ++ ([0, 0] ++ X))))) (c := c) (fun _ => ⟨h4, rfl⟩) (fun h => by cases h) hd8 (by omega)
    simp only [pObj]
    rw [if_neg (by omega), e5, e2, if_neg (by omega), if_pos rfl, e4]
    simp only [List.nil_append]
    rw [hM K' _ (c + 1) ck X g7 (by omega) hk (Nat.le_refl _) (by omega)]
theorem tag_nonzero {t : Nat} (hv : validB (t : Int) = true) (r : List UInt8) : (tagL t ++ r).take 2 ≠ [0, 0] := by
  have hr := valid_range hv
  intro h
  unfold tagL at h
  split at h
  · rename_i h2
    simp only [List.cons_append, List.nil_append, List.take_succ_cons, List.cons.injEq] at h
    have := congrArg UInt8.toNat h.1
    rw [ofNat_mod] at this
    have e : (0 : UInt8).toNat = 0 := rfl
    omega
  · rename_i h2
    simp only [List.cons_append, List.nil_append, List.take_succ_cons, List.cons.injEq] at h
    have := congrArg UInt8.toNat h.1
    rw [ofNat_mod] at this
    have e : (0 : UInt8).toNat = 0 := rfl
    omega
theorem tagL_pos (t : Nat) : 1 ≤ (tagL t).length := by unfold tagL; split <;> simp
theorem hd_pos {st : Bool} {t : Int} {n : Nat} {hd tl : List UInt8} (h : HdOk st t n hd tl) : 1 ≤ hd.length := by
  rcases h with ⟨_, rfl, _⟩ | ⟨_, m, dg, rfl, _⟩ | ⟨_, rfl, _, _⟩ <;> simp
theorem back_all (st : Bool) : ∀ f : F, BackL st f ∧ BackM st f
  | .nil => by
    refine ⟨fun K m c b _ _ h _ _ => ?_, fun K m c b rest _ _ h hm _ => ?_⟩
    · cases h; rw [loopL_end]; rfl
    · cases h
      simp only [List.nil_append, List.length_append, List.length_cons, List.length_nil] at hm
      obtain ⟨m', rfl⟩ : ∃ m', m = m' + 1 := ⟨m - 1, by omega⟩
      rw [List.nil_append, loopM_end (by simp) (by rfl)]
      rfl
  | .cons t v k r => by
    obtain ⟨kL, kM⟩ := back_all st k
    obtain ⟨rL, rM⟩ := back_all st r
    refine ⟨fun K m c b hg hK h hm hc => ?_, fun K m c b rest hg hK h hm hc => ?_⟩
    · obtain ⟨ck, br, hd, tl, hk, hr, hh, rfl⟩ := h
      obtain ⟨g1, g2, g3, g4, g5, g7, g8⟩ := hg
      simp only [F.size] at hc
      have ho := back_obj kL kM (X := br) (c := c) (K := K) ⟨g1, g2, g3, g4, g5, g7, trivial⟩ hK hk hh (by omega)
      have hp1 := tagL_pos t.toNat
      have hp2 := hd_pos hh
      simp only [List.length_append] at hm
      obtain ⟨m', rfl⟩ : ∃ m', m = m' + 1 := ⟨m - 1, by omega⟩
      rw [loopL_ok (by intro e; have := congrArg List.length e; simp only [List.length_append, List.length_nil] at this; omega) ho, rL K m' (c + 1 + k.size) br g8 hK hr (by omega) (by omega)]
      simp only [joinL, F.app, F.size, Except.ok.injEq, Prod.mk.injEq, true_and]
      omega
    · obtain ⟨ck, br, hd, tl, hk, hr, hh, rfl⟩ := h
      obtain ⟨g1, g2, g3, g4, g5, g7, g8⟩ := hg
      simp only [F.size] at hc
      have hvr := valid_range g2
      have e : tagL t.toNat ++ (hd ++ (v ++ ck ++ (tl ++ br))) ++ ([0, 0] ++ rest) = tagL t.toNat ++ (hd ++ (v ++ ck ++ (tl ++ (br ++ ([0, 0] ++ rest))))) := by simp only [List.append_assoc]
      rw [e] at hm ⊢
      have ho := back_obj kL kM (X := br ++ ([0, 0] ++ rest)) (c := c) (K := K) ⟨g1, g2, g3, g4, g5, g7, trivial⟩ hK hk hh (by omega)
      have hp1 := tagL_pos t.toNat
      have hp2 := hd_pos hh
      have hm2 := hm
      simp only [List.length_append, List.length_cons, List.length_nil] at hm2
      obtain ⟨m', rfl⟩ : ∃ m', m = m' + 1 := ⟨m - 1, by omega⟩
      obtain ⟨T, rfl⟩ := Int.eq_ofNat_of_zero_le (show 0 ≤ t by omega)
      rw [loopM_ok (by simp only [List.length_append, List.length_cons, List.length_nil]; omega) (tag_nonzero (by simpa using g2) _) ho, rM K m' (c + 1 + k.size) br rest g8 hK hr (by simp only [List.length_append, List.length_cons, List.length_nil]; omega) (by omega)]
      simp only [joinM, F.app, F.size, Except.ok.injEq, Prod.mk.injEq, true_and]
      omega
theorem parse_fit {st : Bool} {f : F} {b : List UInt8} (hg : f.fit 8) (h : LooseOf st f b) (hl : b.length ≤ 4096) (hs : f.size ≤ 256) : parse st b = .ok (f, f.size) := by
  unfold parse
  rw [if_neg (by omega), (back_all st f).1 8 b.length 0 b hg (Nat.le_refl _) h (Nat.le_refl _) (by omega), Nat.zero_add]
theorem numL_len {n : Nat} (h : n ≤ 65535) (h2 : 127 < n) : numL (lenD n (lb n) (lb n)) = n ∧ 1 ≤ lb n ∧ lb n ≤ 4 := by
  by_cases h3 : n < 256
  · rw [lb_1 h2 h3]
    refine ⟨?_, by decide, by decide⟩
    simp [lenD, numL]
    omega
  · rw [lb_2 (by omega) (by omega)]
    refine ⟨?_, by decide, by decide⟩
    simp [lenD, numL, List.range_succ]
    omega
theorem hd_short {st : Bool} (t : Int) {n : Nat} (h : n ≤ 65535) : HdOk st t n (lenL n) [] := by
  by_cases h2 : n ≤ 127
  · left; unfold lenL; rw [if_pos h2]; exact ⟨rfl, rfl, h2⟩
  · right; left
    have hn := numL_len h (by omega)
    unfold lenL; rw [if_neg h2]
    refine ⟨rfl, lb n, _, rfl, lenD_length _ _ _, hn.2.1, hn.2.2, hn.1, fun _ => ?_⟩
    unfold shortB
    rw [if_neg (by omega), decide_eq_true rfl]
theorem loose_enc (st : Bool) : ∀ (f : F), encN f ≤ 65535 → LooseOf st f (enc f)
  | .nil, _ => rfl
  | .cons t v k r, h => by
    simp only [encN] at h
    refine ⟨enc k, enc r, lenL (v.length + encN k), [], loose_enc st k (by omega), loose_enc st r (by omega), ?_, ?_⟩
    · rw [enc_length]; exact hd_short t (by omega)
    · simp only [enc, List.append_assoc, List.nil_append]
set_option maxRecDepth 8000
theorem info_u8 : (Tryd.prog.info? 5).map (fun i => (i.zero, i.size, i.bytes)) = some (some (.int .u8 0), 1, 1) := by kernel_rfl
def octAt (n s i : Nat) : UInt8 := UInt8.ofNat (n / 256 ^ (s - 1 - i))
def octL (n s : Nat) : List UInt8 := (List.range s).map (octAt n s)
theorem octL_length (n s : Nat) : (octL n s).length = s := by simp [octL]
def octTo (n s k : Nat) : List UInt8 := fillP (octAt n s) s (fun i => decide (s ≤ i + k))
theorem octTo_zero (n s : Nat) : octTo n s 0 = List.replicate s 0 := by
  apply List.ext_getElem
  · simp [octTo, fillP]
  · intro i h1 h2
    have : i < s := by simpa [octTo, fillP] using h1
    simp [octTo, fillP]; omega
theorem octTo_all (n s : Nat) : octTo n s s = octL n s := fillP_all fun i _ => by simp
theorem octTo_set {n s k : Nat} (hk : k < s) : (octTo n s k).set (s - 1 - k) (octAt n s (s - 1 - k)) = octTo n s (k + 1) := by
  refine fillP_set (by simp; omega) fun i hi => ?_
  have : (s ≤ i + (k + 1)) = (s ≤ i + k) := by apply propext; omega
  simp [this]
theorem oct_val {n s k : Nat} (hk : k < s) : Value.int .u8 (IntKind.u8.wrap ((n : Int) / 2 ^ (8 * k))) = U (octAt n s (s - 1 - k)) := by
  have e : ((n : Int) / 2 ^ (8 * k)) = ((n / 256 ^ k : Nat) : Int) := by
    rw [show (256 : Nat) = 2 ^ 8 from rfl, ← Nat.pow_mul]; simp
  rw [e, IntKind.wrap_u8']
  simp only [U, octAt]
  rw [show s - 1 - (s - 1 - k) = k from by omega]
  simp
def OctRel (B g : Nat) (n s k : Nat) (w wr : World) : Prop :=
  wr.ownsRow B 5 1 (.slice (some ⟨g, 0, none⟩) s s) s (Us (octTo n s k)) ∧ Below B w wr ∧ B ≤ g
theorem OctRel.cell {B g n s k j : Nat} {w wr : World} (h : OctRel B g n s k w wr) (hj : j < s) : ∃ u, wr.cell? ⟨g, j, none⟩ = some u := by
  have h1 := h.1.cellAt j (by omega)
  have hl : j < (Us (octTo n s k)).length := by rw [Us_length, octTo, fillP_length]; exact hj
  rw [List.getElem?_eq_getElem hl] at h1
  exact ⟨_, h1⟩
theorem OctRel.step {B g n s k : Nat} {w wr : World} (h : OctRel B g n s k w wr) (hk : k < s) :
    OctRel B g n s (k + 1) w (wr.setCell ⟨g, s - 1 - k, none⟩ (.int .u8 (IntKind.u8.wrap ((n : Int) / 2 ^ (8 * k))))) := by
  rw [oct_val hk]
  refine ⟨?_, (h.2.1.setCell (p := ⟨g, s - 1 - k, none⟩) h.2.2 _), h.2.2⟩
  have h1 := (h.1.stored (s - 1 - k) (U (octAt n s (s - 1 - k)))).1
  rw [Us_set, octTo_set hk] at h1
  exact h1
theorem OctRel.done {B g n s k : Nat} {w wr : World} (h : OctRel B g n s k w wr) (hB : B = w.heap.size) (hk : k = s) :
    Gives w (octL n s) 0 (.returned (.tuple #[.slice (some ⟨g, 0, none⟩) s s, .int .i64 0])) wr := by
  subst hB hk
  refine ⟨_, k, by rw [octL_length], ?_, h.2.1⟩
  have h1 := h.1
  rw [octTo_all] at h1
  exact Sees.of_own h1
end Go.Proofs.YtmkggpgpiepjfaaDoor
