/-
  What is proved here: what the reference's Valid and Constructed return, for every number.
-/
import Derived.Test.YtkgfdbbdmchmeaaDoorRows
import Derived.Test.YtkgfdbbdmchmeaaDoorZ0
import Derived.Test.YtkgfdbbdmchmeaaDoorZ2
import Derived.Test.YtkgfdbbdmchmeaaDoorZ14
import Derived.Deep.CutRange
import Derived.Laws.AppendOwnNone
import Derived.Test.YtkgfdbbdmchmeaaDoorZ12
import Derived.Deep.RegionLaw
import Derived.Deep.RegionWith
namespace Go.Proofs.YtkgfdbbdmchmeaaDoor
open Go.RowKit
set_option maxRecDepth 8000
theorem valid_in {t : Int} (h1 : 1 ≤ t) (h2 : t ≤ 255) : validB t = (t % 32 != 31) := by
  unfold validB
  rw [if_pos (by omega), decide_eq_true (show 0 < t by omega), Bool.true_and]
  by_cases h3 : t % 32 = 31 <;> simp [h3]
theorem valid_hi {t : Int} (h1 : 256 ≤ t) (h2 : t ≤ 65535) : validB t = (decide (t / 256 % 32 = 31) && decide (1 ≤ t % 256) && decide (t % 256 ≤ 127)) := by
  unfold validB
  rw [if_neg (by omega), decide_eq_true (show t / 256 ≤ 255 by omega), Bool.true_and]
theorem valid_out {t : Int} (h : ¬ (1 ≤ t ∧ t ≤ 255)) (h2 : ¬ (256 ≤ t ∧ t ≤ 65535)) : validB t = false := by
  cases hv : validB t with
  | false => rfl
  | true =>
    have := valid_range hv
    omega
theorem ref_valid (t : Int) (lo : -9223372036854775808 ≤ t) (hi : t ≤ 9223372036854775807) (w : World) :
    Calls Tryd.prog 60 #[.int .i64 t] w fun e w' => e = .returned (.bool (validB t)) ∧ w' = w := by
  by_cases h1 : 1 ≤ t
  · have d1 : decide (1 ≤ t) = true := by simpa using h1
    by_cases h2 : t ≤ 255
    · have d2 : decide (t ≤ 255) = true := by simpa using h2
      rw [valid_in h1 h2]
      clear h2
      go_enter Tryd.func60, Tryd.ntmps60
      go_wp2
      go_ret
      exact ⟨rfl, rfl⟩
    · have d2 : decide (t ≤ 255) = false := by simpa using h2
      have d3 : decide (256 ≤ t) = true := by simp; omega
      by_cases h3 : t ≤ 65535
      · have d4 : decide (t ≤ 65535) = true := by simpa using h3
        have hv := valid_hi (t := t) (by omega) h3
        by_cases h4 : t / 256 % 32 = 31
        · have d5 : (t / 256 % 32 == 31) = true := by simpa using h4
          by_cases h5 : 1 ≤ t % 256
          · have d6 : decide (1 ≤ t % 256) = true := by simpa using h5
            rw [hv, decide_eq_true h4, d6, Bool.true_and, Bool.true_and]
            clear hv h4 h5 h2 h3
            go_enter Tryd.func60, Tryd.ntmps60
            go_wp2
            go_ret
            exact ⟨rfl, rfl⟩
          · have d6 : decide (1 ≤ t % 256) = false := by simpa using h5
            rw [hv, decide_eq_true h4, d6, Bool.and_false, Bool.false_and]
            clear hv h4 h5 h2 h3
            go_enter Tryd.func60, Tryd.ntmps60
            go_wp2
            go_ret
            exact ⟨rfl, rfl⟩
        · have d5 : (t / 256 % 32 == 31) = false := by simpa using h4
          rw [hv, decide_eq_false h4, Bool.false_and, Bool.false_and]
          clear hv h4 h2 h3
          go_enter Tryd.func60, Tryd.ntmps60
          go_wp2
          go_ret
          exact ⟨rfl, rfl⟩
      · have d4 : decide (t ≤ 65535) = false := by simpa using h3
        rw [valid_out (by omega) (by omega)]
        clear h2 h3
        go_enter Tryd.func60, Tryd.ntmps60
        go_wp2
        go_ret
        exact ⟨rfl, rfl⟩
  · have d1 : decide (1 ≤ t) = false := by simpa using h1
    have d3 : decide (256 ≤ t) = false := by simp; omega
    rw [valid_out (by omega) (by omega)]
    clear h1
    go_enter Tryd.func60, Tryd.ntmps60
    go_wp2
    go_ret
    exact ⟨rfl, rfl⟩
theorem ref_cons (t : Int) (lo : -9223372036854775808 ≤ t) (hi : t ≤ 9223372036854775807) (w : World) :
    Calls Tryd.prog 61 #[.int .i64 t] w fun e w' => e = .returned (.bool (consB t)) ∧ w' = w := by
  cases hv : validB t
  · have hc : consB t = false := by unfold consB; rw [hv, Bool.false_and]
    have hw : ∀ u, Calls Tryd.prog 60 #[.int .i64 t] u fun e w' => e = .returned (.bool false) ∧ w' = u := fun u => by have := ref_valid t lo hi u; rwa [hv] at this
    have HW := Lib.hid hw
    rw [hc]
    clear hc hw
    go_enter Tryd.func61, Tryd.ntmps61
    go_wp2_with (go_at_call 60; refine (HW.out _).mono ?_; rintro e w' ⟨rfl, rfl⟩)
    go_ret
    exact ⟨rfl, rfl⟩
  · have hr := valid_range hv
    have hw : ∀ u, Calls Tryd.prog 60 #[.int .i64 t] u fun e w' => e = .returned (.bool true) ∧ w' = u := fun u => by have := ref_valid t lo hi u; rwa [hv] at this
    have HW := Lib.hid hw
    clear hw
    by_cases h : 255 < t
    · have d : decide (255 < t) = true := by simpa using h
      have hc : consB t = (t / 256 / 32 % 2 == 1) := by
        unfold consB firstB; rw [hv, Bool.true_and, if_neg (by omega)]
        by_cases h3 : t / 256 / 32 % 2 = 1 <;> simp [h3]
      rw [hc]
      clear hc h
      go_enter Tryd.func61, Tryd.ntmps61
      go_wp2_with (go_at_call 60; refine (HW.out _).mono ?_; rintro e w' ⟨rfl, rfl⟩)
      go_ret
      exact ⟨rfl, rfl⟩
    · have d : decide (255 < t) = false := by simpa using h
      have hc : consB t = (t / 32 % 2 == 1) := by
        unfold consB firstB; rw [hv, Bool.true_and, if_pos (by omega)]
        by_cases h3 : t / 32 % 2 = 1 <;> simp [h3]
      rw [hc]
      clear hc h
      go_enter Tryd.func61, Tryd.ntmps61
      go_wp2_with (go_at_call 60; refine (HW.out _).mono ?_; rintro e w' ⟨rfl, rfl⟩)
      go_ret
      exact ⟨rfl, rfl⟩
end Go.Proofs.YtkgfdbbdmchmeaaDoor
namespace Go.Proofs.YtkgfdbbdmchmeaaDoor
open Go.RowKit
set_option linter.unusedVariables false
def St2 (w : World) (D : Nat) (l : List UInt8) (v : Value) (wX : World) : Prop := wX.ownsRow w.heap.size 5 1 v l.length (Us l) ∧ w.grownBy wX (some D) ∧ DiceOk wX D
theorem own_row {w : World} {base : Nat} {e : TypeId} {s : Nat} {v : Value} {n : Nat} {xs : List Value} (h : w.ownsRow base e s v n xs) : ∀ g, v.ownBlock = some g → base ≤ g := fun g e => (h.lt g e).1
theorem St2.app {w wX w2 : World} {D : Nat} {l xs : List UInt8} {v v2 : Value} {o : Obj} {n : Nat} {news : List Value} (h : St2 w D l v wX) (hDw : D < w.heap.size) (hn : n = xs.length) (he : news = Us xs) (ho : w2.ownsRow w.heap.size 5 1 v2 (l.length + n) (Us l ++ news)) (hg : (wX.alloc o).grownBy w2 v.ownBlock) : St2 w D (l ++ xs) v2 w2 := by
  subst hn he
  refine ⟨by rw [List.length_append, Us_append]; exact ho, grown_row (grown_trans h.2.1 (grown_alloc wX o (some D))) hg (own_row h.1), ?_⟩
  exact (h.2.2.below ((Below.refl _ _).alloc (Nat.le_refl _) o)).grown hg fun g e => by have := own_row h.1 g e; omega
theorem St2.src {w wX w2 : World} {D : Nat} {l xs : List UInt8} {v v2 : Value} (h : St2 w D l v wX) (hDw : D < w.heap.size) (ho : w2.ownsRow w.heap.size 5 1 v2 (l.length + xs.length) (Us l ++ Us xs)) (hg : wX.grownBy w2 v.ownBlock) : St2 w D (l ++ xs) v2 w2 :=
  ⟨by rw [List.length_append, Us_append]; exact ho, grown_row h.2.1 hg (own_row h.1), h.2.2.grown hg fun g e => by have := own_row h.1 g e; omega⟩
def Con (wX : World) (v : Value) (A : Option Addr) (c : Nat) (cb : List UInt8) : Prop := SeesP wX (fun b => b < wX.heap.size ∧ v.ownBlock ≠ some b) A (Us cb) ∧ (A = none → c = 0)
theorem Con.grown {wX w2 : World} {D : Nat} {v : Value} {A : Option Addr} {cb : List UInt8} (h : SeesP wX (fun b => b < wX.heap.size ∧ v.ownBlock ≠ some b ∧ b ≠ D) A (Us cb)) (hg : wX.grownBy w2 (some D)) : SeesP w2 (fun b => b < w2.heap.size ∧ v.ownBlock ≠ some b ∧ b ≠ D) A (Us cb) :=
  (h.keep fun q hq => grown_cell hg hq.1 hq.2.2).imp fun b hb => ⟨Nat.lt_of_lt_of_le hb.1 hg.size, hb.2⟩
theorem t1 (t : Nat) : #[Value.int .u8 ((t : Int) % 256)].toList = Us [UInt8.ofNat t] := by simp [Us, U]
theorem h00 {n : Nat} (h : n < 256) : #[Value.int .u8 (n : Int)].toList = Us [UInt8.ofNat n] := by simp [Us, U]; omega
theorem u8s_cells {l : List Value} {xs : List UInt8} (h : l = Us xs) : ∀ u ∈ l, u.oneCell' = true := by rw [h]; exact Us_one xs
def LRel (w : World) (D : Nat) (p : Nat → Prop) (cs : List Value) (f : F) (v : Value) (j : Nat) (g : F) (l : List UInt8) (wr : World) : Prop :=
  St2 w D l v wr ∧ HoldsP w p g (cs.drop (3 * j)) ∧ ∃ df : F, df.app g = f ∧ (l.length ≤ 4096 → LooseOf false df l) ∧ l.length ≤ df.size * 400 ∧ df.size + g.size = f.size
theorem LRel.step {w w2 : World} {D : Nat} {p : Nat → Prop} {cs : List Value} {f : F} {v2 : Value} {j : Nat} {t : Int} {v ck : List UInt8} {kk r : F} {l hd tl L : List UInt8}
    (hh : HoldsP w p r (cs.drop (3 * (j + 1)))) (hx : ∃ df : F, df.app (.cons t v kk r) = f ∧ (l.length ≤ 4096 → LooseOf false df l) ∧ l.length ≤ df.size * 400 ∧ df.size + (F.cons t v kk r).size = f.size)
    (hL : L = l ++ tagL t.toNat ++ hd ++ (v ++ ck) ++ tl) (hst : St2 w D L v2 w2) (hck : ck.length ≤ 4096 → LooseOf false kk ck) (hcl : ck.length ≤ kk.size * 400) (hvl : v.length ≤ 300) (hhl : hd.length + tl.length ≤ 5)
    (hok : v.length + ck.length ≤ 4096 → HdOk false t (v.length + ck.length) hd tl) : LRel w D p cs f v2 (j + 1) r L w2 := by
  obtain ⟨df, d1, d2, d3, d4⟩ := hx
  have hlen : L.length = l.length + (tagL t.toNat).length + hd.length + (v.length + ck.length) + tl.length := by rw [hL]; simp only [List.length_append]
  have hT : (tagL t.toNat).length ≤ 2 := by unfold tagL; split <;> simp
  refine ⟨hst, hh, df.app (.cons t v kk .nil), by rw [F.app_assoc]; exact d1, fun h => ?_, ?_, ?_⟩
  · have h1 : LooseOf false (.cons t v kk .nil) (tagL t.toNat ++ (hd ++ (v ++ ck ++ (tl ++ [])))) := ⟨ck, [], hd, tl, hck (by omega), rfl, hok (by omega), rfl⟩
    have h2 := LooseOf.app h1 (d2 (by omega))
    rw [hL]
    simp only [List.append_assoc, List.append_nil] at h2 ⊢
    exact h2
  · rw [F.size_app]; simp only [F.size]; omega
  · rw [F.size_app]; simp only [F.size] at d4 ⊢; omega
theorem append_con {P : Program} {w : World} {ops : Array Oper} {rest : List Oper} {o : Oper} {a : Act} {Q : Exit → Act → World → Prop} (hgd : o.guard = none) (s x : Operand) (t : TypeId)
    (ho : o.op = .call { callee := .builtin .append, args := #[s, x], argTypes := #[t, t] })
    (base : Nat) (e : TypeId) (i : TypeInfo) (z : Value) (ht : P.underlying t = some (.slice e)) (hi : P.info? e = some i) (hz : i.zero = some z)
    (hsize : i.size = 1) (hby : i.bytes = 1) (hzs : z.cells.size = 1)
    (v : Value) (n : Nat) (xs : List Value) (hs : a.eval s = v) (hown : w.ownsRow base e 1 v n xs)
    (A : Option Addr) (c : Nat) (cb : List UInt8) (hx : a.eval x = .slice A cb.length c) (hn : A = none → c = 0) (hcc : A = none → cb = []) (hc : ∀ ad, A = some ad → ∀ j u, (Us cb)[j]? = some u → w.cell? (ad.add j) = some u)
    (h63 : n + cb.length ≤ maxLen) (hbytes : n + cb.length ≤ 140737488355328) (hbase : base ≤ w.heap.size)
    (h : ∀ v' w', w'.ownsRow base e 1 v' (n + cb.length) (xs ++ Us cb) → w.grownBy w' v.ownBlock → wpList P ops Q rest (a.put o.dst v') w') : wpList P ops Q (o :: rest) a w := by
  cases A with
  | none =>
    have h1 := hcc rfl
    have h2 := hn rfl
    subst h1 h2
    exact wpList_append_own_none hgd s x t ho base e i 1 ht hi v n xs hs hown hx (h v w (by simpa [Us] using hown) (World.grownBy.refl _ _))
  | some ad =>
    exact wpList_append_own w hgd s x t ho base e i z 1 1 ht hi hz hsize hby hzs (by decide) v n xs hs hown ad cb.length c (Us cb) hx (by rw [Us_length]; omega) (hc ad rfl) (Us_one _) h63 (by omega) hbase fun v' w' h1 h2 _ => h v' w' h1 h2
end Go.Proofs.YtkgfdbbdmchmeaaDoor
namespace Go.Proofs.YtkgfdbbdmchmeaaDoor
open Go.RowKit
set_option linter.unusedVariables false
def Blk (w : World) (g cap : Nat) (l : List UInt8) : Prop := ∃ cur : Array Value, w.heap[g]? = some (.cells cur 5 (0, 0)) ∧ cur.size = cap ∧ l.length ≤ cap ∧ cur.toList.take l.length = Us l
theorem Blk.lt {w : World} {g cap : Nat} {l : List UInt8} (h : Blk w g cap l) : g < w.heap.size := by
  obtain ⟨cur, h1, _⟩ := h
  exact lt_of_block h1
theorem Blk.cell {w : World} {g cap : Nat} {l : List UInt8} (h : Blk w g cap l) {k : Nat} (hk : k < l.length) : w.cell? ⟨g, k, none⟩ = some (U l[k]) := by
  obtain ⟨cur, h1, h2, h3, h4⟩ := h
  rw [cell_of_row w g k cur _ (0, 0) h1, ← Array.getElem?_toList]
  have := congrArg (·[k]?) h4
  simp only [List.getElem?_take, if_pos hk] at this
  rw [this]
  simp [Us, hk]
theorem Blk.frozen {w : World} {g cap : Nat} {l : List UInt8} (h : Blk w g cap l) (k : Nat) : w.frozen? ⟨g, k, none⟩ = false := by
  obtain ⟨cur, h1, _⟩ := h
  exact frozen_of_row w g k cur _ h1
theorem Blk.set {w : World} {g cap : Nat} {l : List UInt8} (h : Blk w g cap l) (k : Nat) (x : UInt8) : Blk (w.setCell ⟨g, k, none⟩ (U x)) g cap (l.set k x) := by
  obtain ⟨cur, h1, h2, h3, h4⟩ := h
  refine ⟨_, block_set (i := k) h1 (U x), by simpa using h2, by simpa using h3, ?_⟩
  rw [List.length_set, Array.toList_setIfInBounds, List.take_set, h4]
  simp [Us, List.map_set]
theorem Blk.sees {w w2 : World} {g cap : Nat} {l : List UInt8} (h : Blk w2 g cap l) (hg : w.heap.size ≤ g) : SeesP w2 (newB w w2) (some ⟨g, 0, none⟩) (Us l) := by
  refine .inr ⟨g, 0, rfl, ⟨hg, h.lt⟩, fun i hi => ?_⟩
  rw [Us_length] at hi
  rw [Nat.zero_add, h.cell hi]
  simp [Us, hi]
end Go.Proofs.YtkgfdbbdmchmeaaDoor
namespace Go.Proofs.YtkgfdbbdmchmeaaDoor
open Go.RowKit
set_option maxRecDepth 8000
theorem info_u8 : (Tryd.prog.info? 5).map (fun i => (i.zero, i.size, i.bytes)) = some (some (.int .u8 0), 1, 1) := by kernel_rfl
def octAt (n s i : Nat) : UInt8 := UInt8.ofNat (n / 256 ^ (s - 1 - i))
def octL (n s : Nat) : List UInt8 := (List.range s).map (octAt n s)
theorem octL_length (n s : Nat) : (octL n s).length = s := by simp [octL]
def octTo (n s k : Nat) : List UInt8 := fillP (octAt n s) s (fun i => decide (s ≤ i + k))
theorem octTo_zero (n s : Nat) : octTo n s 0 = List.replicate s 0 := by
  apply List.ext_getElem
  · simp [octTo, fillP]
  · intro i h1 h2
    have : i < s := by simpa [octTo, fillP] using h1
    simp [octTo, fillP]; omega
theorem octTo_all (n s : Nat) : octTo n s s = octL n s := fillP_all fun i _ => by simp
theorem octTo_set {n s k : Nat} (hk : k < s) : (octTo n s k).set (s - 1 - k) (octAt n s (s - 1 - k)) = octTo n s (k + 1) := by
  refine fillP_set (by simp; omega) fun i hi => ?_
  have : (s ≤ i + (k + 1)) = (s ≤ i + k) := by apply propext; omega
  simp [this]
theorem oct_val {n s k : Nat} (hk : k < s) : Value.int .u8 (IntKind.u8.wrap ((n : Int) / 2 ^ (8 * k))) = U (octAt n s (s - 1 - k)) := by
  have e : ((n : Int) / 2 ^ (8 * k)) = ((n / 256 ^ k : Nat) : Int) := by
    rw [show (256 : Nat) = 2 ^ 8 from rfl, ← Nat.pow_mul]; simp
  rw [e, IntKind.wrap_u8']
  simp only [U, octAt]
  rw [show s - 1 - (s - 1 - k) = k from by omega]
  simp
def OctRel (B g : Nat) (n s k : Nat) (w wr : World) : Prop :=
  wr.ownsRow B 5 1 (.slice (some ⟨g, 0, none⟩) s s) s (Us (octTo n s k)) ∧ Below B w wr ∧ B ≤ g
theorem OctRel.cell {B g n s k j : Nat} {w wr : World} (h : OctRel B g n s k w wr) (hj : j < s) : ∃ u, wr.cell? ⟨g, j, none⟩ = some u := by
  have h1 := h.1.cellAt j (by omega)
  have hl : j < (Us (octTo n s k)).length := by rw [Us_length, octTo, fillP_length]; exact hj
  rw [List.getElem?_eq_getElem hl] at h1
  exact ⟨_, h1⟩
theorem OctRel.step {B g n s k : Nat} {w wr : World} (h : OctRel B g n s k w wr) (hk : k < s) :
    OctRel B g n s (k + 1) w (wr.setCell ⟨g, s - 1 - k, none⟩ (.int .u8 (IntKind.u8.wrap ((n : Int) / 2 ^ (8 * k))))) := by
  rw [oct_val hk]
  refine ⟨?_, (h.2.1.setCell (p := ⟨g, s - 1 - k, none⟩) h.2.2 _), h.2.2⟩
  have h1 := (h.1.stored (s - 1 - k) (U (octAt n s (s - 1 - k)))).1
  rw [Us_set, octTo_set hk] at h1
  exact h1
theorem OctRel.done {B g n s k : Nat} {w wr : World} (h : OctRel B g n s k w wr) (hB : B = w.heap.size) (hk : k = s) :
    Gives w (octL n s) 0 (.returned (.tuple #[.slice (some ⟨g, 0, none⟩) s s, .int .i64 0])) wr := by
  subst hB hk
  refine ⟨_, k, by rw [octL_length], ?_, h.2.1⟩
  have h1 := h.1
  rw [octTo_all] at h1
  exact Sees.of_own h1
set_option maxHeartbeats 400000 in
theorem oct_oct_yes (n : Nat) (s : Nat) (hs : s ≤ 7) (hn : n < 256 ^ s) (w : World) :
    Calls Tryd.prog 48 #[.int .i64 (n : Int), .int .i64 (s : Int)] w (Gives w (octL n s) 0) := by
  obtain ⟨i0, hi, hz0, hz1, hz2⟩ := info_parts info_u8
  have hb : n < 72057594037927936 := Nat.lt_of_lt_of_le hn (Nat.le_trans (Nat.pow_le_pow_right (by decide) hs) (by decide))
  have d1 : decide ((s : Int) < 0) = false := by simp
  have d2 : decide ((7 : Int) < (s : Int)) = false := by simp; omega
  have d3 : decide ((n : Int) < 0) = false := by simp
  have d4 : ((n : Int) / 2 ^ (8 * s) != 0) = false := by
    have e : ((n : Int) / 2 ^ (8 * s)) = ((n / 256 ^ s : Nat) : Int) := by
      rw [show (256 : Nat) = 2 ^ 8 from rfl, ← Nat.pow_mul]; simp
    rw [e, Nat.div_eq_of_lt hn]; rfl
  clear hn
  go_enter Tryd.func48, Tryd.ntmps48
  go_wp2_with (at_make; refine wpList_make_full _ rfl _ _ 35 rfl w.heap.size 5 i0 (.int .u8 0) 1 Tryd.underlying35 hi hz0 hz1 _ _ _ _ s rfl rfl (by simp) (by simp) (by rw [hz2]; omega) (by unfold maxLen; omega) (Nat.le_refl _) ?_; intro w1 hown hgrow)
  have hR : OctRel w.heap.size w.heap.size n s 0 w w1 := by
    refine ⟨?_, (Below.refl _ _).grown hgrow (Nat.le_refl _) (by simp), Nat.le_refl _⟩
    rw [octTo_zero, Us_zeros]
    simpa [Value.cells, toList_madeCells_one] using hown
  clear hown hgrow d1 d2 d3 d4
  go_wp2
  go_loopw [26] (fun i wr => ∃ k : Nat, k ≤ s ∧ i = .int .i64 k ∧ OctRel w.heap.size w.heap.size n s k w wr) (fun i _ => s - (intOf i).toNat)
  case atStart => exact ⟨0, Nat.zero_le _, rfl, hR⟩
  case round =>
    clear hR
    obtain ⟨k, hk, rfl, hR⟩ := hrel
    by_cases hlt : k < s
    · obtain ⟨old, g3⟩ := hR.cell (j := s - 1 - k) (by omega)
      have g4 := hR.1.frozenAt (s - 1 - k)
      go_wp2
      go_roundw
      case rel => exact ⟨k + 1, by omega, by go_num, hR.step hlt⟩
      case measure => simp [intOf]; omega
    · have hd := hR.done rfl (by omega)
      have HD := Lib.hid hd
      clear hd hR
      go_wp2
      go_ret2
      exact HD.out
end Go.Proofs.YtkgfdbbdmchmeaaDoor
