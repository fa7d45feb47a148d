/-
  What is proved here: the makers' Light and Roll: how long a list is; dice of their own over a list that came in.
-/
import Derived.Test.YtmkggpgpiepjfaaDoorRows
import Derived.Test.YtmkggpgpiepjfaaDoorZG1
import Derived.Test.YtmkggpgpiepjfaaDoorZG5
import Derived.Test.YtmkggpgpiepjfaaDoorZG9
import Derived.Deep.RegionLaw
import Derived.Deep.RegionWith
namespace Go.Proofs.YtmkggpgpiepjfaaDoor
open Go.RowKit
set_option linter.unusedVariables false
theorem made_light (A : Option Addr) (n c : Nat) (w : World) (hn : n ≤ 140737488351232) :
    Calls Tryd.prog 17 #[.slice A n c] w fun e w' => e = .returned (.bool (decide (n ≤ 400))) ∧ w' = w := by
  by_cases h : n ≤ 400
  · have d : decide ((n : Int) ≤ 400) = true := by simp; omega
    rw [decide_eq_true h]
    clear h
    go_enter Tryd.func17, Tryd.ntmps17
    go_wp2
    go_ret
    exact ⟨rfl, rfl⟩
  · have d : decide ((n : Int) ≤ 400) = false := by simp; omega
    rw [decide_eq_false h]
    clear h
    go_enter Tryd.func17, Tryd.ntmps17
    go_wp2
    go_ret
    exact ⟨rfl, rfl⟩
theorem made_roll (A : Option Addr) (c : Nat) (ls : List Int) (w : World) (hl : ls.length ≤ 140737488351232) (hr : ∀ x ∈ ls, -9223372036854775808 ≤ x ∧ x ≤ 9223372036854775807) (hs : SeesP w (· < w.heap.size) A (ls.map (Value.int .i64))) :
    Calls Tryd.prog 18 #[.slice A ls.length c] w fun e w' => e = .returned (.pointer (some ⟨w.heap.size, 0, none⟩)) ∧ DiceOk w' w.heap.size ∧ Below w.heap.size w w' := by
  have hd : DiceOk (w.alloc (.cells #[.slice A ls.length c, .int .i64 0] 66)) w.heap.size :=
    ⟨A, c, 0, ls, heap_alloc_new w _, Nat.zero_le _, hl, hr, hs.keep fun q hq => World.cell?_alloc_lt w _ q hq⟩
  have HD := Lib.hid hd
  clear hd hs hr
  go_enter Tryd.func18, Tryd.ntmps18
  go_wp2
  go_ret
  exact ⟨rfl, HD.out, (Below.refl _ _).alloc (Nat.le_refl _) _⟩
def Blk (w : World) (g cap : Nat) (l : List UInt8) : Prop := ∃ cur : Array Value, w.heap[g]? = some (.cells cur 5 (0, 0)) ∧ cur.size = cap ∧ l.length ≤ cap ∧ cur.toList.take l.length = Us l
theorem Blk.lt {w : World} {g cap : Nat} {l : List UInt8} (h : Blk w g cap l) : g < w.heap.size := by
  obtain ⟨cur, h1, _⟩ := h
  exact lt_of_block h1
theorem Blk.far {w w2 : World} {g cap D : Nat} {l : List UInt8} (h : Blk w g cap l) (hg : w.grownBy w2 (some D)) (hne : g ≠ D) : Blk w2 g cap l := by
  obtain ⟨cur, h1, h2⟩ := h
  exact ⟨cur, (hg.block g (lt_of_block h1) (by intro e; injection e with e; exact hne e)).trans h1, h2⟩
theorem Blk.cell {w : World} {g cap : Nat} {l : List UInt8} (h : Blk w g cap l) {k : Nat} (hk : k < l.length) : w.cell? ⟨g, k, none⟩ = some (U l[k]) := by
  obtain ⟨cur, h1, h2, h3, h4⟩ := h
  rw [cell_of_row w g k cur _ (0, 0) h1, ← Array.getElem?_toList]
  have := congrArg (·[k]?) h4
  simp only [List.getElem?_take, if_pos hk] at this
  rw [this]
  simp [Us, hk]
theorem Blk.frozen {w : World} {g cap : Nat} {l : List UInt8} (h : Blk w g cap l) (k : Nat) : w.frozen? ⟨g, k, none⟩ = false := by
  obtain ⟨cur, h1, _⟩ := h
  exact frozen_of_row w g k cur _ h1
theorem Blk.set {w : World} {g cap : Nat} {l : List UInt8} (h : Blk w g cap l) (k : Nat) (x : UInt8) : Blk (w.setCell ⟨g, k, none⟩ (U x)) g cap (l.set k x) := by
  obtain ⟨cur, h1, h2, h3, h4⟩ := h
  refine ⟨_, block_set (i := k) h1 (U x), by simpa using h2, by simpa using h3, ?_⟩
  rw [List.length_set, Array.toList_setIfInBounds, List.take_set, h4]
  simp [Us, List.map_set]
theorem Blk.sees {w w2 : World} {g cap : Nat} {l : List UInt8} (h : Blk w2 g cap l) (hg : w.heap.size ≤ g) : SeesP w2 (newB w w2) (some ⟨g, 0, none⟩) (Us l) := by
  refine .inr ⟨g, 0, rfl, ⟨hg, h.lt⟩, fun i hi => ?_⟩
  rw [Us_length] at hi
  rw [Nat.zero_add, h.cell hi]
  simp [Us, hi]
theorem grown_set {w : World} {g : Nat} (k : Nat) (u : Value) : w.grownBy (w.setCell ⟨g, k, none⟩ u) (some g) :=
  ⟨rfl, rfl, rfl, Nat.le_of_eq (by simp), fun j _ hj => Below.heap_setCell w _ _ j (by simpa using fun e => hj (by rw [e]))⟩
def SplIs (w : World) (D n : Nat) (e : Ending) (w' : World) : Prop := ∃ (l : List UInt8) (A : Option Addr) (c : Nat), e = .returned (.slice A l.length c) ∧ l.length ≤ c ∧ l.length ≤ n + 1 ∧ SeesP w' (newB w w') A (Us l) ∧ w.grownBy w' (some D) ∧ DiceOk w' D
theorem own_slice {w : World} {base n : Nat} {e : TypeId} {v : Value} {xs : List Value} (h : w.ownsRow base e 1 v n xs) : ∃ A c, v = .slice A n c := by
  rcases h.2 with ⟨e, h0⟩ | ⟨g3, cap, cur, e, hb, hh, hn, hmx, hs, ht⟩
  · exact ⟨none, 0, by rw [e, h0]⟩
  · exact ⟨_, _, e⟩
theorem own_blk {w : World} {base : Nat} {v : Value} {l : List UInt8} (h : w.ownsRow base 5 1 v l.length (Us l)) (h0 : 0 < l.length) : ∃ g cap, v = .slice (some ⟨g, 0, none⟩) l.length cap ∧ base ≤ g ∧ Blk w g cap l ∧ cap ≤ 9223372036854775807 := by
  rcases h.2 with ⟨e, h0⟩ | ⟨g3, cap, cur, e, hb, hh, hn, hmx, hs, ht⟩
  · omega
  · rw [Nat.mul_one] at hs ht
    exact ⟨g3, cap, e, hb, ⟨cur, hh, hs, hn, ht⟩, hmx⟩
theorem byte_U {x : Nat} (h : x < 256) : Value.int .u8 (x : Int) = U (UInt8.ofNat x) := by
  unfold U
  congr 1
  rw [UInt8.toNat_ofNat']
  omega
theorem byte_bits (op : BinOp) (a b : Int) : ∃ y : UInt8, Value.int .u8 (bits op .u8 a b) = U y := by
  have h1 : 0 ≤ bits op .u8 a b := (bits_within op .u8 a b).1
  have h2 : bits op .u8 a b ≤ 255 := (bits_within op .u8 a b).2
  obtain ⟨n, hn⟩ := Int.eq_ofNat_of_zero_le h1
  rw [hn] at h2 ⊢
  exact ⟨_, byte_U (by omega)⟩
theorem spl_of {w wX w2 : World} {D g cap n : Nat} {l : List UInt8} (hDw : D < w.heap.size) (hgw : w.heap.size ≤ g) (h1 : w.grownBy wX (some D)) (h2 : DiceOk wX D) (h3 : wX.grownBy w2 (some g)) (hb : Blk w2 g cap l) (hl : l.length ≤ n + 1) : SplIs w D n (.returned (.slice (some ⟨g, 0, none⟩) l.length cap)) w2 := by
  obtain ⟨cur, e1, e2, e3, e4⟩ := hb
  exact ⟨l, _, cap, rfl, e3, hl, Blk.sees ⟨cur, e1, e2, e3, e4⟩ hgw, grown_row h1 h3 (fun k e => by injection e with e; omega), h2.grown h3 (fun k e => by injection e with e; omega)⟩
theorem grown_setCells {g : Nat} : ∀ (vs : List Value) (o : Nat) (w : World), w.grownBy (w.setCells g o vs) (some g)
  | [], _, _ => World.grownBy.refl _ _
  | v :: r, o, w => grown_trans (grown_set o v) (grown_setCells r (o + 1) _)
theorem spl_del {w wX : World} {D g cap k : Nat} {b ns : List UInt8} (hDw : D < w.heap.size) (hgw : w.heap.size ≤ g) (h1 : w.grownBy wX (some D)) (h2 : DiceOk wX D) (hb : Blk wX g cap b) (hk : k < b.length) (hns : ns = b.drop (k + 1)) :
    SplIs w D b.length (.returned (.slice (some ⟨g, 0, none⟩) (k + (b.length - (k + 1))) cap)) (wX.drew.setCells g k (Us ns)) := by
  have hg : wX.grownBy (wX.drew.setCells g k (Us ns)) (some g) := by
    have h := grown_setCells (g := g) (Us ns) k wX.drew
    exact ⟨h.os, h.tape, h.output, h.size, h.block⟩
  have hbc : b.length ≤ cap := by obtain ⟨_, _, _, h, _⟩ := hb; exact h
  have hnl : ns.length = b.length - (k + 1) := by rw [hns, List.length_drop]
  have hl : (b.take k ++ ns).length = k + (b.length - (k + 1)) := by rw [List.length_append, List.length_take, hnl]; omega
  refine ⟨b.take k ++ ns, _, cap, by rw [hl], by omega, by omega, .inr ⟨g, 0, rfl, ⟨hgw, Nat.lt_of_lt_of_le hb.lt hg.size⟩, fun i hi => ?_⟩, grown_row h1 hg (fun k e => by injection e with e; omega), h2.grown hg (fun k e => by injection e with e; omega)⟩
  rw [Us_length, hl] at hi
  rw [Nat.zero_add]
  by_cases hik : i < k
  · rw [World.cell?_setCells_out g (Us ns) k wX.drew ⟨g, i, none⟩ (fun _ _ => .inl hik)]
    have hc := hb.cell (k := i) (by omega)
    refine Eq.trans (b := wX.cell? ⟨g, i, none⟩) rfl (hc.trans ?_)
    rw [Us_append, List.getElem?_append_left (by rw [Us_length, List.length_take]; omega)]
    simp [Us, hik, show i < b.length by omega]
  · obtain ⟨j, rfl⟩ : ∃ j, i = k + j := ⟨i - k, by omega⟩
    have hj : j < (Us ns).length := by rw [Us_length]; omega
    rw [World.cell?_setCells_in g (Us ns) k wX.drew (fun j hj => by
      rw [Us_length] at hj
      show (wX.cell? _).isSome = true
      rw [hb.cell (k := k + j) (by omega)]
      rfl) j hj]
    rw [Us_append, List.getElem?_append_right (by rw [Us_length, List.length_take]; omega), List.getElem?_eq_getElem (by rw [Us_length, List.length_take]; omega)]
    congr 2
    rw [Us_length, List.length_take]
    omega
set_option maxRecDepth 20000 in
set_option maxHeartbeats 2000000 in
theorem dice_spoil (D : Nat) (b : List UInt8) (A : Option Addr) (c : Nat) (w : World) (hb : b.length ≤ 1000000) (hn : A = none → c = 0) (hs : SeesP w (· < w.heap.size) A (Us b)) (hd : DiceOk w D) :
    Calls Tryd.prog 22 #[.pointer (some ⟨D, 0, none⟩), .slice A b.length c] w (SplIs w D b.length) := by
  obtain ⟨i0, hi, hz0, hz1, hz2⟩ := info_parts info_u8b
  have hDw := hd.lt
  have HD := Lib.hid hd
  have HN := Lib.hid (show A = none → b = [] from fun e => by rw [e] at hs; have := congrArg List.length hs.none_nil; rw [Us_length] at this; exact List.eq_nil_of_length_eq_zero this)
  have HS := Lib.hid (show (A = none → c = 0) ∧ ∀ ad, A = some ad → ∀ j u, (Us b)[j]? = some u → w.cell? (ad.add j) = some u from ⟨hn, hs.src⟩)
  clear hd hn hs
  by_cases hb0 : b.length = 0
  · have d0 : ((b.length : Int) == 0) = true := by rw [hb0]; rfl
    go_enter Tryd.func22, Tryd.ntmps22
    go_upto_if 11 with (at_builtin; refine append_con rfl (.const (.slice none 0 0)) (.tmp 7) 23 rfl w.heap.size 5 i0 (.int .u8 0) Tryd.underlying23 hi hz0 hz1 hz2 rfl (.slice none 0 0) 0 [] rfl (World.ownsRow_nil _ _ _ _) A c b rfl HS.out.1 HN.out HS.out.2 (by unfold maxLen; omega) (by omega) (Nat.le_refl _) ?_; intro v1 w1 ho1 hg1; rw [Nat.zero_add, List.nil_append] at ho1; have G1 := Lib.hid (show w.grownBy w1 (some D) ∧ DiceOk w1 D ∧ w1.ownsRow w.heap.size 5 1 v1 b.length (Us b) from ⟨grown_row (World.grownBy.refl _ _) hg1 (fun g e => by cases e), HD.out.grown hg1 (fun g e => by cases e), ho1⟩); obtain ⟨A1, c1, rfl⟩ := own_slice ho1; clear ho1 hg1)
    have HX := Lib.hid (dice_next D 256 w1 (by decide) (by decide) G1.out.2.1)
    clear hb0 HS HN HD
    go_wp2_with fail
    refine HX.out.mono ?_
    rintro e w2 ⟨x, hx, rfl, hg2, hd2⟩
    have HF := Lib.hid (show SplIs w D b.length (.returned (.slice (some ⟨w2.heap.size, 0, none⟩) 1 1)) (w2.alloc (.cells #[.int .u8 (x : Int)] 5)) from ⟨[UInt8.ofNat x], _, 1, rfl, Nat.le_refl _, by simp, by
      refine .inr ⟨_, 0, rfl, ⟨Nat.le_trans G1.out.1.size hg2.size, by simp⟩, fun i hi => ?_⟩
      have : i = 0 := by rw [Us_length] at hi; simpa using hi
      subst this
      rw [Nat.zero_add, cell_of_row _ w2.heap.size 0 _ _ (0, 0) (heap_alloc_new w2 _)]
      simp [Us, byte_U hx],
      grown_trans (grown_trans G1.out.1 hg2) (grown_alloc _ _ _), hd2.below ((Below.refl _ _).alloc (Nat.le_refl _) _)⟩)
    clear hg2 hd2 HX G1
    go_wp2_with fail
    go_ret
    exact HF.out
  · have d0 : ((b.length : Int) == 0) = false := beq_eq_false_iff_ne.mpr (by omega)
    go_enter Tryd.func22, Tryd.ntmps22
    go_upto_if 11 with (at_builtin; refine append_con rfl (.const (.slice none 0 0)) (.tmp 7) 23 rfl w.heap.size 5 i0 (.int .u8 0) Tryd.underlying23 hi hz0 hz1 hz2 rfl (.slice none 0 0) 0 [] rfl (World.ownsRow_nil _ _ _ _) A c b rfl HS.out.1 HN.out HS.out.2 (by unfold maxLen; omega) (by omega) (Nat.le_refl _) ?_; intro v1 w1 ho1 hg1; rw [Nat.zero_add, List.nil_append] at ho1; have G1 := Lib.hid (show w.grownBy w1 (some D) ∧ DiceOk w1 D ∧ w1.ownsRow w.heap.size 5 1 v1 b.length (Us b) from ⟨grown_row (World.grownBy.refl _ _) hg1 (fun g e => by cases e), HD.out.grown hg1 (fun g e => by cases e), ho1⟩); obtain ⟨g, cap, rfl, hgw, hblk, hcap⟩ := own_blk ho1 (by omega); have HB1 := Lib.hid hblk; clear hblk; clear ho1 hg1)
    have hgD : g ≠ D := by omega
    have HX := Lib.hid (dice_next D b.length w1 (by omega) (by omega) G1.out.2.1)
    clear HS HN HD
    go_wp2_with fail
    refine HX.out.mono ?_
    rintro e w2 ⟨k, hk, rfl, hg2, hd2⟩
    have G2 := Lib.hid (show w.grownBy w2 (some D) ∧ DiceOk w2 D ∧ Blk w2 g cap b ∧ w2.ownsRow w.heap.size 5 1 (.slice (some ⟨g, 0, none⟩) b.length cap) b.length (Us b) from ⟨grown_trans G1.out.1 hg2, hd2, HB1.out.far hg2 hgD, own_far G1.out.2.2 hg2 (by intro e; have e : some g = some D := e; injection e with e; exact hgD e)⟩)
    have HX := Lib.hid (dice_next D 4 w2 (by decide) (by decide) hd2)
    clear hg2 hd2 HB1 G1
    go_wp2_with fail
    refine HX.out.mono ?_
    rintro e w3 ⟨q, hq, rfl, hg3, hd3⟩
    have G3 := Lib.hid (show w.grownBy w3 (some D) ∧ DiceOk w3 D ∧ Blk w3 g cap b ∧ w3.ownsRow w.heap.size 5 1 (.slice (some ⟨g, 0, none⟩) b.length cap) b.length (Us b) from ⟨grown_trans G2.out.1 hg3, hd3, G2.out.2.2.1.far hg3 hgD, own_far G2.out.2.2.2 hg3 (by intro e; have e : some g = some D := e; injection e with e; exact hgD e)⟩)
    clear hg3 hd3 G2 HX
    have hbc : b.length ≤ cap := by obtain ⟨_, _, _, h, _⟩ := G3.out.2.2.1; exact h
    have hqs : q = 0 ∨ q = 1 ∨ q = 2 ∨ q = 3 := by omega
    rcases hqs with rfl | rfl | rfl | rfl
    · have HX := Lib.hid (dice_next D 256 w3 (by decide) (by decide) G3.out.2.1)
      go_wp2_with fail
      refine HX.out.mono ?_
      rintro e w4 ⟨x, hx, rfl, hg4, hd4⟩
      have HB4 := Lib.hid (G3.out.2.2.1.far hg4 hgD)
      have c4 := HB4.out.cell hk
      have f4 := HB4.out.frozen k
      have HF := Lib.hid (spl_of hDw hgw (grown_trans G3.out.1 hg4) hd4 (grown_set k (U (UInt8.ofNat x))) (HB4.out.set k (UInt8.ofNat x)) (n := b.length) (by simp))
      rw [List.length_set, ← byte_U hx] at HF
      clear hg4 hd4 HB4 HX G3
      go_wp2_with fail
      go_ret
      exact HF.out
    · have HX := Lib.hid (fun u (h : DiceOk u D) => dice_next D 8 u (by decide) (by decide) h)
      have c3 : w3.cell? ⟨g, k, none⟩ = some (.int .u8 (b[k].toNat : Int)) := G3.out.2.2.1.cell hk
      go_wp2_with fail
      go_region_with (go_at_call 40; refine (HX.out w3.drew (G3.out.2.1.keep fun _ _ => rfl)).mono ?_; rintro e w4 ⟨x, hx, rfl, hg4, hd4⟩; have HG4 := Lib.hid (show w3.grownBy w4 (some D) ∧ DiceOk w4 D from ⟨⟨hg4.os, hg4.tape, hg4.output, hg4.size, hg4.block⟩, hd4⟩); have HB4 := Lib.hid (G3.out.2.2.1.far HG4.out.1 hgD); have c4 : w4.cell? ⟨g, k, none⟩ = some (.int .u8 (b[k].toNat : Int)) := HB4.out.cell hk; have f4 := HB4.out.frozen k; clear hg4 hd4)
      all_goals
        obtain ⟨y, hy⟩ := byte_bits .xor (b[k].toNat : Int) (IntKind.u8.wrap (2 ^ min (IntKind.u64.wrap (x : Int)).toNat 8))
        rw [hy]
        have HF := Lib.hid (spl_of hDw hgw (grown_trans G3.out.1 HG4.out.1) HG4.out.2 (grown_set k (U y)) (HB4.out.set k y) (n := b.length) (by simp))
        rw [List.length_set] at HF
        clear HG4 HB4 HX G3 hy
        go_wp2_with fail
        go_ret
        exact HF.out
    · obtain ⟨ns, hns⟩ : ∃ ns, ns = b.drop (k + 1) := ⟨_, rfl⟩
      have hnl : ns.length = b.length - (k + 1) := by rw [hns, List.length_drop]
      obtain ⟨A2, hA2, hnews⟩ : ∃ A2 : Addr, (if cap = k + 1 then some (⟨g, 0, none⟩ : Addr) else some ⟨g, k + 1, none⟩) = some A2 ∧ Hid (∀ j u, (Us ns)[j]? = some u → w3.drew.cell? (A2.add j) = some u) := by
        by_cases h : cap = k + 1
        · refine ⟨⟨g, 0, none⟩, by simp [h], fun j u hu => ?_⟩
          have h0 : ns = [] := List.eq_nil_of_length_eq_zero (by omega)
          rw [h0] at hu
          simp [Us] at hu
        · refine ⟨⟨g, k + 1, none⟩, by simp [h], fun j u hu => ?_⟩
          have hj : j < ns.length := by
            have := (List.getElem?_eq_some_iff.1 hu).1
            rwa [Us_length] at this
          rw [Addr.add_lit]
          have hc := G3.out.2.2.1.cell (k := k + 1 + j) (by omega)
          refine Eq.trans (b := w3.cell? ⟨g, k + 1 + j, none⟩) rfl (hc.trans ?_)
          rw [← hu]
          have e : ∀ m, m = b.drop (k + 1) → (Us m)[j]? = some (U (b[k + 1 + j]'(by omega))) := by
            rintro m rfl
            simp [Us, List.getElem?_drop, show k + 1 + j < b.length by omega]
          exact (e ns hns).symm
      have HNL := Lib.hid (show (Us ns).length = (b.length - (k + 1)) * 1 from by rw [Us_length, hnl, Nat.mul_one])
      have s3 : Hid (∀ j, j < (Us ns).length → (w3.drew.cell? ⟨g, 0 + k * 1 + j, none⟩).isSome = true ∧ w3.drew.frozen? ⟨g, 0 + k * 1 + j, none⟩ = false) := by
        intro j hj
        rw [Us_length] at hj
        rw [Nat.mul_one, Nat.zero_add]
        exact ⟨by show (w3.cell? _).isSome = true; rw [G3.out.2.2.1.cell (k := k + j) (by omega)]; rfl, G3.out.2.2.1.frozen _⟩
      have hwr : IntKind.i64.wrap ((k : Int) + 1) = (k : Int) + 1 := by rw [IntKind.wrap_i64]; omega
      have hp0 : (0 : Int) ≤ (k : Int) + 1 := by omega
      have hp1 : (k : Int) + 1 ≤ (b.length : Int) := by omega
      have hp2 : ((k : Int) + 1).toNat = k + 1 := by omega
      have hkc : k ≤ cap := by omega
      have HF := Lib.hid (spl_del hDw hgw G3.out.1 G3.out.2.1 G3.out.2.2.1 hk hns)
      clear hns
      go_wp2_with fail
      go_region_law (refine step_append_room rfl (.tmp 52) (.tmp 56) 23 rfl 5 i0 1 Tryd.underlying23 hi hz1 g 0 k cap (by simp [Act.eval, Act.put]) A2 (b.length - (k + 1)) (cap - (k + 1)) (Us ns) (by simp [Act.eval, Act.put]) HNL.out hnews.out (Us_one _) (by omega) s3.out ?_)
      go_wp2_with fail
      go_ret
      exact HF.out
    · have HX := Lib.hid (dice_next D 256 w3 (by decide) (by decide) G3.out.2.1)
      go_wp2_with fail
      refine HX.out.mono ?_
      rintro e w4 ⟨x, hx, rfl, hg4, hd4⟩
      have G4 := Lib.hid (show w.grownBy w4 (some D) ∧ DiceOk w4 D from ⟨grown_trans G3.out.1 hg4, hd4⟩)
      have hown : w4.ownsRow w.heap.size 5 1 (.slice (some ⟨g, 0, none⟩) b.length cap) b.length (Us b) := own_far G3.out.2.2.2 hg4 (by intro e; have e : some g = some D := e; injection e with e; exact hgD e)
      have hsz4 := G4.out.1.size
      clear hg4 hd4 HX G3
      go_wp2_with (at_builtin; refine wpList_append_lies _ rfl (.tmp 22) (.tmp 26) 23 rfl w.heap.size 5 i0 (.int .u8 0) 1 1 Tryd.underlying23 hi hz0 hz1 hz2 rfl (by decide) (.slice (some ⟨g, 0, none⟩) b.length cap) b.length _ rfl (hown.alloc _) ⟨_, 0, none⟩ 1 1 _ rfl rfl (World.news_of_block (heap_alloc_new _ _)) (u8s_cells (h00 hx)) (by decide) (by unfold maxLen; omega) (by omega) (by simp; omega) _ rfl ?_; intro g5 cap5 w5 ho hg5 hl5 _)
      have HF : SplIs w D b.length (.returned (.slice (some ⟨g5, 0, none⟩) (b.length + 1) cap5)) w5 := by
        have ho2 : w5.ownsRow w.heap.size 5 1 (.slice (some ⟨g5, 0, none⟩) (b.length + 1) cap5) (b ++ [UInt8.ofNat x]).length (Us (b ++ [UInt8.ofNat x])) := by
          rw [List.length_append, Us_append]
          have he : [Value.int .u8 (x : Int)] = Us [UInt8.ofNat x] := h00 hx
          rw [← he]
          exact ho
        obtain ⟨g6, cap6, e6, hg6, ⟨cur, e1, e2, e3, e4⟩, _⟩ := own_blk ho2 (by simp)
        injection e6 with e6 _ e7
        injection e6 with e6
        injection e6 with e6
        subst e6 e7
        have hgr : ∀ k, (Value.slice (some ⟨g, 0, none⟩) b.length cap).ownBlock = some k → w.heap.size ≤ k := fun k e => by
          have e : some g = some k := e
          injection e with e
          omega
        have hga := grown_trans G4.out.1 (grown_alloc w4 (.cells #[.int .u8 (x : Int)] 5) (some D))
        refine ⟨b ++ [UInt8.ofNat x], _, cap5, by rw [List.length_append]; rfl, e3, by simp, Blk.sees ⟨cur, e1, e2, e3, e4⟩ hg6, grown_row hga hg5 hgr, ?_⟩
        exact (G4.out.2.below ((Below.refl _ _).alloc (Nat.le_refl _) _)).grown hg5 (fun k e => by have := hgr k e; omega)
      have HF := Lib.hid HF
      clear ho hg5 hl5 hown
      go_wp2_with fail
      go_ret
      exact HF.out
end Go.Proofs.YtmkggpgpiepjfaaDoor
