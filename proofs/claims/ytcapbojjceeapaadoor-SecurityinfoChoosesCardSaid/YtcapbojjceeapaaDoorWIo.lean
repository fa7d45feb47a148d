/-
  What is proved here: the program's table of identifiers and the identifier of a protocol; the numbers of an info and their places.
-/
import Derived.Test.YtcapbojjceeapaaDoorWIr
namespace Go.Proofs.YtcapbojjceeapaaDoor
open Go.RowKit
set_option maxRecDepth 8000
set_option linter.unusedVariables false
set_option linter.unusedSimpArgs false
def tabI : List UInt8 := idL 2 ++ (idL 3 ++ (idL 4 ++ (idL 5 ++ idL 6)))
def TabX (w : World) : Prop := 0 < w.heap.size ∧ ∀ k : Nat, k < 45 → w.cell? ⟨0, k, none⟩ = (Us tabI)[k]?
theorem TabX.on {w w' : World} (h : TabX w) (hb : Below w.heap.size w w') : TabX w' := by
  refine ⟨Nat.lt_of_lt_of_le h.1 hb.size, fun k hk => ?_⟩
  rw [hb.cell (p := ⟨0, k, none⟩) h.1]
  exact h.2 k hk
theorem TabX.row {w : World} (h : TabX w) : w.rangeAt 0 0 (Us tabI) := fun j v hv => by
  have hj := (List.getElem?_eq_some_iff.1 hv).1
  have hj : j < 45 := by simpa [Us_length, tabI, idL_len] using hj
  rw [Nat.zero_add, h.2 j hj, hv]
theorem TabX.range {w : World} (h : TabX w) (p : Int) (q : Nat) (hp : p = (q : Int) + 2) (hq : q < 5) : w.rangeAt 0 (q * 9) (Us (idL p)) := by
  intro j v hv
  have hj0 := (List.getElem?_eq_some_iff.1 hv).1
  have hj9 : j < 9 := by simpa [Us_length, idL_len] using hj0
  rw [h.2 _ (by omega), ← hv]
  subst hp
  have e : ∀ j, j < 9 → (Us tabI)[q * 9 + j]? = (Us (idL ((q : Int) + 2)))[j]? := by
    obtain rfl | rfl | rfl | rfl | rfl : q = 0 ∨ q = 1 ∨ q = 2 ∨ q = 3 ∨ q = 4 := by omega
    all_goals
      intro j hj
      obtain rfl | rfl | rfl | rfl | rfl | rfl | rfl | rfl | rfl : j = 0 ∨ j = 1 ∨ j = 2 ∨ j = 3 ∨ j = 4 ∨ j = 5 ∨ j = 6 ∨ j = 7 ∨ j = 8 := by omega
      all_goals kernel_rfl
  exact e j hj9
def zer9 : List Value := Us (List.replicate 9 0)
theorem info_9 : (Tryd.prog.info? 111).map (·.zero) = some (some (.agg zer9.toArray)) := by kernel_rfl
theorem size_9 : (Tryd.prog.info? 111).map (·.size) = some 9 := by kernel_rfl
theorem idU_len (p : Int) : (Us (idL p)).length = 9 := by rw [Us_length, idL_len]
theorem p_ident (p : Int) (h2 : 2 ≤ p) (h6 : p ≤ 6) (w : World) (ht : TabX w) : Calls Tryd.prog 73 #[.int .i64 p] w fun e w' => ∃ g, e = .returned (.slice (some ⟨g, 0, none⟩) 9 9) ∧ newB w w' g ∧ RowV w' g (Us (idL p)) ∧ Below w.heap.size w w' := by
  have HT := Lib.hid fun q hp hq => ht.range p q hp hq
  obtain ⟨us, hus⟩ : ∃ us, Us (idL p) = us := ⟨_, rfl⟩
  have hu9 : us.length = 9 := by rw [← hus]; exact idU_len p
  have hu1 : ∀ u ∈ us, u.oneCell' = true := by rw [← hus]; exact Us_one _
  rw [hus] at HT ⊢
  have HB := Lib.hid (Below.refl w.heap.size w)
  have HU := Lib.hid (show _ ∧ _ from ⟨hu9, hu1⟩)
  clear hus hu9 hu1 ht
  have hp : p = 2 ∨ p = 3 ∨ p = 4 ∨ p = 5 ∨ p = 6 := by omega
  clear h2 h6
  rcases hp with rfl | rfl | rfl | rfl | rfl
  · have HR : Hid (w.rangeAt 0 0 us) := Lib.hid (HT.out 0 rfl (by decide))
    clear HT
    go_enter Tryd.func73, Tryd.ntmps73
    go_wp2_with (first
      | ((with_reducible refine at_load_ (d := 7) ?_); refine wpList_load_mid rfl 111 (.tmp 6) rfl 0 0 rfl us _ HR.out Tryd.underlying111 rfl (by rw [HU.out.1]; exact size_9) ?_)
      | ((with_reducible refine at_alloc_ (d := 3) ?_); refine wpList_alloc_v (op := ⟨some 3, _, _, _, _, _⟩) rfl 111 rfl zer9 info_9 ?_; intro g4 w4 hf hr; have HG := Lib.hid (show _ ∧ _ ∧ _ from ⟨hf.bl HB.out, hr, hf.ge HB.out⟩); clear hf hr)
      | ((with_reducible refine at_store_ (i := 3) ?_); refine wpList_store_v rfl 111 (.tmp 3) (.tmp 7) rfl g4 zer9 us rfl rfl HG.out.2.1 (by rw [HU.out.1]; rfl) HU.out.2 (by rw [HU.out.1]; exact size_9) ?_; intro w5 hw hr; have HG5 := Lib.hid (show _ ∧ _ ∧ _ from ⟨Wr.bl HG.out.1 hw HG.out.2.2, hr, hr.lt⟩); clear hw hr))
    go_ret
    exact ⟨g4, rfl, ⟨HG.out.2.2, HG5.out.2.2⟩, HG5.out.2.1, HG5.out.1⟩
  · have HR : Hid (w.rangeAt 0 9 us) := Lib.hid (HT.out 1 rfl (by decide))
    clear HT
    go_enter Tryd.func73, Tryd.ntmps73
    go_wp2_with (first
      | ((with_reducible refine at_load_ (d := 7) ?_); refine wpList_load_mid rfl 111 (.tmp 6) rfl 0 9 rfl us _ HR.out Tryd.underlying111 rfl (by rw [HU.out.1]; exact size_9) ?_)
      | ((with_reducible refine at_alloc_ (d := 3) ?_); refine wpList_alloc_v (op := ⟨some 3, _, _, _, _, _⟩) rfl 111 rfl zer9 info_9 ?_; intro g4 w4 hf hr; have HG := Lib.hid (show _ ∧ _ ∧ _ from ⟨hf.bl HB.out, hr, hf.ge HB.out⟩); clear hf hr)
      | ((with_reducible refine at_store_ (i := 3) ?_); refine wpList_store_v rfl 111 (.tmp 3) (.tmp 7) rfl g4 zer9 us rfl rfl HG.out.2.1 (by rw [HU.out.1]; rfl) HU.out.2 (by rw [HU.out.1]; exact size_9) ?_; intro w5 hw hr; have HG5 := Lib.hid (show _ ∧ _ ∧ _ from ⟨Wr.bl HG.out.1 hw HG.out.2.2, hr, hr.lt⟩); clear hw hr))
    go_ret
    exact ⟨g4, rfl, ⟨HG.out.2.2, HG5.out.2.2⟩, HG5.out.2.1, HG5.out.1⟩
  · have HR : Hid (w.rangeAt 0 18 us) := Lib.hid (HT.out 2 rfl (by decide))
    clear HT
    go_enter Tryd.func73, Tryd.ntmps73
    go_wp2_with (first
      | ((with_reducible refine at_load_ (d := 7) ?_); refine wpList_load_mid rfl 111 (.tmp 6) rfl 0 18 rfl us _ HR.out Tryd.underlying111 rfl (by rw [HU.out.1]; exact size_9) ?_)
      | ((with_reducible refine at_alloc_ (d := 3) ?_); refine wpList_alloc_v (op := ⟨some 3, _, _, _, _, _⟩) rfl 111 rfl zer9 info_9 ?_; intro g4 w4 hf hr; have HG := Lib.hid (show _ ∧ _ ∧ _ from ⟨hf.bl HB.out, hr, hf.ge HB.out⟩); clear hf hr)
      | ((with_reducible refine at_store_ (i := 3) ?_); refine wpList_store_v rfl 111 (.tmp 3) (.tmp 7) rfl g4 zer9 us rfl rfl HG.out.2.1 (by rw [HU.out.1]; rfl) HU.out.2 (by rw [HU.out.1]; exact size_9) ?_; intro w5 hw hr; have HG5 := Lib.hid (show _ ∧ _ ∧ _ from ⟨Wr.bl HG.out.1 hw HG.out.2.2, hr, hr.lt⟩); clear hw hr))
    go_ret
    exact ⟨g4, rfl, ⟨HG.out.2.2, HG5.out.2.2⟩, HG5.out.2.1, HG5.out.1⟩
  · have HR : Hid (w.rangeAt 0 27 us) := Lib.hid (HT.out 3 rfl (by decide))
    clear HT
    go_enter Tryd.func73, Tryd.ntmps73
    go_wp2_with (first
      | ((with_reducible refine at_load_ (d := 7) ?_); refine wpList_load_mid rfl 111 (.tmp 6) rfl 0 27 rfl us _ HR.out Tryd.underlying111 rfl (by rw [HU.out.1]; exact size_9) ?_)
      | ((with_reducible refine at_alloc_ (d := 3) ?_); refine wpList_alloc_v (op := ⟨some 3, _, _, _, _, _⟩) rfl 111 rfl zer9 info_9 ?_; intro g4 w4 hf hr; have HG := Lib.hid (show _ ∧ _ ∧ _ from ⟨hf.bl HB.out, hr, hf.ge HB.out⟩); clear hf hr)
      | ((with_reducible refine at_store_ (i := 3) ?_); refine wpList_store_v rfl 111 (.tmp 3) (.tmp 7) rfl g4 zer9 us rfl rfl HG.out.2.1 (by rw [HU.out.1]; rfl) HU.out.2 (by rw [HU.out.1]; exact size_9) ?_; intro w5 hw hr; have HG5 := Lib.hid (show _ ∧ _ ∧ _ from ⟨Wr.bl HG.out.1 hw HG.out.2.2, hr, hr.lt⟩); clear hw hr))
    go_ret
    exact ⟨g4, rfl, ⟨HG.out.2.2, HG5.out.2.2⟩, HG5.out.2.1, HG5.out.1⟩
  · have HR : Hid (w.rangeAt 0 36 us) := Lib.hid (HT.out 4 rfl (by decide))
    clear HT
    go_enter Tryd.func73, Tryd.ntmps73
    go_wp2_with (first
      | ((with_reducible refine at_load_ (d := 7) ?_); refine wpList_load_mid rfl 111 (.tmp 6) rfl 0 36 rfl us _ HR.out Tryd.underlying111 rfl (by rw [HU.out.1]; exact size_9) ?_)
      | ((with_reducible refine at_alloc_ (d := 3) ?_); refine wpList_alloc_v (op := ⟨some 3, _, _, _, _, _⟩) rfl 111 rfl zer9 info_9 ?_; intro g4 w4 hf hr; have HG := Lib.hid (show _ ∧ _ ∧ _ from ⟨hf.bl HB.out, hr, hf.ge HB.out⟩); clear hf hr)
      | ((with_reducible refine at_store_ (i := 3) ?_); refine wpList_store_v rfl 111 (.tmp 3) (.tmp 7) rfl g4 zer9 us rfl rfl HG.out.2.1 (by rw [HU.out.1]; rfl) HU.out.2 (by rw [HU.out.1]; exact size_9) ?_; intro w5 hw hr; have HG5 := Lib.hid (show _ ∧ _ ∧ _ from ⟨Wr.bl HG.out.1 hw HG.out.2.2, hr, hr.lt⟩); clear hw hr))
    go_ret
    exact ⟨g4, rfl, ⟨HG.out.2.2, HG5.out.2.2⟩, HG5.out.2.1, HG5.out.1⟩
def Ncs (b : Nat) : List (Int × Nat × Nat) → List Value
  | [] => []
  | (t, s, c) :: r => .int .i64 t :: .int .i64 (s : Int) :: .pointer (some ⟨b, c, none⟩) :: Ncs b r
theorem Ncs_len (b : Nat) : ∀ l, (Ncs b l).length = 3 * l.length
  | [] => rfl
  | (t, s, c) :: r => by simp only [Ncs, List.length_cons]; rw [Ncs_len b r]; omega
theorem Ncs_one (b : Nat) : ∀ l, ∀ u ∈ Ncs b l, u.oneCell' = true
  | [], u, hu => by cases hu
  | (t, s, c) :: r, u, hu => by
    simp only [Ncs, List.mem_cons] at hu
    rcases hu with rfl | rfl | rfl | hu
    · rfl
    · rfl
    · rfl
    · exact Ncs_one b r u hu
theorem Ncs_get {b : Nat} : ∀ {l : List (Int × Nat × Nat)} {j : Nat} {t : Int} {s c : Nat}, l[j]? = some (t, s, c) → (Ncs b l)[3 * j]? = some (.int .i64 t) ∧ (Ncs b l)[3 * j + 1]? = some (.int .i64 (s : Int)) ∧ (Ncs b l)[3 * j + 2]? = some (.pointer (some ⟨b, c, none⟩))
  | [], j, t, s, c, h => by simp at h
  | x :: r, 0, t, s, c, h => by
    have h : x = (t, s, c) := by simpa using h
    subst h
    exact ⟨rfl, rfl, rfl⟩
  | (t', s', c') :: r, j + 1, t, s, c, h => by
    have h : r[j]? = some (t, s, c) := by simpa using h
    have := Ncs_get (b := b) h
    rw [show 3 * (j + 1) = 3 * j + 3 by omega]
    exact this
theorem info_num : (Tryd.prog.info? 98).map (fun i => (i.zero, i.size, i.bytes)) = some (some (.agg #[.int .i64 0, .int .i64 0, .pointer none]), 3, 24) := by kernel_rfl
theorem bn1 (u1 u2 u3 : Value) : Tryd.prog.builtSlice 98 1 [(0, .agg #[u1, u2, u3])] = some [u1, u2, u3].toArray := by kernel_rfl
theorem bn2 (u1 u2 u3 v1 v2 v3 : Value) : Tryd.prog.builtSlice 98 2 [(0, .agg #[u1, u2, u3]), (1, .agg #[v1, v2, v3])] = some [u1, u2, u3, v1, v2, v3].toArray := by kernel_rfl
theorem bn3 (a b : Int) (g c : Nat) : Tryd.prog.built 98 [(0, .int .i64 a), (1, .int .i64 b), (2, .pointer (some ⟨g, c, none⟩))] = some [.int .i64 a, .int .i64 b, .pointer (some ⟨g, c, none⟩)].toArray := by kernel_rfl
theorem pe2 {a : Act} {x y : Operand} {u v : Value} (h : a.eval x = u) (h2 : a.eval y = v) : ((#[(0, x), (1, y)] : Array (Nat × Operand)).map fun (i, x) => (i, a.eval x)).toList = [(0, u), (1, v)] := by simp [h, h2]
theorem pe3 {a : Act} {x y z : Operand} {u v t : Value} (h : a.eval x = u) (h2 : a.eval y = v) (h3 : a.eval z = t) : ((#[(0, x), (1, y), (2, z)] : Array (Nat × Operand)).map fun (i, x) => (i, a.eval x)).toList = [(0, u), (1, v), (2, t)] := by simp [h, h2, h3]
theorem fa_x3 (g : Nat) (w : World) : (Instr.fieldAt 44 (.pointer (some ⟨g, 0, none⟩)) 3).run Tryd.prog w = .ok (.pointer (some ⟨g, 3, none⟩)) w := by kernel_rfl
theorem fa_x4 (g : Nat) (w : World) : (Instr.fieldAt 44 (.pointer (some ⟨g, 0, none⟩)) 4).run Tryd.prog w = .ok (.pointer (some ⟨g, 4, none⟩)) w := by kernel_rfl
def NumS (w0 : World) (b : Nat) (u : Value) (c : World) : Prop := ∃ g, u = .slice (some ⟨g, 0, none⟩) 2 2 ∧ newB w0 c g ∧ RowV c g (Ncs b [(4, 4, 3), (2, 1, 4)])
theorem NumS.firm (w0 : World) (b : Nat) : Firm (NumS w0 b) := by
  rintro u c c' ⟨g, h1, h2, h3⟩ hb
  exact ⟨g, h1, ⟨h2.1, Nat.lt_of_lt_of_le h2.2 hb.size⟩, h3.on hb⟩
theorem NumS.row {w0 : World} {b : Nat} {u : Value} {c c' : World} {v : Value} (h : NumS w0 b u c) (hg : c.grownBy c' v.ownBlock) (hv : ∀ g, v.ownBlock = some g → g < w0.heap.size) : NumS w0 b u c' := by
  obtain ⟨g, h1, h2, h3⟩ := h
  refine ⟨g, h1, ⟨h2.1, Nat.lt_of_lt_of_le h2.2 hg.size⟩, h3.same (hg.block _ h2.2 fun e => ?_)⟩
  have := hv _ e.symm
  have := h2.1
  omega
def NumA (w0 : World) (b : Nat) (u : Value) (c : World) : Prop := ∃ A cap, u = .slice A 3 cap ∧ c.ownsRow w0.heap.size 98 3 u 3 (Ncs b [(2, 1, 1), (4, 4, 3), (2, 1, 4)])
theorem NumA.firm (w0 : World) (b : Nat) : Firm (NumA w0 b) := by
  rintro u c c' ⟨A, cap, rfl, h⟩ hb
  exact ⟨A, cap, rfl, own3_on h hb⟩
def NumsIs (w : World) (b : Nat) (l : List (Int × Nat × Nat)) (n : Nat) (e : Ending) (w' : World) : Prop := ∃ A c, e = .returned (.slice A n c) ∧ n ≤ c ∧ SeesP w' (newB w w') A (Ncs b l) ∧ Below w.heap.size w w'
theorem NumsIs.own {w w' : World} {b n : Nat} {l : List (Int × Nat × Nat)} {v : Value} (h : w'.ownsRow w.heap.size 98 3 v n (Ncs b l)) (hb : Below w.heap.size w w') (h0 : 0 < n) : NumsIs w b l n (.returned v) w' := by
  have hl := h.1
  rcases h.2 with ⟨rfl, h1⟩ | ⟨g, cap, cur, rfl, hg, hh, hn, hm, hs, ht⟩
  · omega
  · refine ⟨_, cap, rfl, hn, .inr ⟨g, 0, rfl, ⟨hg, lt_of_block hh⟩, fun j hj => ?_⟩, hb⟩
    rw [Nat.zero_add, cell_of_row w' g j cur _ (0, 0) hh, ← ht, List.getElem?_take, if_pos (by omega), Array.getElem?_toList]
set_option maxHeartbeats 3200000 in
theorem p_nums (p : Int) (h2 : 2 ≤ p) (h6 : p ≤ 6) (b : Nat) (w : World) (hb : b < w.heap.size) (hc : w.cell? ⟨b, 0, none⟩ = some (.int .i64 p)) (n : Nat) (hn : (numsI p).length = n) :
    Calls Tryd.prog 74 #[.pointer (some ⟨b, 0, none⟩)] w (NumsIs w b (numsI p) n) := by
  obtain ⟨i0, hi, hz0, hz1, hz2⟩ := info_parts info_num
  have HP := Lib.hid fun w => p_pw p w
  have HC := Lib.hid (show ∀ w', Below w.heap.size w w' → w'.cell? ⟨b, 0, none⟩ = some (.int .i64 p) from fun w' h => (h.cell (p := ⟨b, 0, none⟩) hb).trans hc)
  have HBR := Lib.hid hb
  have HB := Lib.hid (Below.refl w.heap.size w)
  clear hc hb
  have hp : (p = 2 ∨ p = 3) ∨ p = 4 ∨ p = 5 ∨ p = 6 := by omega
  clear h2 h6
  rcases hp with hp | hp | hp
  · have hnu : numsI p = [(2, 1, 1), (2, 1, 2)] := by rcases hp with rfl | rfl <;> rfl
    have hpw : pwB p = true := by rcases hp with rfl | rfl <;> rfl
    rw [hnu] at hn ⊢
    obtain rfl : 2 = n := hn
    rw [hpw] at HP
    clear hnu hpw hp
    go_enter Tryd.func74, Tryd.ntmps74
    go_wp2_with (first
      | ((with_reducible refine at_any_ (d := 8) ?_); go_must (refine wpList_bslT rfl 93 98 1 _ rfl Tryd.underlying93 (pe1 rfl) (bn1 _ _ _) ?_); intro g1 w2 hf hh; have H2 := Lib.hid (show w2.ownsRow w.heap.size 98 3 (.slice (some ⟨g1, 0, none⟩) 1 1) 1 (Ncs b [(2, 1, 1)]) ∧ Below w.heap.size w w2 from ⟨own_lit hh rfl (by decide) (hf.ge HB.out), hf.bl HB.out⟩); have c0 := HC.out _ (hf.bl HB.out); clear hf hh)
      | (go_at_call 43; ((with_reducible refine (HP.out _).mono ?_); rintro e w3 ⟨rfl, rfl⟩))
      | ((with_reducible refine at_any_ (d := 20) ?_); go_must (refine wpList_bslV rfl 93 98 1 _ rfl Tryd.underlying93 (pe1 rfl) (bn1 _ _ _) ?_); intro g4 w4 hf hr; have H4 := Lib.hid (show _ ∧ _ from ⟨hf, hr⟩); clear hf hr)
      | ((with_reducible refine at_call_ (d := 21) ?_); go_must (refine wpList_append_lies _ rfl (.tmp 15) (.tmp 20) 93 rfl w.heap.size 98 i0 _ 3 24 Tryd.underlying93 hi hz0 hz1 hz2 rfl (by decide) _ 1 _ rfl (own3_on H2.out.1 H4.out.1.bw) ⟨g4, 0, none⟩ 1 1 (Ncs b [(2, 1, 2)]) rfl rfl (RowV.src H4.out.2) (Ncs_one _ _) (by decide) (by unfold maxLen; omega) (by omega) (Nat.le_trans H2.out.2.size H4.out.1.bw.size) _ rfl ?_); intro g5 c5 w5 ho hg hl hlt; have H5 := Lib.hid (show w5.ownsRow w.heap.size 98 3 (.slice (some ⟨g5, 0, none⟩) 2 c5) 2 (Ncs b [(2, 1, 1), (2, 1, 2)]) ∧ Below w.heap.size w w5 from ⟨ho, row_below (below_on H2.out.2 H4.out.1.bw) hg fun k e => (own_lt3 H2.out.1 k e).1⟩); clear ho hg hl hlt))
    have HD := Lib.hid H5.out
    go_ret
    exact NumsIs.own HD.out.1 HD.out.2 (by decide)
  · subst hp
    have hpw : pwB 4 = false := rfl
    obtain rfl : 3 = n := hn
    rw [hpw] at HP
    clear hpw
    go_enter Tryd.func74, Tryd.ntmps74
    go_wp2_with (first
      | ((with_reducible refine at_any_ (d := 8) ?_); go_must (refine wpList_bslT rfl 93 98 1 _ rfl Tryd.underlying93 (pe1 rfl) (bn1 _ _ _) ?_); intro g1 w2 hf hh; have H2 := Lib.hid (show w2.ownsRow w.heap.size 98 3 (.slice (some ⟨g1, 0, none⟩) 1 1) 1 (Ncs b [(2, 1, 1)]) ∧ Below w.heap.size w w2 from ⟨own_lit hh rfl (by decide) (hf.ge HB.out), hf.bl HB.out⟩); have c0 := HC.out _ (hf.bl HB.out); clear hf hh)
      | (go_at_call 43; ((with_reducible refine (HP.out _).mono ?_); rintro e w3 ⟨rfl, rfl⟩))
      | ((with_reducible refine at_any_ (d := 20) ?_); go_must (refine wpList_bslV rfl 93 98 1 _ rfl Tryd.underlying93 (pe1 rfl) (bn1 _ _ _) ?_); intro g4 w4 hf hr; have H4 := Lib.hid (show _ ∧ _ from ⟨hf, hr⟩); clear hf hr)
      | ((with_reducible refine at_call_ (d := 21) ?_); go_must (refine wpList_append_lies _ rfl (.tmp 15) (.tmp 20) 93 rfl w.heap.size 98 i0 _ 3 24 Tryd.underlying93 hi hz0 hz1 hz2 rfl (by decide) _ 1 _ rfl (own3_on H2.out.1 H4.out.1.bw) ⟨g4, 0, none⟩ 1 1 (Ncs b [(2, 1, 2)]) rfl rfl (RowV.src H4.out.2) (Ncs_one _ _) (by decide) (by unfold maxLen; omega) (by omega) (Nat.le_trans H2.out.2.size H4.out.1.bw.size) _ rfl ?_); intro g5 c5 w5 ho hg hl hlt; have H5 := Lib.hid (show w5.ownsRow w.heap.size 98 3 (.slice (some ⟨g5, 0, none⟩) 2 c5) 2 (Ncs b [(2, 1, 1), (2, 1, 2)]) ∧ Below w.heap.size w w5 from ⟨ho, row_below (below_on H2.out.2 H4.out.1.bw) hg fun k e => (own_lt3 H2.out.1 k e).1⟩); clear ho hg hl hlt))
    refine region_facts (by kernel_rfl) _ w2 (fun c => w2.heap.size ≤ c.heap.size ∧ Below w.heap.size w c) 10 (factL [fun u _ => u = .slice (some ⟨g1, 0, none⟩) 1 1, fun u _ => u = .pointer (some ⟨b, 0, none⟩), fun u _ => u = .pointer (some ⟨b, 0, none⟩), fun u _ => u = .pointer (some ⟨b, 3, none⟩), fun u _ => u = .agg #[.int .i64 4, .int .i64 4, .pointer (some ⟨b, 3, none⟩)], fun u _ => u = .pointer (some ⟨b, 0, none⟩), fun u _ => u = .pointer (some ⟨b, 0, none⟩), fun u _ => u = .pointer (some ⟨b, 4, none⟩), fun u _ => u = .agg #[.int .i64 2, .int .i64 1, .pointer (some ⟨b, 4, none⟩)], NumS w2 b, NumA w b, NumA w b]) (by kernel_rfl) (firm_list (by simp only [List.forall_mem_cons]; exact ⟨firm_eq _, firm_eq _, firm_eq _, firm_eq _, firm_eq _, firm_eq _, firm_eq _, firm_eq _, firm_eq _, NumS.firm _ _, NumA.firm _ _, NumA.firm _ _, fun X h => by cases h⟩)) (fun c c2 h hb => ⟨Nat.le_trans h.1 hb.size, below_on h.2 hb⟩) (Below.refl _ _) ⟨Nat.le_refl _, H2.out.2⟩ ?_ ?_
    · refine ops_all (allI.cons ?_ (allI.cons ?_ (allI.cons ?_ (allI.cons ?_ (allI.cons ?_ (allI.cons ?_ (allI.cons ?_ (allI.cons ?_ (allI.cons ?_ (allI.cons ?_ (allI.cons ?_ (allI.cons ?_ allI.nil)))))))))))) <;> intro v S c a hI hw1 hX hSi hdep hS hC
      · exact o_mv _ rfl (hS.before hC hSi 3 rfl) (Step.still rfl)
      · exact o_mv _ rfl (hS.old 0 rfl) (Step.still rfl)
      · exact o_nil (.tmp 29) rfl ((hS.get 1 (dep_at hdep 1 rfl) rfl rfl).trans (hX 1 (dep_at hdep 1 rfl))) (Step.still rfl)
      · exact o_fa _ (.tmp 30) 3 rfl ((hS.get 2 (dep_at hdep 2 rfl) rfl rfl).trans (hX 2 (dep_at hdep 2 rfl))) (fa_x3 b _) (Step.still rfl)
      · exact o_bld (vs := [.int .i64 4, .int .i64 4, .pointer (some ⟨b, 3, none⟩)]) _ _ rfl (pe3 rfl rfl ((hS.get 3 (dep_at hdep 3 rfl) rfl rfl).trans (hX 3 (dep_at hdep 3 rfl)))) (bn3 _ _ _ _) (Step.still rfl)
      · exact o_mv _ rfl (hS.old 0 rfl) (Step.still rfl)
      · exact o_nil (.tmp 33) rfl ((hS.get 5 (dep_at hdep 5 rfl) rfl rfl).trans (hX 5 (dep_at hdep 5 rfl))) (Step.still rfl)
      · exact o_fa _ (.tmp 34) 4 rfl ((hS.get 6 (dep_at hdep 6 rfl) rfl rfl).trans (hX 6 (dep_at hdep 6 rfl))) (fa_x4 b _) (Step.still rfl)
      · exact o_bld (vs := [.int .i64 2, .int .i64 1, .pointer (some ⟨b, 4, none⟩)]) _ _ rfl (pe3 rfl rfl ((hS.get 7 (dep_at hdep 7 rfl) rfl rfl).trans (hX 7 (dep_at hdep 7 rfl)))) (bn3 _ _ _ _) (Step.still rfl)
      · refine o_bsl _ 98 2 _ rfl Tryd.underlying93 (pe2 ((hS.get 4 (dep_at hdep 4 rfl) rfl rfl).trans (hX 4 (dep_at hdep 4 rfl))) ((hS.get 8 (dep_at hdep 8 rfl) rfl rfl).trans (hX 8 (dep_at hdep 8 rfl)))) (bn2 _ _ _ _ _ _) ?_
        intro g w3 hf hr
        exact Step.new ⟨g, rfl, ⟨by rw [hf.1]; exact hI.1, hr.lt⟩, hr⟩ hf.bw
      · obtain ⟨g, e2, h0, hr⟩ := (hX 9 (dep_at hdep 9 rfl))
        have hB := hw1 hSi
        refine wp_append_lies _ (.tmp 28) (.tmp 37) 93 rfl w.heap.size 98 i0 _ 3 24 Tryd.underlying93 hi hz0 hz1 hz2 rfl (by decide) (.slice (some ⟨g1, 0, none⟩) 1 1) 1 (Ncs b [(2, 1, 1)]) ((hS.get 0 (dep_at hdep 0 rfl) rfl rfl).trans (hX 0 (dep_at hdep 0 rfl))) (own3_on H2.out.1 hB) ⟨g, 0, none⟩ 2 2 (Ncs b [(4, 4, 3), (2, 1, 4)]) ((hS.get 9 (dep_at hdep 9 rfl) rfl rfl).trans e2) rfl (RowV.src hr) (Ncs_one _ _) (by decide) (by unfold maxLen; omega) (by omega) (Nat.le_trans H2.out.2.size hI.1) _ rfl ?_
        intro g' cap' w' ho hg hl hlt
        refine Step.turn ⟨_, cap', rfl, ho⟩ rfl ⟨Nat.le_trans hI.1 hg.size, row_below hI.2 hg fun k e => (own_lt3 H2.out.1 k e).1⟩ ?_
        intro j hj
        match j, hj with
        | 0, hj => exact hX 0 hj
        | 1, hj => exact hX 1 hj
        | 2, hj => exact hX 2 hj
        | 3, hj => exact hX 3 hj
        | 4, hj => exact hX 4 hj
        | 5, hj => exact hX 5 hj
        | 6, hj => exact hX 6 hj
        | 7, hj => exact hX 7 hj
        | 8, hj => exact hX 8 hj
        | 9, hj => exact NumS.row (hX 9 hj) hg fun k e => (own_lt3 H2.out.1 k e).2
        | 10, hj => rw [hSi] at hj; cases hj
        | 11, hj => have := dep_at (hC 11 _ rfl hj) 10 rfl; rw [hSi] at this; cases this
        | _ + 12, _ => trivial
      · exact o_as _ rfl (hS.get 10 (dep_at hdep 10 rfl) rfl rfl) (Step.still (hX 10 (dep_at hdep 10 rfl)))
    · intro v c hI hX
      simp only [putAll, Act.put]
      simp
      obtain ⟨Ah, ch, hv, ho⟩ := hX 11 (by decide)
      change v 11 = _ at hv
      rw [hv] at ho ⊢
      have HD := Lib.hid (show _ ∧ _ from ⟨ho, hI.2⟩)
      clear hX hI ho hv
      go_wp2
      go_ret
      exact NumsIs.own HD.out.1 HD.out.2 (by decide)
  · have hnu : numsI p = [(2, 1, 1)] := by rcases hp with rfl | rfl <;> rfl
    have hpw : pwB p = false := by rcases hp with rfl | rfl <;> rfl
    have dp : (p == 4) = false := by rcases hp with rfl | rfl <;> rfl
    rw [hnu] at hn ⊢
    obtain rfl : 1 = n := hn
    rw [hpw] at HP
    clear hnu hpw hp
    go_enter Tryd.func74, Tryd.ntmps74
    go_wp2_with (first
      | ((with_reducible refine at_any_ (d := 8) ?_); go_must (refine wpList_bslT rfl 93 98 1 _ rfl Tryd.underlying93 (pe1 rfl) (bn1 _ _ _) ?_); intro g1 w2 hf hh; have H2 := Lib.hid (show w2.ownsRow w.heap.size 98 3 (.slice (some ⟨g1, 0, none⟩) 1 1) 1 (Ncs b [(2, 1, 1)]) ∧ Below w.heap.size w w2 from ⟨own_lit hh rfl (by decide) (hf.ge HB.out), hf.bl HB.out⟩); have c0 := HC.out _ (hf.bl HB.out); clear hf hh)
      | (go_at_call 43; ((with_reducible refine (HP.out _).mono ?_); rintro e w3 ⟨rfl, rfl⟩))
      | ((with_reducible refine at_any_ (d := 20) ?_); go_must (refine wpList_bslV rfl 93 98 1 _ rfl Tryd.underlying93 (pe1 rfl) (bn1 _ _ _) ?_); intro g4 w4 hf hr; have H4 := Lib.hid (show _ ∧ _ from ⟨hf, hr⟩); clear hf hr)
      | ((with_reducible refine at_call_ (d := 21) ?_); go_must (refine wpList_append_lies _ rfl (.tmp 15) (.tmp 20) 93 rfl w.heap.size 98 i0 _ 3 24 Tryd.underlying93 hi hz0 hz1 hz2 rfl (by decide) _ 1 _ rfl (own3_on H2.out.1 H4.out.1.bw) ⟨g4, 0, none⟩ 1 1 (Ncs b [(2, 1, 2)]) rfl rfl (RowV.src H4.out.2) (Ncs_one _ _) (by decide) (by unfold maxLen; omega) (by omega) (Nat.le_trans H2.out.2.size H4.out.1.bw.size) _ rfl ?_); intro g5 c5 w5 ho hg hl hlt; have H5 := Lib.hid (show w5.ownsRow w.heap.size 98 3 (.slice (some ⟨g5, 0, none⟩) 2 c5) 2 (Ncs b [(2, 1, 1), (2, 1, 2)]) ∧ Below w.heap.size w w5 from ⟨ho, row_below (below_on H2.out.2 H4.out.1.bw) hg fun k e => (own_lt3 H2.out.1 k e).1⟩); clear ho hg hl hlt))
    have HD := Lib.hid H2.out
    go_ret
    exact NumsIs.own HD.out.1 HD.out.2 (by decide)
end Go.Proofs.YtcapbojjceeapaaDoor
