/-
  What is proved here: the program's table of a header's numbers, the object of a template, the object of templates, Encode.
-/
import Derived.Test.YtobbnedojmcgoaaB5
namespace Go.Proofs.Ytobbnedojmcgoaa
open Go.RowKit
set_option linter.unusedVariables false
set_option linter.unusedSimpArgs false

/-! ## the table -/
def fnV (f : FuncId) : Value := .func (.func f) #[] #[]
def hdrV : List Value := [.int .i64 129, .int .i64 1, fnV 55, .int .i64 130, .int .i64 1, fnV 56, .int .i64 131, .int .i64 4, fnV 57, .int .i64 132, .int .i64 4, fnV 58, .int .i64 133, .int .i64 1, fnV 59, .int .i64 136, .int .i64 2, fnV 60]
def zerH : List Value := [.int .i64 0, .int .i64 0, .nilFunc, .int .i64 0, .int .i64 0, .nilFunc, .int .i64 0, .int .i64 0, .nilFunc, .int .i64 0, .int .i64 0, .nilFunc, .int .i64 0, .int .i64 0, .nilFunc, .int .i64 0, .int .i64 0, .nilFunc]
def zerM : List Value := [.int .i64 0, .int .i64 0, .nilFunc]
theorem info_h : (Try.prog.info? 82).map (·.zero) = some (some (.agg zerH.toArray)) := by kernel_rfl
theorem size_h : (Try.prog.info? 82).map (·.size) = some 18 := by kernel_rfl
theorem info_m : (Try.prog.info? 81).map (·.zero) = some (some (.agg zerM.toArray)) := by kernel_rfl
theorem size_m : (Try.prog.info? 81).map (·.size) = some 3 := by kernel_rfl
theorem hdrV_one : ∀ u ∈ hdrV, u.oneCell' = true := by
  intro u hu
  simp only [hdrV, fnV, List.mem_cons, List.not_mem_nil, or_false] at hu
  rcases hu with rfl | rfl | rfl | rfl | rfl | rfl | rfl | rfl | rfl | rfl | rfl | rfl | rfl | rfl | rfl | rfl | rfl | rfl <;> rfl
set_option maxHeartbeats 1600000 in
theorem p_header (w : World) : Calls Try.prog 50 #[] w fun e w' => e = .returned (.agg hdrV.toArray) ∧ Below w.heap.size w w' := by
  have HB := Lib.hid (Below.refl w.heap.size w)
  go_enter Try.func50, Try.ntmps50
  go_wp2_with (first
    | ((with_reducible refine at_alloc_ (d := 0) ?_); refine wpList_alloc_v (op := ⟨some 0, _, _, _, _, _⟩) rfl 82 rfl zerH info_h ?_; intro g6 w6 hf hr; have H6 := Lib.hid (show _ ∧ _ ∧ _ from ⟨hf.bl HB.out, hr, hf.ge HB.out⟩); clear hf hr)
    | ((with_reducible refine at_store_ (i := 0) ?_); refine wpList_store_v rfl 82 (.tmp 0) (.tmp 7) rfl g6 zerH hdrV rfl rfl H6.out.2.1 rfl hdrV_one size_h ?_; intro w8 hw hr; have H8 := Lib.hid (show _ ∧ _ from ⟨Wr.bl H6.out.1 hw H6.out.2.2, hr⟩); clear hw hr))
  exact bodyPost_ret (results_v rfl _ _ g6 hdrV _ rfl H8.out.2 Try.underlying82 rfl size_h) rfl ⟨rfl, H8.out.1⟩
theorem p_place0 (g : Nat) (w : World) : Calls Try.prog 55 #[.pointer (some ⟨g, 0, none⟩)] w fun e w' => e = .returned (.pointer (some ⟨g, 0, none⟩)) ∧ w = w' := by
  go_enter Try.func55, Try.ntmps55
  go_wp2
  go_ret
  exact ⟨rfl, rfl⟩
theorem p_place1 (g : Nat) (w : World) : Calls Try.prog 56 #[.pointer (some ⟨g, 0, none⟩)] w fun e w' => e = .returned (.pointer (some ⟨g, 1, none⟩)) ∧ w = w' := by
  go_enter Try.func56, Try.ntmps56
  go_wp2
  go_ret
  exact ⟨rfl, rfl⟩
theorem p_place2 (g : Nat) (w : World) : Calls Try.prog 57 #[.pointer (some ⟨g, 0, none⟩)] w fun e w' => e = .returned (.pointer (some ⟨g, 2, none⟩)) ∧ w = w' := by
  go_enter Try.func57, Try.ntmps57
  go_wp2
  go_ret
  exact ⟨rfl, rfl⟩
theorem p_place3 (g : Nat) (w : World) : Calls Try.prog 58 #[.pointer (some ⟨g, 0, none⟩)] w fun e w' => e = .returned (.pointer (some ⟨g, 3, none⟩)) ∧ w = w' := by
  go_enter Try.func58, Try.ntmps58
  go_wp2
  go_ret
  exact ⟨rfl, rfl⟩
theorem p_place4 (g : Nat) (w : World) : Calls Try.prog 59 #[.pointer (some ⟨g, 0, none⟩)] w fun e w' => e = .returned (.pointer (some ⟨g, 5, none⟩)) ∧ w = w' := by
  go_enter Try.func59, Try.ntmps59
  go_wp2
  go_ret
  exact ⟨rfl, rfl⟩
theorem p_place5 (g : Nat) (w : World) : Calls Try.prog 60 #[.pointer (some ⟨g, 0, none⟩)] w fun e w' => e = .returned (.pointer (some ⟨g, 4, none⟩)) ∧ w = w' := by
  go_enter Try.func60, Try.ntmps60
  go_wp2
  go_ret
  exact ⟨rfl, rfl⟩
/-- the number at i of a header: its tag, its size, the function that names its place, and the place -/
structure NumAt (i : Nat) (tg : Int) (sz : Nat) (fn : FuncId) (fl : Nat) : Prop where
  ix : ∀ w, (Instr.index 82 (.agg hdrV.toArray) (.int .i64 (i : Int))).run Try.prog w = .ok (.agg #[.int .i64 tg, .int .i64 (sz : Int), fnV fn]) w
  enter : ∀ w v, (callFunc fn #[v]).run Try.prog w = .ok (.enter fn #[v]) w
  call : ∀ g w, Calls Try.prog fn #[.pointer (some ⟨g, 0, none⟩)] w fun e w' => e = .returned (.pointer (some ⟨g, fl, none⟩)) ∧ w = w'
  tag : hdrTags[i]? = some (tg, sz)
  small : sz ≤ 4
  place : fl = ([0, 1, 2, 3, 5, 4] : List Nat).getD i 0
theorem num_at {i : Nat} (h : i < 6) : ∃ tg sz fn fl, NumAt i tg sz fn fl := by
  have hi : i = 0 ∨ i = 1 ∨ i = 2 ∨ i = 3 ∨ i = 4 ∨ i = 5 := by omega
  rcases hi with rfl | rfl | rfl | rfl | rfl | rfl
  · exact ⟨129, 1, 55, 0, ⟨fun w => by kernel_rfl, fun w v => by kernel_rfl, p_place0, rfl, by decide, rfl⟩⟩
  · exact ⟨130, 1, 56, 1, ⟨fun w => by kernel_rfl, fun w v => by kernel_rfl, p_place1, rfl, by decide, rfl⟩⟩
  · exact ⟨131, 4, 57, 2, ⟨fun w => by kernel_rfl, fun w v => by kernel_rfl, p_place2, rfl, by decide, rfl⟩⟩
  · exact ⟨132, 4, 58, 3, ⟨fun w => by kernel_rfl, fun w v => by kernel_rfl, p_place3, rfl, by decide, rfl⟩⟩
  · exact ⟨133, 1, 59, 5, ⟨fun w => by kernel_rfl, fun w v => by kernel_rfl, p_place4, rfl, by decide, rfl⟩⟩
  · exact ⟨136, 2, 60, 4, ⟨fun w => by kernel_rfl, fun w v => by kernel_rfl, p_place5, rfl, by decide, rfl⟩⟩
/-- a list of primitive objects -/
def flatF : List (Int × List UInt8) → F
  | [] => .nil
  | a :: r => .cons a.1 a.2 .nil (flatF r)
theorem flatF_len : ∀ l, (flatF l).len = l.length
  | [] => rfl
  | a :: r => by simp only [flatF, F.len, List.length_cons, flatF_len r]
theorem flatF_snoc : ∀ (l : List (Int × List UInt8)) (a : Int × List UInt8), flatF (l ++ [a]) = (flatF l).app (.cons a.1 a.2 .nil .nil)
  | [], a => rfl
  | y :: r, a => by simp only [List.cons_append, flatF, F.app]; rw [flatF_snoc r a]
def hdrL (x : Tm) : List (Int × List UInt8) := [(129, octL x.k.toNat 1), (130, octL x.p.toNat 1), (131, octL x.f.toNat 4), (132, octL x.t.toNat 4), (133, octL x.q.toNat 1), (136, octL x.fo.toNat 2)]
theorem hdrL_flat (x : Tm) : flatF (hdrL x) = hdrF x .nil := rfl
/-- what stands at the place of the number at i of a valid template -/
theorem hdr_num {x : Tm} (hv : vT x = 0) {i : Nat} {tg : Int} {sz : Nat} {fn : FuncId} {fl : Nat} (h : NumAt i tg sz fn fl) (A : Option Addr) (c : Nat) :
    ∃ n : Nat, (x.cs A c)[fl]? = some (.int .i64 (n : Int)) ∧ n < 256 ^ sz ∧ (hdrL x)[i]? = some (tg, octL n sz) := by
  obtain ⟨h1, h2, h3, h4, h5, h6, h7, _⟩ := vT_bd hv
  have hp := h.place
  have ht := h.tag
  have hi : i = 0 ∨ i = 1 ∨ i = 2 ∨ i = 3 ∨ i = 4 ∨ i = 5 := by
    have := (List.getElem?_eq_some_iff.1 ht).1
    simp [hdrTags] at this
    omega
  have nn : ∀ z : Int, 0 ≤ z → Value.int .i64 z = .int .i64 ((z.toNat : Nat) : Int) := fun z hz => by rw [Int.toNat_of_nonneg hz]
  rcases hi with rfl | rfl | rfl | rfl | rfl | rfl <;> simp [hdrTags] at ht hp <;> obtain ⟨rfl, rfl⟩ := ht <;> subst hp
  · exact ⟨x.k.toNat, congrArg some (nn _ (by omega)), by omega, rfl⟩
  · exact ⟨x.p.toNat, congrArg some (nn _ (by omega)), by omega, rfl⟩
  · exact ⟨x.f.toNat, congrArg some (nn _ (by omega)), by omega, rfl⟩
  · exact ⟨x.t.toNat, congrArg some (nn _ (by omega)), by omega, rfl⟩
  · exact ⟨x.q.toNat, congrArg some (nn _ (by omega)), by omega, rfl⟩
  · exact ⟨x.fo.toNat, congrArg some (nn _ (by omega)), by omega, rfl⟩
theorem take_next {l : List (Int × List UInt8)} {i : Nat} {a : Int × List UInt8} (h : l[i]? = some a) : flatF (l.take (i + 1)) = (flatF (l.take i)).app (.cons a.1 a.2 .nil .nil) := by
  have e : l.take (i + 1) = l.take i ++ [a] := by rw [List.take_add_one, h]; rfl
  rw [e, flatF_snoc]

/-! ## the object of a template -/
theorem fa_m0 (g : Nat) (w : World) : (Instr.fieldAt 81 (.pointer (some ⟨g, 0, none⟩)) 0).run Try.prog w = .ok (.pointer (some ⟨g, 0, none⟩)) w := by kernel_rfl
theorem fa_m1 (g : Nat) (w : World) : (Instr.fieldAt 81 (.pointer (some ⟨g, 0, none⟩)) 1).run Try.prog w = .ok (.pointer (some ⟨g, 1, none⟩)) w := by kernel_rfl
theorem fa_m2 (g : Nat) (w : World) : (Instr.fieldAt 81 (.pointer (some ⟨g, 0, none⟩)) 2).run Try.prog w = .ok (.pointer (some ⟨g, 2, none⟩)) w := by kernel_rfl
theorem ag_i : ∀ w, (isAgg 3).run Try.prog w = .ok false w := fun w => by kernel_rfl
theorem ag_f : ∀ w, (isAgg 79).run Try.prog w = .ok false w := fun w => by kernel_rfl
theorem ev1 {a : Act} {x : Operand} {v : Value} (h : a.eval x = v) : (#[x] : Array Operand).map a.eval = #[v] := by simp [h]
theorem ev2 {a : Act} {x y : Operand} {u v : Value} (h : a.eval x = u) (h2 : a.eval y = v) : (#[x, y] : Array Operand).map a.eval = #[u, v] := by simp [h, h2]
theorem ev3 {a : Act} {x y z : Operand} {u v t : Value} (h : a.eval x = u) (h2 : a.eval y = v) (h3 : a.eval z = t) : (#[x, y, z] : Array Operand).map a.eval = #[u, v, t] := by simp [h, h2, h3]
theorem bs1 (u1 u2 u3 : Value) : Try.prog.builtSlice 53 1 [(0, .agg #[u1, u2, u3])] = some #[u1, u2, u3] := by kernel_rfl
theorem bs2 (u1 u2 u3 v1 v2 v3 : Value) : Try.prog.builtSlice 53 2 [(0, .agg #[u1, u2, u3]), (1, .agg #[v1, v2, v3])] = some #[u1, u2, u3, v1, v2, v3] := by kernel_rfl
theorem pe2 {a : Act} {x y : Operand} {u v : Value} (h : a.eval x = u) (h2 : a.eval y = v) : ((#[(0, x), (1, y)] : Array (Nat × Operand)).map fun (i, x) => (i, a.eval x)).toList = [(0, u), (1, v)] := by simp [h, h2]
theorem pe1 {a : Act} {x : Operand} {u : Value} (h : a.eval x = u) : ((#[(0, x)] : Array (Nat × Operand)).map fun (i, x) => (i, a.eval x)).toList = [(0, u)] := by simp [h]
theorem HeldN.parts {w wr : World} {v : Value} {f : F} (h : HeldN w wr v f) : ∃ cs, wr.ownsRow w.heap.size 53 3 v f.len cs ∧ HoldsN wr (fun b => newB w wr b ∧ v.ownBlock ≠ some b) f cs := h
/-- a fact that a later append into a block that was there keeps -/
def NodF (wr : World) (t : Int) (x : List UInt8) (n : Nat) (u : Value) (c : World) : Prop := ∃ A cv, u = .agg (nodV t A n cv none 0 0).toArray ∧ ((A = none → cv = 0) ∧ n ≤ cv) ∧ SeesP c (newB wr c) A (Us x)
def NodS (wr : World) (t : Int) (x : List UInt8) (n : Nat) (u : Value) (c : World) : Prop := ∃ A cv g, u = .slice (some ⟨g, 0, none⟩) 1 1 ∧ newB wr c g ∧ RowV c g (nodV t A n cv none 0 0) ∧ ((A = none → cv = 0) ∧ n ≤ cv) ∧ SeesP c (newB wr c) A (Us x)
theorem NodF.firm (wr : World) (t : Int) (x : List UInt8) (n : Nat) : Firm (NodF wr t x n) := by
  rintro u c c' ⟨A, cv, h1, h2, h3⟩ hb
  exact ⟨A, cv, h1, h2, h3.newOn hb⟩
theorem NodS.firm (wr : World) (t : Int) (x : List UInt8) (n : Nat) : Firm (NodS wr t x n) := by
  rintro u c c' ⟨A, cv, g, h1, h0, h4, h2, h3⟩ hb
  exact ⟨A, cv, g, h1, ⟨h0.1, Nat.lt_of_lt_of_le h0.2 hb.size⟩, h4.on hb, h2, h3.newOn hb⟩
/-- the row of objects is written, where it has a block of its own that is elder, or gets a new one -/
theorem NodF.row {wr : World} {t : Int} {x : List UInt8} {n : Nat} {u : Value} {c c' : World} {v : Value} (h : NodF wr t x n u c) (hg : c.grownBy c' v.ownBlock) (hv : ∀ g, v.ownBlock = some g → g < wr.heap.size) : NodF wr t x n u c' := by
  obtain ⟨A, cv, h1, h2, h3⟩ := h
  refine ⟨A, cv, h1, h2, (h3.keep fun q hq => World.cell?_of_block (hg.block _ hq.2 fun e => ?_)).imp fun b hb => ⟨hb.1, Nat.lt_of_lt_of_le hb.2 hg.size⟩⟩
  have := hv _ e.symm
  have := hq.1
  omega
theorem NodS.row {wr : World} {t : Int} {x : List UInt8} {n : Nat} {u : Value} {c c' : World} {v : Value} (h : NodS wr t x n u c) (hg : c.grownBy c' v.ownBlock) (hv : ∀ g, v.ownBlock = some g → g < wr.heap.size) : NodS wr t x n u c' := by
  obtain ⟨A, cv, g, h1, h0, h4, h2, h3⟩ := h
  refine ⟨A, cv, g, h1, ⟨h0.1, Nat.lt_of_lt_of_le h0.2 hg.size⟩, h4.same (hg.block _ h0.2 fun e => ?_), h2, (h3.keep fun q hq => World.cell?_of_block (hg.block _ hq.2 fun e => ?_)).imp fun b hb => ⟨hb.1, Nat.lt_of_lt_of_le hb.2 hg.size⟩⟩
  · have := hv _ e.symm
    have := h0.1
    omega
  · have := hv _ e.symm
    have := hq.1
    omega
def HelF (w : World) (f : F) (u : Value) (c : World) : Prop := HeldN w c u f
theorem HelF.firm (w : World) (f : F) : Firm (HelF w f) := fun u c c' h hb => HeldN.on h hb
theorem row_below {w c c' : World} {v : Value} (h : Below w.heap.size w c) (hg : c.grownBy c' v.ownBlock) (hv : ∀ g, v.ownBlock = some g → w.heap.size ≤ g) : Below w.heap.size w c' := h.grown hg h.size (fun k e => hv k e)

set_option maxHeartbeats 6400000 in
set_option maxRecDepth 20000 in
theorem p_tm_obj (x : Tm) (hv : vT x = 0) (A : Option Addr) (c : Nat) (w : World) (hs : SeesP w (· < w.heap.size) A (Us x.d)) :
    Calls Try.prog 43 #[.agg (x.cs A c).toArray] w fun e w' => ∃ A2 c2, e = .returned (.agg (nodV 32608 none 0 0 A2 2 c2).toArray) ∧ 2 ≤ c2 ∧ SeesN w' (newB w w') A2 (objK x) ∧ Below w.heap.size w w' := by
  obtain ⟨i0, hi, hz0, hz1, hz2⟩ := info_parts info_node
  obtain ⟨us, hus⟩ : ∃ us, x.cs A c = us := ⟨_, rfl⟩
  obtain ⟨dn, hdn⟩ : ∃ n, x.d.length = n := ⟨_, rfl⟩
  have hd := vT_bd hv
  have HU := Lib.hid (show us.length = 7 ∧ us[6]? = some (.slice A dn c) from by rw [← hus, ← hdn]; exact ⟨rfl, rfl⟩)
  have hnum := fun (i : Nat) (tg : Int) (sz : Nat) (fn : FuncId) (fl : Nat) (h : NumAt i tg sz fn fl) => hdr_num hv h A c
  rw [hus] at hnum ⊢
  have HNM := Lib.hid hnum
  have HCP := Lib.hid (fun w0 (h : SeesP w0 (· < w0.heap.size) A (Us x.d)) => p_copied x.d dn hdn (by omega) A c w0 h)
  have HS := Lib.hid hs
  have HB := Lib.hid (Below.refl w.heap.size w)
  have HDN := Lib.hid hdn
  clear hs hus hdn hd hnum
  go_enter Try.func43, Try.ntmps43
  go_wp2_with (first
    | ((with_reducible refine at_box_ (d := 1) ?_); refine wpList_box_v (op := ⟨some 1, _, _, _, _, _⟩) rfl 27 _ rfl us rfl ?_; intro g1 w1 hf hr; have H1 := Lib.hid (show _ ∧ _ ∧ _ from ⟨hf.bl HB.out, hr, hf.ge HB.out⟩); clear hf hr)
    | ((with_reducible refine at_alloc_ (d := 2) ?_); refine wpList_alloc_v (op := ⟨some 2, _, _, _, _, _⟩) rfl 53 rfl zerN info_n ?_; intro g2 w2 hf hr; have H2 := Lib.hid (show _ ∧ _ ∧ _ ∧ _ ∧ _ from ⟨hf.bl H1.out.1, H1.out.2.1.fresh hf, hr, hf.ge H1.out.1, H1.out.2.1.ne hf⟩); clear hf hr)
    | (go_at_call 50; ((with_reducible refine (p_header _).mono ?_); rintro e w3 ⟨rfl, hb⟩); have H3 := Lib.hid (show _ ∧ _ ∧ _ ∧ _ ∧ _ from ⟨below_on H2.out.1 hb, H2.out.2.1.on hb, H2.out.2.2.1.on hb, H2.out.2.2.2.1, H2.out.2.2.2.2⟩); clear hb))
  obtain ⟨hv2, hhv⟩ : ∃ q, hdrV.toArray = q := ⟨_, rfl⟩
  rw [hhv]
  have HHV := Lib.hid hhv
  clear hhv
  go_loopw [3, 7] (fun vN i wr => ∃ (j : Nat), j ≤ 6 ∧ i = .int .i64 (j : Int) ∧ Hid (HeldN w3 wr vN (flatF ((hdrL x).take j)) ∧ Below w3.heap.size w3 wr)) (fun _ i _ => 6 - (intOf i).toNat)
  case atStart => exact ⟨0, by omega, rfl, Lib.hid ⟨HeldN.start _ _, Below.refl _ _⟩⟩
  case round =>
    obtain ⟨j, hj, rfl, HR⟩ := hrel
    by_cases hlt : j < 6
    · have dj : decide ((j : Int) < 6) = true := by simp; omega
      obtain ⟨tg, sz, fn, fl, hna⟩ := num_at hlt
      obtain ⟨n, hn1, hn2, hn3⟩ := HNM.out _ _ _ _ _ hna
      have hix := hna.ix
      rw [HHV.out] at hix
      have HNA := Lib.hid hna
      have HNX := Lib.hid (show _ ∧ _ from ⟨hn1, hn2⟩)
      have htk := take_next hn3
      obtain ⟨fN, hfN⟩ : ∃ q, flatF ((hdrL x).take j) = q := ⟨_, rfl⟩
      have hfl : fN.len = j := by rw [← hfN, flatF_len, List.length_take]; simp [hdrL]; omega
      rw [hfN] at HR htk
      have HT := Lib.hid htk
      clear hna hn1 hn2 hn3 htk hfN
      go_wp2_with (first
        | ((with_reducible refine at_alloc_ (d := 5) ?_); refine wpList_alloc_v (op := ⟨some 5, _, _, _, _, _⟩) rfl 81 rfl zerM info_m ?_; intro g5 w4 hf hr; have H4 := Lib.hid (show _ ∧ _ from ⟨hf, hr⟩); clear hf hr)
        | ((with_reducible refine at_store_ (i := 5) ?_); refine wpList_store_v rfl 81 (.tmp 5) (.tmp 9) rfl g5 zerM [.int .i64 tg, .int .i64 (sz : Int), fnV fn] rfl rfl H4.out.2 rfl (by intro u hu; simp only [List.mem_cons, List.not_mem_nil, or_false] at hu; rcases hu with rfl | rfl | rfl <;> rfl) size_m ?_; intro w5 hw hr; have hbw := H4.out.1.wr_bl hw; have HNE := Lib.hid (show ∀ g, u3.ownBlock = some g → g ≠ g5 from fun g e => (by obtain ⟨cs, hc1, _⟩ := HR.out.1; have := (own_lt3 hc1 g e).2; have := H4.out.1.1; omega)); have H5 := Lib.hid (show RowV w5 g5 [.int .i64 tg, .int .i64 (sz : Int), fnV fn] ∧ HeldN w3 w5 u3 fN ∧ w3.heap.size ≤ w5.heap.size ∧ Below w3.heap.size w3 w5 ∧ fN.len = j from ⟨hr, HR.out.1.on hbw, (below_on HR.out.2 hbw).size, below_on HR.out.2 hbw, hfl⟩); clear hw hr hbw))
      refine region_facts (by kernel_rfl) _ w5 (fun c => Below w3.heap.size w3 c ∧ RowV c g5 [.int .i64 tg, .int .i64 (sz : Int), fnV fn] ∧ w5.heap.size ≤ c.heap.size) 12 (factL [fun u _ => u = u3, fun u _ => u = .pointer (some ⟨g5, 0, none⟩), fun u _ => u = .int .i64 tg, fun u _ => u = .pointer (some ⟨g5, 2, none⟩), fun u _ => u = fnV fn, fun u _ => u = .pointer (some ⟨g1, fl, none⟩), fun u _ => u = .pointer (some ⟨g1, fl, none⟩), fun u _ => u = .int .i64 (n : Int), fun u _ => u = .pointer (some ⟨g5, 1, none⟩), fun u _ => u = .int .i64 (sz : Int), NodF w5 tg (octL n sz) sz, NodS w5 tg (octL n sz) sz, HelF w3 (fN.app (.cons tg (octL n sz) .nil .nil)), HelF w3 (fN.app (.cons tg (octL n sz) .nil .nil))]) (by kernel_rfl) (firm_list (by simp only [List.forall_mem_cons]; exact ⟨firm_eq _, firm_eq _, firm_eq _, firm_eq _, firm_eq _, firm_eq _, firm_eq _, firm_eq _, firm_eq _, firm_eq _, NodF.firm _ _ _ _, NodS.firm _ _ _ _, HelF.firm _ _, HelF.firm _ _, fun X h => by cases h⟩)) (fun c c' h hb => ⟨below_on h.1 hb, h.2.1.on hb, Nat.le_trans h.2.2 hb.size⟩) (Below.refl _ _) ⟨H5.out.2.2.2.1, H5.out.1, Nat.le_refl _⟩ ?_ ?_
      · refine ops_all (allI.cons ?_ (allI.cons ?_ (allI.cons ?_ (allI.cons ?_ (allI.cons ?_ (allI.cons ?_ (allI.cons ?_ (allI.cons ?_ (allI.cons ?_ (allI.cons ?_ (allI.cons ?_ (allI.cons ?_ (allI.cons ?_ (allI.cons ?_ allI.nil)))))))))))))) <;> intro v S c a hI hw1 hX hSi hdep hS hC
        · exact o_mv _ rfl (hS.before hC hSi 3 rfl) (Step.still rfl)
        · exact o_fa _ (.tmp 5) 0 rfl (hS.old 5 rfl) (fa_m0 g5 _) (Step.still rfl)
        · exact o_ld _ (.tmp 11) rfl ((hS.get 1 (dep_at hdep 1 rfl) rfl rfl).trans (hX 1 (dep_at hdep 1 rfl))) ((hI.2.1.cell 0).trans rfl) ag_i (Step.still rfl)
        · exact o_fa _ (.tmp 5) 2 rfl (hS.old 5 rfl) (fa_m2 g5 _) (Step.still rfl)
        · exact o_ld _ (.tmp 13) rfl ((hS.get 3 (dep_at hdep 3 rfl) rfl rfl).trans (hX 3 (dep_at hdep 3 rfl))) ((hI.2.1.cell 2).trans rfl) ag_f (Step.still rfl)
        · exact o_callV (.tmp 14) fn #[.tmp 1] _ rfl ((hS.get 4 (dep_at hdep 4 rfl) rfl rfl).trans (hX 4 (dep_at hdep 4 rfl))) (ev1 (hS.old 1 rfl)) (HNA.out.enter _ _) (HNA.out.call g1 _) (fun e w2 h => ⟨_, h.1, by rw [← h.2]; exact Step.still rfl⟩)
        · exact o_nil (.tmp 15) rfl ((hS.get 5 (dep_at hdep 5 rfl) rfl rfl).trans (hX 5 (dep_at hdep 5 rfl))) (Step.still rfl)
        · exact o_ld _ (.tmp 16) rfl ((hS.get 6 (dep_at hdep 6 rfl) rfl rfl).trans (hX 6 (dep_at hdep 6 rfl))) (((H3.out.2.1.on hI.1).cell fl).trans HNX.out.1) ag_i (Step.still rfl)
        · exact o_fa _ (.tmp 5) 1 rfl (hS.old 5 rfl) (fa_m1 g5 _) (Step.still rfl)
        · exact o_ld _ (.tmp 18) rfl ((hS.get 8 (dep_at hdep 8 rfl) rfl rfl).trans (hX 8 (dep_at hdep 8 rfl))) ((hI.2.1.cell 1).trans rfl) ag_i (Step.still rfl)
        · refine o_callV (.func 42) 42 #[.tmp 12, .tmp 17, .tmp 19] _ rfl rfl (ev3 ((hS.get 2 (dep_at hdep 2 rfl) rfl rfl).trans (hX 2 (dep_at hdep 2 rfl))) ((hS.get 7 (dep_at hdep 7 rfl) rfl rfl).trans (hX 7 (dep_at hdep 7 rfl))) ((hS.get 9 (dep_at hdep 9 rfl) rfl rfl).trans (hX 9 (dep_at hdep 9 rfl)))) (by kernel_rfl) (p_num_obj tg n sz (by have := HNA.out.small; omega) HNX.out.2 c) (fun e w2 h => ?_)
          obtain ⟨A2, c2, rfl, h2, h3, h4⟩ := h
          exact ⟨_, rfl, Step.new ⟨A2, c2, rfl, h2, h3.imp fun b hb => newB_imp (w := w5) hb hI.2.2 (Nat.le_refl _)⟩ h4⟩
        · obtain ⟨A2, c2, e2, h2, h3⟩ := (hX 10 (dep_at hdep 10 rfl))
          refine o_bsl _ 53 1 _ rfl Try.underlying33 (pe1 ((hS.get 10 (dep_at hdep 10 rfl) rfl rfl).trans e2)) (bs1 _ _ _) ?_
          intro g w2 hf hr
          exact Step.new ⟨A2, c2, g, rfl, ⟨by rw [hf.1]; exact hI.2.2, hr.lt⟩, hr, h2, h3.newOn hf.bw⟩ hf.bw
        · obtain ⟨A2, c2, g, e2, h0, hr, h2, h3⟩ := (hX 11 (dep_at hdep 11 rfl))
          obtain ⟨cs, hc1, hc2⟩ := H5.out.2.1
          have hold := own_lt3 hc1
          have hB := hw1 hSi
          refine wp_append_lies _ (.tmp 10) (.tmp 21) 33 rfl w3.heap.size 53 i0 _ 3 56 Try.underlying33 hi hz0 hz1 hz2 rfl (by decide) u3 fN.len cs ((hS.get 0 (dep_at hdep 0 rfl) rfl rfl).trans (hX 0 (dep_at hdep 0 rfl))) (own3_on hc1 hB) ⟨g, 0, none⟩ 1 1 (nodV tg A2 sz c2 none 0 0) ((hS.get 11 (dep_at hdep 11 rfl) rfl rfl).trans e2) rfl (fun j u hu => ?_) (nodV_one _ _ _ _ _ _ _) (by decide) (by unfold maxLen; omega) (by omega) hI.1.size _ rfl ?_
          · have hj : (⟨g, 0, none⟩ : Addr).add j = ⟨g, j, none⟩ := by unfold Addr.add; split <;> simp_all
            rw [hj, hr.cell]; exact hu
          intro g' cap' w' ho hg hl hlt
          refine Step.turn (HeldN.snoc (wr := w5) (w1 := c) (wa := c) hB (Below.refl _ _) ⟨h2.1, by rw [octL_length]; exact h2.2, Nat.zero_le _⟩ h3 SeesN.nil_ H5.out.2.2.1 cs hc1 hc2 rfl (by rw [octL_length]; exact ho) hg hl) rfl ⟨row_below hI.1 hg fun k e => (hold k e).1, hI.2.1.same (hg.block _ hI.2.1.lt fun e => HNE.out _ e.symm rfl), Nat.le_trans hI.2.2 hg.size⟩ ?_
          intro j hj
          match j, hj with
          | 0, hj => exact hX 0 hj
          | 1, hj => exact hX 1 hj
          | 2, hj => exact hX 2 hj
          | 3, hj => exact hX 3 hj
          | 4, hj => exact hX 4 hj
          | 5, hj => exact hX 5 hj
          | 6, hj => exact hX 6 hj
          | 7, hj => exact hX 7 hj
          | 8, hj => exact hX 8 hj
          | 9, hj => exact hX 9 hj
          | 10, hj => exact NodF.row (hX 10 hj) hg fun k e => (hold k e).2
          | 11, hj => exact NodS.row (hX 11 hj) hg fun k e => (hold k e).2
          | 12, hj => rw [hSi] at hj; cases hj
          | 13, hj =>
            have := dep_at (hC 13 _ rfl hj) 12 rfl
            rw [hSi] at this
            cases this
          | _ + 14, _ => trivial
        · exact o_as _ rfl (hS.get 12 (dep_at hdep 12 rfl) rfl rfl) (Step.still (hX 12 (dep_at hdep 12 rfl)))
      · intro v c hI hX
        simp only [putAll, Act.put]
        simp
        have HE := Lib.hid (show HeldN w3 c (v 13) (flatF ((hdrL x).take (j + 1))) from by rw [HT.out]; exact hX 13 (by decide))
        have HI := Lib.hid hI.1
        clear hI hX
        go_wp2
        go_roundw
        case rel => exact ⟨j + 1, by omega, by first | rfl | go_num, Lib.hid ⟨HE.out, HI.out⟩⟩
        case measure => simp [intOf]; omega
    · obtain rfl : j = 6 := by omega
      obtain ⟨Ah, ch, rfl, hlh, hsh⟩ := HR.out.1.slice
      have e6 : flatF ((hdrL x).take 6) = hdrF x .nil := hdrL_flat x
      have e7 : (flatF ((hdrL x).take 6)).len = 6 := by rw [e6]; rfl
      rw [e7] at hlh ⊢
      rw [e6] at hsh
      have HH := Lib.hid (show _ ∧ _ ∧ _ from ⟨hsh, hlh, HR.out.2⟩)
      have c6 : wr.cell? ⟨g1, 6, none⟩ = some (.slice A dn c) := ((H3.out.2.1.on HR.out.2).cell 6).trans HU.out.2
      clear e6 e7 hlh hsh HR
      go_wp2_with (first
        | (go_at_call 51; ((with_reducible refine (HCP.out _ ((HS.out.on2 H3.out.1).on2 HH.out.2.2)).mono ?_); rintro e w8 ⟨Ad, cd, rfl, h1, h2, hb⟩); have H8 := Lib.hid (show _ ∧ _ ∧ _ from ⟨h1, h2, hb⟩); clear h1 h2 hb)
        | ((with_reducible refine at_any_ (d := 30) ?_); go_must (refine wpList_bslV rfl 33 53 2 _ rfl Try.underlying33 (pe2 rfl rfl) (bs2 _ _ _ _ _ _) ?_); intro g9 w9 hf hr; have H9 := Lib.hid (show _ ∧ _ from ⟨hf, hr⟩); clear hf hr)
        | ((with_reducible refine at_store_ (i := 2) ?_); go_must (refine wpList_store_v rfl 53 (.tmp 2) (.tmp 31) rfl g2 zerN (nodV 32608 none 0 0 (some ⟨g9, 0, none⟩) 2 2) rfl rfl (((H3.out.2.2.1.on HH.out.2.2).on H8.out.2.2).on H9.out.1.bw) rfl (nodV_one _ _ _ _ _ _ _) size_n ?_); intro w10 hw hr; have H10 := Lib.hid (show _ ∧ _ from ⟨hw, hr⟩); clear hw hr))
      have HD : Hid (SeesN w10 (newB w w10) (some ⟨g9, 0, none⟩) (objK x) ∧ Below w.heap.size w w10) := Lib.hid (by
        have hb3 := H3.out.1
        have hb8 := below_on hb3 HH.out.2.2
        have hb9 := below_on (below_on hb8 H8.out.2.2) H9.out.1.bw
        have hg2 : g2 < w3.heap.size := H3.out.2.2.1.lt
        have sw := HH.out.2.2.size
        have h10 : w9.grownBy w10 (some g2) := ⟨H10.out.1.1, H10.out.1.2.1, H10.out.1.2.2.1, Nat.le_of_eq H10.out.1.2.2.2.1.symm, fun k _ hk => H10.out.1.2.2.2.2 k fun e => hk (by rw [e])⟩
        refine ⟨?_, hb9.grown h10 hb9.size (fun k e => by injection e with e; rw [← e]; exact H3.out.2.2.2.1)⟩
        have hk9 : ∀ q : Addr, q.block ≠ g2 → w10.cell? q = w9.cell? q := fun q hq => World.cell?_of_block (H10.out.1.2.2.2.2 _ hq)
        have e10 : w10.heap.size = w9.heap.size := H10.out.1.2.2.2.1
        have hp : ∀ b, newB w3 w9 b → newB w w10 b ∧ b ≠ g2 := fun b hb => ⟨⟨Nat.le_trans hb3.size hb.1, by rw [e10]; exact hb.2⟩, by have := hb.1; omega⟩
        have hkids := (HH.out.1.newOn H8.out.2.2).newOn H9.out.1.bw
        have hdat : SeesP w9 (newB w3 w9) Ad (Us x.d) := (H8.out.2.1.newOn H9.out.1.bw).imp fun b hb => ⟨Nat.le_trans sw hb.1, hb.2⟩
        obtain ⟨ks, k1, k2⟩ := hkids
        have hg9 : newB w3 w9 g9 := ⟨by rw [H9.out.1.1]; exact Nat.le_trans sw H8.out.2.2.size, H9.out.2.lt⟩
        have hf9 : HoldsN w9 (newB w3 w9) (objK x) [.int .i64 161, .slice none 0 0, .slice Ah 6 ch, .int .i64 24366, .slice Ad dn cd, .slice none 0 0] :=
          ⟨none, 0, Ah, ch, ks, _, rfl, ⟨fun _ => rfl, Nat.zero_le _, HH.out.2.1⟩, .inl rfl, k1, k2, Ad, cd, none, 0, [], [], by rw [HDN.out]; rfl, ⟨H8.out.1.1, by rw [HDN.out]; exact H8.out.1.2, Nat.zero_le _⟩, hdat, .inl rfl, rfl, rfl⟩
        have hs9 : SeesN w9 (newB w3 w9) (some ⟨g9, 0, none⟩) (objK x) := ⟨_, .inr ⟨g9, 0, rfl, hg9, fun j hj => by rw [Nat.zero_add, H9.out.2.cell]⟩, hf9⟩
        exact (hs9.keep fun q hq => hk9 q (hp _ hq).2).imp fun b hb => (hp b hb).1)
      exact bodyPost_ret (results_v rfl _ _ g2 (nodV 32608 none 0 0 (some ⟨g9, 0, none⟩) 2 2) _ rfl H10.out.2 Try.underlying53 rfl size_n) rfl ⟨_, 2, rfl, Nat.le_refl _, HD.out.1, HD.out.2⟩
end Go.Proofs.Ytobbnedojmcgoaa
