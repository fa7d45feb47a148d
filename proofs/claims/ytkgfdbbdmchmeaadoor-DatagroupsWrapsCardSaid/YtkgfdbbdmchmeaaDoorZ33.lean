/-
  What is proved here: the file with the list of groups: plain words; Common of the reference.
-/
import Derived.Test.YtkgfdbbdmchmeaaDoorZ32
import Derived.Deep.DeepMust
namespace Go.Proofs.YtkgfdbbdmchmeaaDoor
open Go.RowKit
set_option maxRecDepth 8000
set_option linter.unusedVariables false
set_option linter.unusedSimpArgs false
def coE (last : Int) : List Int → Int
  | [] => 0
  | g :: r => if g < 1 ∨ 16 < g then 3 else if g ≤ last then 17 else coE g r
def tgB (g : Int) : UInt8 := UInt8.ofNat (gtV g).toNat
def t0108 : List UInt8 := [48, 49, 48, 56]
def t0400 : List UInt8 := [48, 52, 48, 48, 48, 48]
def coF (l : List Int) : F := .cons 24321 t0108 .nil (.cons 24374 t0400 .nil (.cons 92 (l.map tgB) .nil .nil))
def cmE (l : List Int) : Int := if coE 0 l = 0 then wrE 17 (coF l) else coE 0 l
def cmB (l : List Int) : List UInt8 := if coE 0 l = 0 then wrB 17 (coF l) else []
theorem coE_at {o : List Int} {j : Nat} {g : Int} (h : o[j]? = some g) (last : Int) : coE last (o.drop j) = if g < 1 ∨ 16 < g then 3 else if g ≤ last then 17 else coE g (o.drop (j + 1)) := by
  have hj : j < o.length := (List.getElem?_eq_some_iff.1 h).1
  have e : o.drop j = g :: o.drop (j + 1) := by
    rw [List.drop_eq_getElem_cons hj]
    rw [List.getElem?_eq_getElem hj] at h
    injection h with h
    rw [h]
  rw [e]
  rfl
theorem map_snoc {o : List Int} {j : Nat} {g : Int} (h : o[j]? = some g) : (o.take (j + 1)).map tgB = (o.take j).map tgB ++ [tgB g] := by
  rw [List.take_add_one, h]
  simp
theorem pvv3 {a : Act} {x0 x1 x2 : Operand} {u0 u1 u2 : Value} (h0 : a.eval x0 = u0) (h1 : a.eval x1 = u1) (h2 : a.eval x2 = u2) : ((#[(0, x0), (1, x1), (2, x2)] : Array (Nat × Operand)).map fun (i, x) => (i, a.eval x)).toList = [(0, u0), (1, u1), (2, u2)] := by simp [h0, h1, h2]
theorem pvv4 {a : Act} {x0 x1 x2 x3 : Operand} {u0 u1 u2 u3 : Value} (h0 : a.eval x0 = u0) (h1 : a.eval x1 = u1) (h2 : a.eval x2 = u2) (h3 : a.eval x3 = u3) : ((#[(0, x0), (1, x1), (2, x2), (3, x3)] : Array (Nat × Operand)).map fun (i, x) => (i, a.eval x)).toList = [(0, u0), (1, u1), (2, u2), (3, u3)] := by simp [h0, h1, h2, h3]
theorem pvv6 {a : Act} {x0 x1 x2 x3 x4 x5 : Operand} {u0 u1 u2 u3 u4 u5 : Value} (h0 : a.eval x0 = u0) (h1 : a.eval x1 = u1) (h2 : a.eval x2 = u2) (h3 : a.eval x3 = u3) (h4 : a.eval x4 = u4) (h5 : a.eval x5 = u5) : ((#[(0, x0), (1, x1), (2, x2), (3, x3), (4, x4), (5, x5)] : Array (Nat × Operand)).map fun (i, x) => (i, a.eval x)).toList = [(0, u0), (1, u1), (2, u2), (3, u3), (4, u4), (5, u5)] := by simp [h0, h1, h2, h3, h4, h5]
theorem bs0108 : Tryd.prog.builtSlice 5 4 [(0, .int .u8 48), (1, .int .u8 49), (2, .int .u8 48), (3, .int .u8 56)] = some (Us t0108).toArray := by kernel_rfl
theorem bs0400 : Tryd.prog.builtSlice 5 6 [(0, .int .u8 48), (1, .int .u8 52), (2, .int .u8 48), (3, .int .u8 48), (4, .int .u8 48), (5, .int .u8 48)] = some (Us t0400).toArray := by kernel_rfl
theorem bs3n (a1 a2 a3 b1 b2 b3 c1 c2 c3 : Value) : Tryd.prog.builtSlice 50 3 [(0, .agg #[a1, a2, a3]), (1, .agg #[b1, b2, b3]), (2, .agg #[c1, c2, c3])] = some #[a1, a2, a3, b1, b2, b3, c1, c2, c3] := by kernel_rfl
theorem int_atV {w : World} {p : Nat → Prop} {A : Option Addr} {o : List Int} {j : Nat} {q : Int} (h : SeesP w p A (o.map (Value.int .i64))) (hq : o[j]? = some q) : ∃ b off, A = some ⟨b, off, none⟩ ∧ p b ∧ w.cell? ⟨b, off + j, none⟩ = some (.int .i64 q) := by
  have hj : j < o.length := (List.getElem?_eq_some_iff.1 hq).1
  rcases h with h | ⟨b, off, rfl, hp, hc⟩
  · have := congrArg List.length h
    simp at this
    rw [this] at hj
    simp at hj
  · refine ⟨b, off, rfl, hp, ?_⟩
    rw [hc j (by simpa using hj), List.getElem?_map, hq]
    rfl
theorem low_newB {w w' : World} : ∀ b, newB w w' b → b < w'.heap.size := fun b h => And.right (show w.heap.size ≤ b ∧ b < w'.heap.size from h)
def HeldB (w cur : World) (v : Value) (l : List UInt8) : Prop := cur.ownsRow w.heap.size 5 1 v l.length (Us l)
theorem HeldB.start (w : World) : HeldB w w (.slice none 0 0) [] := World.ownsRow_nil w _ _ 1
theorem HeldB.on {w a b : World} {v : Value} {l : List UInt8} (h : HeldB w a v l) (hb : Below a.heap.size a b) : HeldB w b v l := own3_on h hb
section
variable {P : Program} {ops : Array Oper} {rest : List Oper} {o : Oper} {a : Act} {w : World} {Q : Exit → Act → World → Prop}
theorem wpList_cvP (hgd : o.guard = none) (T1 T2 : TypeId) (x : Operand) (ho : o.op = .convert T1 T2 x) {v vx : Value} (hx : a.eval x = vx) (hr : (convert T1 T2 vx).run P w = .ok v w) (hK : wpList P ops Q rest (a.put o.dst v) w) : wpList P ops Q (o :: rest) a w :=
  wpList_plain hgd fun _ hK2 => o_cv T1 T2 x ho hx hr (hK2 _ _ hK)
end
theorem freeze_row {w : World} {g k : Nat} {vs : List Value} (h : RowV w g vs) : Wr w (w.freeze ⟨g, k, none⟩ 1) g ∧ ∀ j, (w.freeze ⟨g, k, none⟩ 1).cell? ⟨g, j, none⟩ = vs[j]? := by
  obtain ⟨ty, h⟩ := h
  unfold World.freeze
  rw [if_neg (by decide)]
  refine ⟨⟨rfl, rfl, rfl, by simp, fun q hq => ?_⟩, fun j => ?_⟩
  · show (w.heap.modify g _)[q]? = w.heap[q]?
    rw [Array.getElem?_modify, if_neg (fun e => hq e.symm)]
  · unfold World.cell?
    show (match (w.heap.modify g _)[g]? with | some (.cells c _ _) => _ | _ => none) = _
    rw [Array.getElem?_modify, if_pos rfl, h]
    simp
theorem wpList_bytes {ops : Array Oper} {rest : List Oper} {o : Oper} {a : Act} {w : World} {Q : Exit → Act → World → Prop} (hgd : o.guard = none) (x : Operand) (ho : o.op = .convert 35 35 x) (g n : Nat) (hx : a.eval x = .slice (some ⟨g, 0, none⟩) n n) {l : List UInt8} (hr : RowV w g (Us l))
    (hK : ∀ w', Wr w w' g → SeesP w' (fun b => b = g) (some ⟨g, 0, none⟩) (Us l) → wpList Tryd.prog ops Q rest (a.put o.dst (.slice (some ⟨g, 0, none⟩) n n)) w') : wpList Tryd.prog ops Q (o :: rest) a w := by
  obtain ⟨ty, hh⟩ := id hr
  have hsh : w.shape? g = some (ty, (Us l).toArray.size) := by unfold World.shape?; rw [hh]
  have hrun : (convert 35 35 (.slice (some ⟨g, 0, none⟩) n n)).run Tryd.prog w = .ok (.slice (some ⟨g, 0, none⟩) n n) (w.freeze ⟨g, (Us l).toArray.size, none⟩ 1) := by
    simp [convert, run_underlying Tryd.underlying35, run_underlying Tryd.underlying5, markStringish, hsh]
  obtain ⟨h1, h2⟩ := freeze_row (k := (Us l).toArray.size) hr
  refine wpList_plain hgd fun K hK2 => ?_
  unfold Oper.wp execOp
  simp only [ho, hx]
  rw [Sem.run_bind, hrun]
  exact hK2 _ _ (hK _ h1 (.inr ⟨g, 0, rfl, rfl, fun j hj => by rw [Nat.zero_add]; exact h2 j⟩))
theorem three_sees {w : World} {g : Nat} {t1 t2 t3 : Int} {v1 v2 v3 : List UInt8} {A1 A2 A3 : Option Addr} {c1 c2 c3 n1 n2 n3 : Nat} (e1 : v1.length = n1) (e2 : v2.length = n2) (e3 : v3.length = n3)
    (hr : RowV w g [.int .i64 t1, .slice A1 n1 c1, .slice none 0 0, .int .i64 t2, .slice A2 n2 c2, .slice none 0 0, .int .i64 t3, .slice A3 n3 c3, .slice none 0 0])
    (h1 : SeesP w (· < w.heap.size) A1 (Us v1) ∧ (A1 = none → c1 = 0) ∧ n1 ≤ c1) (h2 : SeesP w (· < w.heap.size) A2 (Us v2) ∧ (A2 = none → c2 = 0) ∧ n2 ≤ c2) (h3 : SeesP w (· < w.heap.size) A3 (Us v3) ∧ (A3 = none → c3 = 0) ∧ n3 ≤ c3) :
    SeesQ w (· < w.heap.size) (some ⟨g, 0, none⟩) (.cons t1 v1 .nil (.cons t2 v2 .nil (.cons t3 v3 .nil .nil))) := by
  subst e1 e2 e3
  refine ⟨_, .inr ⟨g, 0, rfl, hr.lt, fun j hj => by rw [Nat.zero_add]; exact hr.cell j⟩, A1, c1, none, 0, [], [.int .i64 t2, .slice A2 v2.length c2, .slice none 0 0, .int .i64 t3, .slice A3 v3.length c3, .slice none 0 0], rfl, ⟨h1.2.1, fun _ => h1.2.2⟩, h1.1, .inl rfl, rfl, ?_⟩
  refine ⟨A2, c2, none, 0, [], [.int .i64 t3, .slice A3 v3.length c3, .slice none 0 0], rfl, ⟨h2.2.1, fun _ => h2.2.2⟩, h2.1, .inl rfl, rfl, ?_⟩
  exact ⟨A3, c3, none, 0, [], [], rfl, ⟨h3.2.1, fun _ => h3.2.2⟩, h3.1, .inl rfl, rfl, rfl⟩
theorem coF_ok (o : List Int) (h : o.length ≤ 16) : (coF o).ok := ⟨by decide, by decide, trivial, by decide, by decide, trivial, by decide, by rw [List.length_map]; omega, trivial, trivial⟩
theorem coF_sq (o : List Int) (h : o.length ≤ 16) : (coF o).sq := ⟨by decide, trivial, by decide, trivial, by rw [List.length_map]; omega, trivial, trivial⟩
theorem coF_size (o : List Int) : (coF o).size = 3 := rfl
set_option maxHeartbeats 3200000 in
set_option maxRecDepth 20000 in
theorem r_common (o : List Int) (n : Nat) (hn : o.length = n) (hm : n ≤ 140737488351232) (A : Option Addr) (c : Nat) (w : World) (ht : TabG w) (hs : SeesP w (· < w.heap.size) A (o.map (Value.int .i64))) :
    Calls Tryd.prog 18 #[.slice A n c] w (GivesZ w (cmB o) (cmE o)) := by
  obtain ⟨i0, hi, hz0, hz1, hz2⟩ := info_parts info_u8b
  have HT := Lib.hid ht
  have HS := Lib.hid (show _ ∧ _ from ⟨hs, hn⟩)
  have HG := Lib.hid (show ∀ x, coE 0 o = x → x ≠ 0 → ∀ u, Below w.heap.size w u → GivesZ w (cmB o) (cmE o) (.returned (.tuple #[.slice none 0 0, .int .i64 x])) u from fun x hx h0 u hb => by
    unfold cmB cmE
    rw [hx, if_neg h0, if_neg h0]
    exact ⟨none, 0, rfl, .inl rfl, hb, Nat.le_refl _, fun _ => rfl⟩)
  clear hs hn ht
  go_enter Tryd.func18, Tryd.ntmps18
  go_wp2_with fail
  go_loopw [4, 5, 6] (fun v la i wr => ∃ (j : Nat) (lv : Int), j ≤ n ∧ i = .int .i64 (j : Int) ∧ la = .int .i64 lv ∧ Hid (HeldB w wr v ((o.take j).map tgB) ∧ Below w.heap.size w wr ∧ coE 0 o = coE lv (o.drop j) ∧ (j : Int) ≤ lv ∧ lv ≤ 16)) (fun _ _ i _ => n - (intOf i).toNat)
  case atStart => exact ⟨0, 0, by omega, rfl, rfl, Lib.hid ⟨HeldB.start w, Below.refl _ _, rfl, by omega, by omega⟩⟩
  case round =>
    obtain ⟨j, lv, hj, rfl, rfl, HR⟩ := hrel
    by_cases hlt : j < n
    · have dj : decide ((j : Int) < (n : Int)) = true := by simp; omega
      obtain ⟨g, hg⟩ : ∃ g, o[j]? = some g := ⟨_, List.getElem?_eq_getElem (by rw [HS.out.2]; exact hlt)⟩
      obtain ⟨b, off, rfl, hb, hc⟩ := int_atV HS.out.1 hg
      have c1 : wr.cell? ⟨b, off + j, none⟩ = some (.int .i64 g) := (HR.out.2.1.cell hb).trans hc
      have hst := coE_at hg lv
      rw [← HR.out.2.2.1] at hst
      have hmap := map_snoc hg
      clear hb hc hg
      by_cases h1 : g < 1
      · have d1 : decide (g < 1) = true := by simpa using h1
        rw [if_pos (.inl h1)] at hst
        have HD := Lib.hid (HG.out 3 hst (by decide) _ HR.out.2.1)
        clear hst hmap h1
        go_wp2_with fail
        go_ret2
        exact HD.out
      have d1 : decide (g < 1) = false := by simpa using h1
      by_cases h2 : 16 < g
      · have d2 : decide (16 < g) = true := by simpa using h2
        rw [if_pos (.inr h2)] at hst
        have HD := Lib.hid (HG.out 3 hst (by decide) _ HR.out.2.1)
        clear hst hmap h1 h2
        go_wp2_with fail
        go_ret2
        exact HD.out
      have d2 : decide (16 < g) = false := by simpa using h2
      rw [if_neg (by omega)] at hst
      by_cases h3 : g ≤ lv
      · have d3 : decide (g ≤ lv) = true := by simpa using h3
        rw [if_pos h3] at hst
        have HD := Lib.hid (HG.out 17 hst (by decide) _ HR.out.2.1)
        clear hst hmap h1 h2 h3
        go_wp2_with fail
        go_ret2
        exact HD.out
      have d3 : decide (g ≤ lv) = false := by simpa using h3
      rw [if_neg h3] at hst
      obtain ⟨k, hk⟩ : ∃ k : Nat, g = (k : Int) + 1 := ⟨(g - 1).toNat, by omega⟩
      have hk18 : k < 18 := by omega
      have hgt := (gt_yes hk hk18).1
      have hbd := tagsG_bd k hk18
      obtain ⟨zn, hzn⟩ : ∃ zn : Nat, tagsG.getD k 0 = (zn : Int) := ⟨(tagsG.getD k 0).toNat, by omega⟩
      have c0 := (HT.out.on HR.out.2.1).2 k hk18
      rw [hzn] at c0 hgt
      have htb : tgB g = UInt8.ofNat zn := by unfold tgB; rw [hgt]; rfl
      rw [htb] at hmap
      obtain ⟨M, hM⟩ : ∃ z, (o.take j).map tgB = z := ⟨_, rfl⟩
      have hMl : M.length = j := by rw [← hM, List.length_map, List.length_take, HS.out.2]; omega
      rw [hM] at HR hmap
      have HN := Lib.hid (show M.length = j ∧ j ≤ 16 from ⟨hMl, by have := HR.out.2.2.2; omega⟩)
      have HST := Lib.hid (show (o.take (j + 1)).map tgB = M ++ [UInt8.ofNat zn] ∧ coE 0 o = coE g (o.drop (j + 1)) ∧ ((j + 1 : Nat) : Int) ≤ g ∧ g ≤ 16 from ⟨hmap, hst, by have := HR.out.2.2.2; omega, by omega⟩)
      have es : wrap64 (g - 1) = (k : Int) := by unfold wrap64; omega
      have dk : decide ((k : Int) < 18) = true := by simp; omega
      clear hst hmap h1 h2 h3 hk hgt hbd hzn htb hM hMl
      go_wp2_with (first
        | ((with_reducible refine at_any_ (d := 40) ?_); go_must (refine wpList_cvP rfl 3 5 (.tmp 39) rfl rfl (cv_u8 zn _) ?_))
        | ((with_reducible refine at_any_ (d := 41) ?_); go_must (refine wpList_bslV rfl 35 5 1 _ rfl Tryd.underlying35 (pe1 rfl) (bsu1 _) ?_); intro g9 wf hf hr; have H9 := Lib.hid (show Below wr.heap.size wr wf ∧ RowV wf g9 (Us [UInt8.ofNat zn]) from ⟨hf.bw, hr⟩); clear hf hr)
        | ((with_reducible refine at_call_ (d := 42) ?_); have HO := HR.out.1; unfold HeldB at HO; rw [HN.out.1] at HO; go_must (refine wpList_append_lies _ rfl (.tmp 35) (.tmp 41) 35 rfl w.heap.size 5 i0 _ 1 1 Tryd.underlying35 hi hz0 hz1 hz2 rfl (by decide) u4 j (Us M) rfl (own3_on HO H9.out.1) ⟨g9, 0, none⟩ 1 1 (Us [UInt8.ofNat zn]) rfl rfl (RowV.src H9.out.2) (Us_one _) (by decide) (by have := HN.out.2; unfold maxLen; omega) (by have := HN.out.2; omega) (Nat.le_trans HR.out.2.1.size H9.out.1.size) _ rfl ?_); intro g10 c10 wg ho hg hl hltg; have H10 := Lib.hid (show HeldB w wg (.slice (some ⟨g10, 0, none⟩) (j + 1) c10) (M ++ [UInt8.ofNat zn]) ∧ Below w.heap.size w wg from ⟨by unfold HeldB; rw [Us_append, List.length_append, HN.out.1]; exact ho, row_below (below_on HR.out.2.1 H9.out.1) hg fun k e => (own_lt3 HO k e).1⟩); clear ho hg hl hltg HO))
      go_roundw
      case rel => exact ⟨j + 1, g, by omega, by first | rfl | go_num, rfl, Lib.hid ⟨by rw [HST.out.1]; exact H10.out.1, H10.out.2, HST.out.2⟩⟩
      case measure => simp [intOf]; omega
    · obtain rfl : j = n := by omega
      have dj : decide ((j : Int) < (j : Int)) = false := by simp
      have hh := HR.out.1
      rw [List.take_of_length_le (by rw [HS.out.2]; exact Nat.le_refl _)] at hh
      unfold HeldB at hh
      rw [List.length_map, HS.out.2] at hh
      obtain ⟨A3, c3, hv, hc3, hs3⟩ := own_newB hh
      subst hv
      have h0 : coE 0 o = 0 := by
        rw [HR.out.2.2.1, List.drop_eq_nil_of_le (by rw [HS.out.2]; exact Nat.le_refl _)]
        rfl
      have hj16 : j ≤ 16 := by have := HR.out.2.2.2; omega
      have HB := Lib.hid (show Below w.heap.size w wr ∧ SeesP wr (· < wr.heap.size) A3 (Us (o.map tgB)) ∧ (A3 = none → c3 = 0) ∧ j ≤ c3 from ⟨HR.out.2.1, hs3.imp low_newB, hc3⟩)
      have HL := Lib.hid (show (o.map tgB).length = j ∧ j ≤ 16 from ⟨by rw [List.length_map]; exact HS.out.2, hj16⟩)
      have HWR := Lib.hid (show ∀ (X : Option Addr) (cx : Nat) (u : World), Below w.heap.size w u → SeesQ u (· < u.heap.size) X (coF o) → Calls Tryd.prog 16 #[.int .i64 17, .slice X 3 cx] u (GivesZ u (cmB o) (cmE o)) from fun X cx u hb hx => by
        have e1 : cmB o = wrB 17 (coF o) := by unfold cmB; rw [if_pos h0]
        have e2 : cmE o = wrE 17 (coF o) := by unfold cmE; rw [if_pos h0]
        rw [e1, e2]
        exact r_wrap 17 (coF o) 3 rfl X cx u (HT.out.on hb) (by decide) (by decide) (by rw [coF_size]; decide) (coF_ok o (by rw [HS.out.2]; exact hj16)) (coF_sq o (by rw [HS.out.2]; exact hj16)) hx)
      have HTH := Lib.hid (fun (u : World) (g : Nat) (A1 A2 A3 : Option Addr) (c1 c2 c3 : Nat) => three_sees (w := u) (g := g) (t1 := 24321) (t2 := 24374) (t3 := 92) (v1 := t0108) (v2 := t0400) (v3 := o.map tgB) (A1 := A1) (A2 := A2) (A3 := A3) (c1 := c1) (c2 := c2) (c3 := c3) (n1 := 4) (n2 := 6) (n3 := j) rfl rfl HL.out.1)
      obtain ⟨bs, hbs⟩ : ∃ z, cmB o = z := ⟨_, rfl⟩
      obtain ⟨er, her⟩ : ∃ z, cmE o = z := ⟨_, rfl⟩
      rw [hbs, her] at HWR
      have HBE := Lib.hid (show cmB o = bs ∧ cmE o = er from ⟨hbs, her⟩)
      have HF : Hid (coF o = .cons 24321 t0108 .nil (.cons 24374 t0400 .nil (.cons 92 (o.map tgB) .nil .nil))) := Lib.hid rfl
      obtain ⟨W, hW⟩ : ∃ z, coF o = z := ⟨_, rfl⟩
      rw [hW] at HWR HF
      obtain ⟨L3, hL3⟩ : ∃ z, o.map tgB = z := ⟨_, rfl⟩
      rw [hL3] at HB HL HF HTH
      clear hh hs3 hc3 h0 hj16 HR hbs her hW hL3 HG
      go_wp2_with (first
        | ((with_reducible refine at_any_ (d := 43) ?_); go_must (refine wpList_bslV rfl 35 5 4 _ rfl Tryd.underlying35 (pvv4 rfl rfl rfl rfl) bs0108 ?_); intro g1 wa hf hr; have Ha := Lib.hid (show Below wr.heap.size wr wa ∧ RowV wa g1 (Us t0108) ∧ wr.heap.size ≤ g1 from ⟨hf.bw, hr, Nat.le_of_eq hf.1.symm⟩); clear hf hr)
        | (go_at_call 33; ((with_reducible refine (r_prim 24321 t0108 4 rfl (by decide) _ 4 (fun h => by cases h) _ H1.out.2).mono ?_); rintro e w2 ⟨A1, c1, rfl, hc, hs, hb⟩); have H2 := Lib.hid (show Below wr.heap.size wr w2 ∧ SeesP w2 (· < w2.heap.size) A1 (Us t0108) ∧ (A1 = none → c1 = 0) ∧ 4 ≤ c1 from ⟨below_on H1.out.1 hb, hs.imp low_newB, hc⟩); clear hc hs hb)
        | ((with_reducible refine at_any_ (d := 44) ?_); go_must (refine wpList_bytes rfl (.tmp 43) rfl g1 4 rfl Ha.out.2.1 ?_); intro w1 hw hs; have H1 := Lib.hid (show Below wr.heap.size wr w1 ∧ SeesP w1 (· < w1.heap.size) (some ⟨g1, 0, none⟩) (Us t0108) from ⟨Wr.bl Ha.out.1 hw Ha.out.2.2, hs.imp fun b hb => by subst hb; rw [hw.2.2.2.1]; exact Ha.out.2.1.lt⟩); clear hw hs)
        | ((with_reducible refine at_any_ (d := 47) ?_); go_must (refine wpList_bytes rfl (.tmp 46) rfl g3 6 rfl Hc.out.2.2.1 ?_); intro w3 hw hs; have H3 := Lib.hid (show Below wr.heap.size wr w3 ∧ SeesP w3 (· < w3.heap.size) A1 (Us t0108) ∧ SeesP w3 (· < w3.heap.size) (some ⟨g3, 0, none⟩) (Us t0400) from ⟨Wr.bl Hc.out.1 hw Hc.out.2.2.2, SeesP.on2 H2.out.2.1 (Wr.bl HFw.out hw HFc.out), hs.imp fun b hb => by subst hb; rw [hw.2.2.2.1]; exact Hc.out.2.2.1.lt⟩); clear hw hs)
        | ((with_reducible refine at_any_ (d := 46) ?_); go_must (refine wpList_bslV rfl 35 5 6 _ rfl Tryd.underlying35 (pvv6 rfl rfl rfl rfl rfl rfl) bs0400 ?_); intro g3 wc hf hr; have Hc := Lib.hid (show Below wr.heap.size wr wc ∧ SeesP wc (· < wc.heap.size) A1 (Us t0108) ∧ RowV wc g3 (Us t0400) ∧ wr.heap.size ≤ g3 from ⟨below_on H2.out.1 hf.bw, SeesP.on2 H2.out.2.1 hf.bw, hr, Nat.le_trans H2.out.1.size (Nat.le_of_eq hf.1.symm)⟩); have HFc := Lib.hid (show w2.heap.size ≤ g3 from Nat.le_of_eq hf.1.symm); have HFw := Lib.hid (show Below w2.heap.size w2 wc from hf.bw); clear hf hr)
        | (go_at_call 33; ((with_reducible refine (r_prim 24374 t0400 6 rfl (by decide) _ 6 (fun h => by cases h) _ H3.out.2.2).mono ?_); rintro e w4 ⟨A2, c2, rfl, hc, hs, hb⟩); have H4 := Lib.hid (show Below wr.heap.size wr w4 ∧ SeesP w4 (· < w4.heap.size) A1 (Us t0108) ∧ SeesP w4 (· < w4.heap.size) A2 (Us t0400) ∧ (A2 = none → c2 = 0) ∧ 6 ≤ c2 from ⟨below_on H3.out.1 hb, SeesP.on2 H3.out.2.1 hb, hs.imp low_newB, hc⟩); clear hc hs hb)
        | (go_at_call 33; ((with_reducible refine (r_prim 92 L3 j HL.out.1 (by have := HL.out.2; omega) A3 c3 HB.out.2.2.1 _ (SeesP.on2 HB.out.2.1 H4.out.1)).mono ?_); rintro e w5 ⟨A5, c5, rfl, hc, hs, hb⟩); have H5 := Lib.hid (show Below wr.heap.size wr w5 ∧ SeesP w5 (· < w5.heap.size) A1 (Us t0108) ∧ SeesP w5 (· < w5.heap.size) A2 (Us t0400) ∧ SeesP w5 (· < w5.heap.size) A5 (Us L3) ∧ (A5 = none → c5 = 0) ∧ j ≤ c5 from ⟨below_on H4.out.1 hb, SeesP.on2 H4.out.2.1 hb, SeesP.on2 H4.out.2.2.1 hb, hs.imp low_newB, hc⟩); clear hc hs hb)
        | ((with_reducible refine at_any_ (d := 51) ?_); go_must (refine wpList_bslV rfl 31 50 3 _ rfl Tryd.underlying31 (pvv3 rfl rfl rfl) (bs3n _ _ _ _ _ _ _ _ _) ?_); intro g6 w6 hf hr; have H6 := Lib.hid (show Below w.heap.size w w6 ∧ SeesQ w6 (· < w6.heap.size) (some ⟨g6, 0, none⟩) W from ⟨below_on HB.out.1 (below_on H5.out.1 hf.bw), (by rw [HF.out]; exact HTH.out w6 g6 A1 A2 A5 c1 c2 c5 hr ⟨SeesP.on2 H5.out.2.1 hf.bw, H2.out.2.2⟩ ⟨SeesP.on2 H5.out.2.2.1 hf.bw, H4.out.2.2.2⟩ ⟨SeesP.on2 H5.out.2.2.2.1 hf.bw, H5.out.2.2.2.2⟩)⟩); clear hf hr)
        | (go_at_call 16; ((with_reducible refine (HWR.out _ _ _ H6.out.1 H6.out.2).mono ?_); rintro e w7 ⟨A7, c7, rfl, h1, h2, h3⟩); have H7 := Lib.hid (show _ ∧ _ ∧ _ from ⟨h1, h2, h3⟩); clear h1 h2 h3))
      have HD := Lib.hid (show GivesZ w (cmB o) (cmE o) (.returned (.tuple #[.slice A7 bs.length c7, .int .i64 er])) w7 from by
        rw [HBE.out.1, HBE.out.2]
        exact ⟨A7, c7, rfl, H7.out.1.imp fun b hb => ⟨Nat.le_trans H6.out.1.size hb.1, hb.2⟩, below_on H6.out.1 H7.out.2.1, H7.out.2.2⟩)
      go_ret2
      exact HD.out
end Go.Proofs.YtkgfdbbdmchmeaaDoor
