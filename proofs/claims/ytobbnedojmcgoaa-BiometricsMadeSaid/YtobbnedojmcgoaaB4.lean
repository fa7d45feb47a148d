/-
  What is proved here: which templates may be used, by the program and by the reference; whether two lists of numbers are equal.
-/
import Derived.Test.YtobbnedojmcgoaaB3
import Derived.Deep.DeepMust
namespace Go.Proofs.Ytobbnedojmcgoaa
open Go.RowKit
set_option linter.unusedVariables false
set_option linter.unusedSimpArgs false

theorem info_int : (Try.prog.info? 3).map (fun i => (i.zero, i.size, i.bytes)) = some (some (.int .i64 0), 1, 8) := by kernel_rfl
def useB (x : Tm) (k day : Int) : Bool := (decide (x.k = k) && decide (x.f ≤ day)) && (decide (day ≤ x.t) && decide (vT x = 0))
def useTo (l : List Tm) (k day : Int) (j : Nat) : List Int := ((List.range j).filter fun i => useB (l.getD i default) k day).map (fun i : Nat => (i : Int))
def useL (l : List Tm) (k day : Int) : List Int := useTo l k day l.length
theorem useTo_len (l : List Tm) (k day : Int) (j : Nat) : (useTo l k day j).length ≤ j := by
  have h := List.length_filter_le (fun i => useB (l.getD i default) k day) (List.range j)
  rw [List.length_range] at h
  unfold useTo
  rwa [List.length_map]
theorem useTo_no {l : List Tm} {k day : Int} {j : Nat} {x : Tm} (hx : l[j]? = some x) (h : useB x k day = false) : useTo l k day (j + 1) = useTo l k day j := by
  unfold useTo
  rw [List.range_succ, List.filter_append]
  have : l[j]?.getD default = x := by simp [hx]
  simp [List.filter_cons, this, h]
theorem useTo_yes {l : List Tm} {k day : Int} {j : Nat} {x : Tm} (hx : l[j]? = some x) (h : useB x k day = true) : useTo l k day (j + 1) = useTo l k day j ++ [(j : Int)] := by
  unfold useTo
  rw [List.range_succ, List.filter_append]
  have : l[j]?.getD default = x := by simp [hx]
  simp [List.filter_cons, this, h]
/-- the numbers as memory holds them -/
def Is (l : List Int) : List Value := l.map (Value.int .i64)
theorem Is_len (l : List Int) : (Is l).length = l.length := by simp [Is]
theorem Is_snoc (l : List Int) (x : Int) : Is (l ++ [x]) = Is l ++ [Value.int .i64 x] := by simp [Is]
theorem one_i (z : Int) : ∀ u ∈ [Value.int .i64 z], u.oneCell' = true := by
  intro u hu
  simp at hu
  subst hu
  rfl
/-- the row v of numbers that is built -/
def IntR (w : World) (A : Option Addr) (m c : Nat) (l : List Int) (cur : World) : Prop := cur.ownsRow w.heap.size 3 1 (.slice A m c) m (Is l) ∧ Below w.heap.size w cur
theorem IntR.start (w : World) : IntR w none 0 0 [] w := ⟨World.ownsRow_nil w _ _ 1, Below.refl _ _⟩
theorem IntR.on {w cur cur' : World} {A : Option Addr} {m c : Nat} {l : List Int} (h : IntR w A m c l cur) (hb : Below cur.heap.size cur cur') : IntR w A m c l cur' := ⟨own3_on h.1 hb, below_on h.2 hb⟩
theorem IntR.push {w cur cur' : World} {A A3 : Option Addr} {m c c3 n3 : Nat} {l : List Int} {x : Int} {ob : Obj} (h : IntR w A m c l cur) (h1 : cur'.ownsRow w.heap.size 3 1 (.slice A3 n3 c3) n3 (Is l ++ [Value.int .i64 x])) (h2 : (cur.alloc ob).grownBy cur' (Value.slice A m c).ownBlock) : IntR w A3 n3 c3 (l ++ [x]) cur' :=
  ⟨by rw [Is_snoc]; exact h1, (below_on h.2 (below_al1 cur ob)).grown h2 (below_on h.2 (below_al1 cur ob)).size (fun k e => (own_lt3 h.1 k e).1)⟩
theorem IntR.sees {w cur : World} {A : Option Addr} {m c : Nat} {l : List Int} (h : IntR w A m c l cur) : SeesP cur (· < cur.heap.size) A (Is l) ∧ l.length = m := by
  obtain ⟨h1, h2⟩ := h
  refine ⟨?_, by have := h1.1; simpa [Is_len] using this⟩
  rcases h1.2 with ⟨h0, hn⟩ | ⟨g, cap, cur2, hv, hg, hh, hn, hm, hs, ht⟩
  · left
    have := h1.1
    rw [hn] at this
    exact List.eq_nil_of_length_eq_zero (by simpa using this)
  · injection hv with hv
    refine .inr ⟨g, 0, hv, lt_of_block hh, fun j hj => ?_⟩
    have hl := h1.1
    rw [Nat.zero_add, cell_of_row cur g j cur2 _ (0, 0) hh, ← ht, List.getElem?_take, if_pos (by omega), Array.getElem?_toList]
def UseIs (l : List Int) (w : World) (e : Ending) (w' : World) : Prop := ∃ A c, e = .returned (.slice A l.length c) ∧ SeesP w' (· < w'.heap.size) A (Is l) ∧ Below w.heap.size w w'
theorem IntR.done {w cur : World} {A : Option Addr} {m c : Nat} {l : List Int} (h : IntR w A m c l cur) : UseIs l w (.returned (.slice A m c)) cur := by
  obtain ⟨h1, h2⟩ := h.sees
  exact ⟨A, c, by rw [h2], h1, h.2⟩
theorem use_cases (x : Tm) (k day v : Int) (hv : vT x = v) :
    ((x.k == k) = false ∧ useB x k day = false) ∨ ((x.k == k) = true ∧ decide (x.f ≤ day) = false ∧ useB x k day = false) ∨ ((x.k == k) = true ∧ decide (x.f ≤ day) = true ∧ decide (day ≤ x.t) = false ∧ useB x k day = false) ∨
    ((x.k == k) = true ∧ decide (x.f ≤ day) = true ∧ decide (day ≤ x.t) = true ∧ (v == 0) = false ∧ useB x k day = false) ∨ ((x.k == k) = true ∧ decide (x.f ≤ day) = true ∧ decide (day ≤ x.t) = true ∧ (v == 0) = true ∧ useB x k day = true) := by
  subst hv
  unfold useB
  by_cases h1 : x.k = k
  · by_cases h2 : x.f ≤ day
    · by_cases h3 : day ≤ x.t
      · by_cases h4 : vT x = 0 <;> simp [h1, h2, h3, h4]
      · simp [h1, h2, h3]
    · simp [h1, h2]
  · simp [h1]
theorem ruse_cases (x : Tm) (k day v : Int) (hv : vT x = v) :
    ((v == 0) = false ∧ useB x k day = false) ∨ ((v == 0) = true ∧ (x.k == k) = false ∧ useB x k day = false) ∨ ((v == 0) = true ∧ (x.k == k) = true ∧ decide (x.f ≤ day) = false ∧ useB x k day = false) ∨
    ((v == 0) = true ∧ (x.k == k) = true ∧ decide (x.f ≤ day) = true ∧ decide (day ≤ x.t) = false ∧ useB x k day = false) ∨ ((v == 0) = true ∧ (x.k == k) = true ∧ decide (x.f ≤ day) = true ∧ decide (day ≤ x.t) = true ∧ useB x k day = true) := by
  subst hv
  unfold useB
  by_cases h4 : vT x = 0
  · by_cases h1 : x.k = k
    · by_cases h2 : x.f ≤ day
      · by_cases h3 : day ≤ x.t <;> simp [h1, h2, h3, h4]
      · simp [h1, h2, h4]
    · simp [h1, h4]
  · simp [h4]
theorem wpList_load_vg {P : Program} {ops : Array Oper} {rest : List Oper} {op : Oper} {a : Act} {w : World} {Q : Exit → Act → World → Prop} (hw : Region.wanted op (yielded ops a.tmps) = true) (ty : TypeId) (x : Operand) (ho : op.op = .load ty x) (g : Nat) (hx : a.eval x = .pointer (some ⟨g, 0, none⟩)) (vs : List Value) (d : TypeDesc)
    (h : RowV w g vs) (hu : P.underlying ty = some d) (hd : d.isRow = true) (hi : (P.info? ty).map (·.size) = some vs.length)
    (hK : wpList P ops Q rest (a.put op.dst (.agg vs.toArray)) w) : wpList P ops Q (op :: rest) a w := by
  refine wpList_step fun K hK2 => ?_
  rw [if_pos hw]
  have hr := exec_load_v (op := op) (a := a) ty x ho g hx vs d h hu hd hi
  unfold Oper.wp
  rw [hr, Oper.upon_value]
  exact hK2 _ _ hK
set_option maxHeartbeats 3200000 in
theorem p_usable (l : List Tm) (n : Nat) (hn : l.length = n) (hn2 : n ≤ 2000000000000) (kind day : Int) (A : Option Addr) (c : Nat) (w : World) (hs : SeesT w (· < w.heap.size) A l) :
    Calls Try.prog 11 #[.slice A n c, .int .i64 kind, .int .i64 day] w (UseIs (useL l kind day) w) := by
  obtain ⟨i0, hi, hz0, hz1, hz2⟩ := info_parts info_int
  have HS := Lib.hid hs
  have HN := Lib.hid hn
  have HI := Lib.hid (IntR.start w)
  clear hs hn
  go_enter Try.func11, Try.ntmps11
  go_wp2
  go_loopw [7, 12] (fun v i wr => ∃ (j m : Nat) (A1 : Option Addr) (c1 : Nat), j ≤ n ∧ m ≤ j ∧ i = .int .i64 (j : Int) ∧ v = .slice A1 m c1 ∧ Hid (IntR w A1 m c1 (useTo l kind day j) wr)) (fun _ i _ => n - (intOf i).toNat)
  case atStart => exact ⟨0, 0, none, 0, by omega, by omega, rfl, rfl, HI⟩
  case round =>
    clear HI
    obtain ⟨j, m, A1, c1, hj, hm, rfl, rfl, HR⟩ := hrel
    by_cases hlt : j < n
    · have dj : decide ((j : Int) < (n : Int)) = true := by simp; omega
      obtain ⟨x, hx⟩ : ∃ x, l[j]? = some x := ⟨_, List.getElem?_eq_getElem (by rw [HN.out]; exact hlt)⟩
      obtain ⟨b, off, Ad, cd, rfl, hb, hr, _⟩ := tm_at HS.out hx
      have hr2 := fun cur (h : Below w.heap.size w cur) => rangeAt_on hr hb h
      obtain ⟨v, hvv⟩ : ∃ v, vT x = v := ⟨_, rfl⟩
      have hval := fun w => p_valid x Ad cd w
      have hno := useTo_no (k := kind) (day := day) hx
      have hyes := useTo_yes (k := kind) (day := day) hx
      have hcs := use_cases x kind day v hvv
      rw [hvv] at hval
      obtain ⟨us, hus⟩ : ∃ us, x.cs Ad cd = us := ⟨_, rfl⟩
      have hu7 : us.length = 7 := by rw [← hus]; rfl
      have hu1 : ∀ u ∈ us, u.oneCell' = true := by rw [← hus]; exact cs_one _ _ _
      obtain ⟨xk, hxk⟩ : ∃ q, x.k = q := ⟨_, rfl⟩
      obtain ⟨xf, hxf⟩ : ∃ q, x.f = q := ⟨_, rfl⟩
      obtain ⟨xt, hxt⟩ : ∃ q, x.t = q := ⟨_, rfl⟩
      have hu0 : us[0]? = some (.int .i64 xk) ∧ us[2]? = some (.int .i64 xf) ∧ us[3]? = some (.int .i64 xt) := by rw [← hus, ← hxk, ← hxf, ← hxt]; exact ⟨rfl, rfl, rfl⟩
      rw [hxk, hxf, hxt] at hcs
      rw [hus] at hr2 hval
      obtain ⟨ub, hub⟩ : ∃ q, useB x kind day = q := ⟨_, rfl⟩
      rw [hub] at hno hyes hcs
      have HU := Lib.hid (show _ ∧ _ ∧ _ ∧ _ ∧ _ from ⟨hr2, hval, hu7, hu1, hu0⟩)
      have HY := Lib.hid (show _ ∧ _ from ⟨hno, hyes⟩)
      clear hr hr2 hval hu7 hu1 hu0 hvv hx hus hxk hxf hxt hno hyes hub
      rcases hcs with ⟨h1, rfl⟩ | ⟨h1, h2, rfl⟩ | ⟨h1, h2, h3, rfl⟩ | ⟨h1, h2, h3, h4, rfl⟩ | ⟨h1, h2, h3, h4, rfl⟩
      iterate 4
        · go_wp2_with (first
          | ((with_reducible refine at_load_ (d := 16) ?_); refine wpList_load_mid rfl 27 (.tmp 15) rfl b (off + j * 7) rfl us _ (HU.out.1 _ HR.out.2) Try.underlying27 rfl (by rw [HU.out.2.2.1]; exact size_t) ?_)
          | ((with_reducible refine at_alloc_ (d := 9) ?_); refine wpList_alloc_v (op := ⟨some 9, _, _, _, _, _⟩) rfl 27 rfl zerT info_t ?_; intro g4 w4 hf hr; have HG := Lib.hid (show _ ∧ _ ∧ _ from ⟨HR.out.on hf.bw, hr, hf⟩); clear hf hr)
          | ((with_reducible refine at_store_ (i := 9) ?_); refine wpList_store_v rfl 27 (.tmp 9) (.tmp 16) rfl g4 zerT us rfl rfl HG.out.2.1 HU.out.2.2.1 HU.out.2.2.2.1 (by rw [HU.out.2.2.1]; exact size_t) ?_; intro w5 hw hr; have HGL := Lib.hid (HR.out.on (HG.out.2.2.wr_bl hw)); have HG5 := Lib.hid hr; have c0 := (hr.cell 0).trans HU.out.2.2.2.2.1; have c2 := (hr.cell 2).trans HU.out.2.2.2.2.2.1; have c3 := (hr.cell 3).trans HU.out.2.2.2.2.2.2; clear hw hr)
          | ((with_reducible refine at_load_ (d := 34) ?_); refine wpList_load_vg (by rfl) 27 (.tmp 9) rfl g4 rfl us _ HG5.out Try.underlying27 rfl (by rw [HU.out.2.2.1]; exact size_t) ?_)
          | (go_at_call 7; ((with_reducible refine (HU.out.2.1 _).mono ?_); rintro e w6 ⟨rfl, hb⟩); replace HGL := Lib.hid (HGL.out.on hb); clear hb))
          go_roundw
          case rel => exact ⟨j + 1, m, A1, c1, by omega, by omega, by first | rfl | go_num, rfl, Lib.hid (by rw [HY.out.1 (by trivial)]; exact HGL.out)⟩
          case measure => simp [intOf]; omega
      · go_wp2_with (first
          | ((with_reducible refine at_load_ (d := 16) ?_); refine wpList_load_mid rfl 27 (.tmp 15) rfl b (off + j * 7) rfl us _ (HU.out.1 _ HR.out.2) Try.underlying27 rfl (by rw [HU.out.2.2.1]; exact size_t) ?_)
          | ((with_reducible refine at_alloc_ (d := 9) ?_); refine wpList_alloc_v (op := ⟨some 9, _, _, _, _, _⟩) rfl 27 rfl zerT info_t ?_; intro g4 w4 hf hr; have HG := Lib.hid (show _ ∧ _ ∧ _ from ⟨HR.out.on hf.bw, hr, hf⟩); clear hf hr)
          | ((with_reducible refine at_store_ (i := 9) ?_); refine wpList_store_v rfl 27 (.tmp 9) (.tmp 16) rfl g4 zerT us rfl rfl HG.out.2.1 HU.out.2.2.1 HU.out.2.2.2.1 (by rw [HU.out.2.2.1]; exact size_t) ?_; intro w5 hw hr; have HGL := Lib.hid (HR.out.on (HG.out.2.2.wr_bl hw)); have HG5 := Lib.hid hr; have c0 := (hr.cell 0).trans HU.out.2.2.2.2.1; have c2 := (hr.cell 2).trans HU.out.2.2.2.2.2.1; have c3 := (hr.cell 3).trans HU.out.2.2.2.2.2.2; clear hw hr)
          | ((with_reducible refine at_load_ (d := 34) ?_); refine wpList_load_vg (by rfl) 27 (.tmp 9) rfl g4 rfl us _ HG5.out Try.underlying27 rfl (by rw [HU.out.2.2.1]; exact size_t) ?_)
          | (go_at_call 7; ((with_reducible refine (HU.out.2.1 _).mono ?_); rintro e w6 ⟨rfl, hb⟩); replace HGL := Lib.hid (HGL.out.on hb); clear hb)
          | ((with_reducible refine at_any_ (d := 41) ?_); refine wpList_append_own _ rfl (.tmp 38) (.tmp 40) 30 rfl w.heap.size 3 i0 (.int .i64 0) 1 8 Try.underlying30 hi hz0 hz1 hz2 rfl (by decide) (.slice A1 m c1) m _ rfl (HGL.out.1.alloc _) ⟨_, 0, none⟩ 1 1 [_] rfl rfl (news_of_one _ _ _) (one_i _) (by unfold maxLen; omega) (by omega) (Nat.le_trans HGL.out.2.size (below_al1 _ _).size) ?_; intro v3 w3 ho3 hg3 _; obtain ⟨A3, c3, rfl⟩ := own_len ho3; have HP := Lib.hid (HGL.out.push ho3 hg3); clear ho3 hg3))
        go_roundw
        case rel => exact ⟨j + 1, m + 1, A3, c3, by omega, by omega, by first | rfl | go_num, rfl, Lib.hid (by rw [HY.out.2 (by trivial)]; exact HP.out)⟩
        case measure => simp [intOf]; omega
    · obtain rfl : j = n := by omega
      have dj : decide ((j : Int) < (j : Int)) = false := by simp
      have HD := Lib.hid (show UseIs (useL l kind day) w (.returned (.slice A1 m c1)) wr from by unfold useL; rw [HN.out]; exact HR.out.done)
      clear HR
      go_wp2
      go_ret
      exact HD.out
set_option maxHeartbeats 3200000 in
theorem r_usable (l : List Tm) (n : Nat) (hn : l.length = n) (hn2 : n ≤ 2000000000000) (kind day : Int) (A : Option Addr) (c : Nat) (w : World) (hs : SeesT w (· < w.heap.size) A l) :
    Calls Try.prog 12 #[.slice A n c, .int .i64 kind, .int .i64 day] w (UseIs (useL l kind day) w) := by
  obtain ⟨i0, hi, hz0, hz1, hz2⟩ := info_parts info_int
  have HS := Lib.hid hs
  have HN := Lib.hid hn
  have HI := Lib.hid (IntR.start w)
  clear hs hn
  go_enter Try.func12, Try.ntmps12
  go_wp2
  go_loopw [7, 8] (fun v i wr => ∃ (j m : Nat) (A1 : Option Addr) (c1 : Nat), j ≤ n ∧ m ≤ j ∧ i = .int .i64 (j : Int) ∧ v = .slice A1 m c1 ∧ Hid (IntR w A1 m c1 (useTo l kind day j) wr)) (fun _ i _ => n - (intOf i).toNat)
  case atStart => exact ⟨0, 0, none, 0, by omega, by omega, rfl, rfl, HI⟩
  case round =>
    clear HI
    obtain ⟨j, m, A1, c1, hj, hm, rfl, rfl, HR⟩ := hrel
    by_cases hlt : j < n
    · have dj : decide ((j : Int) < (n : Int)) = true := by simp; omega
      obtain ⟨x, hx⟩ : ∃ x, l[j]? = some x := ⟨_, List.getElem?_eq_getElem (by rw [HN.out]; exact hlt)⟩
      obtain ⟨b, off, Ad, cd, rfl, hb, hr, _⟩ := tm_at HS.out hx
      have hr2 := fun cur (h : Below w.heap.size w cur) => rangeAt_on hr hb h
      obtain ⟨v, hvv⟩ : ∃ v, vT x = v := ⟨_, rfl⟩
      have hval := fun w => r_valid x Ad cd w
      have hno := useTo_no (k := kind) (day := day) hx
      have hyes := useTo_yes (k := kind) (day := day) hx
      have hcs := ruse_cases x kind day v hvv
      rw [hvv] at hval
      obtain ⟨us, hus⟩ : ∃ us, x.cs Ad cd = us := ⟨_, rfl⟩
      have hu7 : us.length = 7 := by rw [← hus]; rfl
      have hu1 : ∀ u ∈ us, u.oneCell' = true := by rw [← hus]; exact cs_one _ _ _
      obtain ⟨xk, hxk⟩ : ∃ q, x.k = q := ⟨_, rfl⟩
      obtain ⟨xf, hxf⟩ : ∃ q, x.f = q := ⟨_, rfl⟩
      obtain ⟨xt, hxt⟩ : ∃ q, x.t = q := ⟨_, rfl⟩
      have hu0 : us[0]? = some (.int .i64 xk) ∧ us[2]? = some (.int .i64 xf) ∧ us[3]? = some (.int .i64 xt) := by rw [← hus, ← hxk, ← hxf, ← hxt]; exact ⟨rfl, rfl, rfl⟩
      rw [hxk, hxf, hxt] at hcs
      rw [hus] at hr2 hval
      obtain ⟨ub, hub⟩ : ∃ q, useB x kind day = q := ⟨_, rfl⟩
      rw [hub] at hno hyes hcs
      have HU := Lib.hid (show _ ∧ _ ∧ _ ∧ _ ∧ _ from ⟨hr2, hval, hu7, hu1, hu0⟩)
      have HY := Lib.hid (show _ ∧ _ from ⟨hno, hyes⟩)
      clear hr hr2 hval hu7 hu1 hu0 hvv hx hus hxk hxf hxt hno hyes hub
      rcases hcs with ⟨h1, rfl⟩ | ⟨h1, h2, rfl⟩ | ⟨h1, h2, h3, rfl⟩ | ⟨h1, h2, h3, h4, rfl⟩ | ⟨h1, h2, h3, h4, rfl⟩
      iterate 4
        · go_wp2_with (first
          | ((with_reducible refine at_load_ (d := 18) ?_); refine wpList_load_mid rfl 27 (.tmp 17) rfl b (off + j * 7) rfl us _ (HU.out.1 _ HR.out.2) Try.underlying27 rfl (by rw [HU.out.2.2.1]; exact size_t) ?_)
          | (go_at_call 8; ((with_reducible refine (HU.out.2.1 _).mono ?_); rintro e w6 ⟨rfl, hb⟩); have HGL := Lib.hid (HR.out.on hb); have c0 := HU.out.1 w6 (below_on HR.out.2 hb) 0 _ HU.out.2.2.2.2.1; have c2 := HU.out.1 w6 (below_on HR.out.2 hb) 2 _ HU.out.2.2.2.2.2.1; have c3 := HU.out.1 w6 (below_on HR.out.2 hb) 3 _ HU.out.2.2.2.2.2.2; rw [Nat.add_zero] at c0; clear hb))
          go_roundw
          case rel => exact ⟨j + 1, m, A1, c1, by omega, by omega, by first | rfl | go_num, rfl, Lib.hid (by rw [HY.out.1 (by trivial)]; exact HGL.out)⟩
          case measure => simp [intOf]; omega
      · go_wp2_with (first
          | ((with_reducible refine at_load_ (d := 18) ?_); refine wpList_load_mid rfl 27 (.tmp 17) rfl b (off + j * 7) rfl us _ (HU.out.1 _ HR.out.2) Try.underlying27 rfl (by rw [HU.out.2.2.1]; exact size_t) ?_)
          | (go_at_call 8; ((with_reducible refine (HU.out.2.1 _).mono ?_); rintro e w6 ⟨rfl, hb⟩); have HGL := Lib.hid (HR.out.on hb); have c0 := HU.out.1 w6 (below_on HR.out.2 hb) 0 _ HU.out.2.2.2.2.1; have c2 := HU.out.1 w6 (below_on HR.out.2 hb) 2 _ HU.out.2.2.2.2.2.1; have c3 := HU.out.1 w6 (below_on HR.out.2 hb) 3 _ HU.out.2.2.2.2.2.2; rw [Nat.add_zero] at c0; clear hb)
          | ((with_reducible refine at_any_ (d := 51) ?_); refine wpList_append_own _ rfl (.tmp 48) (.tmp 50) 30 rfl w.heap.size 3 i0 (.int .i64 0) 1 8 Try.underlying30 hi hz0 hz1 hz2 rfl (by decide) (.slice A1 m c1) m _ rfl (HGL.out.1.alloc _) ⟨_, 0, none⟩ 1 1 [_] rfl rfl (news_of_one _ _ _) (one_i _) (by unfold maxLen; omega) (by omega) (Nat.le_trans HGL.out.2.size (below_al1 _ _).size) ?_; intro v3 w3 ho3 hg3 _; obtain ⟨A3, c3, rfl⟩ := own_len ho3; have HP := Lib.hid (HGL.out.push ho3 hg3); clear ho3 hg3))
        go_roundw
        case rel => exact ⟨j + 1, m + 1, A3, c3, by omega, by omega, by first | rfl | go_num, rfl, Lib.hid (by rw [HY.out.2 (by trivial)]; exact HP.out)⟩
        case measure => simp [intOf]; omega
    · obtain rfl : j = n := by omega
      have dj : decide ((j : Int) < (j : Int)) = false := by simp
      have HD := Lib.hid (show UseIs (useL l kind day) w (.returned (.slice A1 m c1)) wr from by unfold useL; rw [HN.out]; exact HR.out.done)
      clear HR
      go_wp2
      go_ret
      exact HD.out
set_option maxHeartbeats 1600000 in
theorem same_ints (l : List Int) (n : Nat) (hn : l.length = n) (hn2 : n ≤ 140737488351232) (A B : Option Addr) (c d : Nat) (w : World) (ha : SeesP w (· < w.heap.size) A (Is l)) (hb : SeesP w (· < w.heap.size) B (Is l)) :
    Calls Try.prog 10 #[.slice A n c, .slice B n d] w fun e w' => e = .returned (.bool true) ∧ ∃ q, w' = w.drewN q := by
  have HA := Lib.hid (show _ ∧ _ ∧ _ from ⟨ha, hb, hn⟩)
  have hne : ((n : Int) != (n : Int)) = false := by simp
  clear ha hb hn
  go_enter Try.func10, Try.ntmps10
  go_wp2_with fail
  go_loopw [5] (fun i wr => ∃ (j q : Nat), j ≤ n ∧ i = .int .i64 (j : Int) ∧ wr = w.drewN q) (fun i _ => n - (intOf i).toNat)
  case atStart => exact ⟨0, 0, by omega, rfl, rfl⟩
  case round =>
    obtain ⟨j, q, hj, rfl, hw⟩ := hrel
    have HW := Lib.hid hw
    by_cases hlt : j < n
    · have dj : decide ((j : Int) < (n : Int)) = true := by simp; omega
      have hl : j < (Is l).length := by rw [Is_len, HA.out.2.2]; exact hlt
      obtain ⟨a1, a2, rfl, a4⟩ : ∃ b o, A = some ⟨b, o, none⟩ ∧ ∀ j, j < (Is l).length → w.cell? ⟨b, o + j, none⟩ = (Is l)[j]? := by
        rcases HA.out.1 with h | ⟨b, o, e, _, hc⟩
        · rw [h] at hl; simp at hl
        · exact ⟨b, o, e, hc⟩
      obtain ⟨b1, b2, rfl, b4⟩ : ∃ b o, B = some ⟨b, o, none⟩ ∧ ∀ j, j < (Is l).length → w.cell? ⟨b, o + j, none⟩ = (Is l)[j]? := by
        rcases HA.out.2.1 with h | ⟨b, o, e, _, hc⟩
        · rw [h] at hl; simp at hl
        · exact ⟨b, o, e, hc⟩
      obtain ⟨z, hz⟩ : ∃ z, (Is l)[j]? = some (.int .i64 z) := by
        have : j < l.length := by rw [HA.out.2.2]; exact hlt
        exact ⟨l[j], by simp [Is, this]⟩
      have x1 : wr.cell? ⟨a1, a2 + j, none⟩ = some (.int .i64 z) := by rw [hw]; exact (a4 j hl).trans hz
      have x2 : wr.cell? ⟨b1, b2 + j, none⟩ = some (.int .i64 z) := by rw [hw]; exact (b4 j hl).trans hz
      have e1 : (z != z) = false := by simp
      clear a4 b4 hz hl hw
      go_wp2_with fail
      go_quiet (fail)
      go_wp2_with fail
      go_roundw
      case rel => exact ⟨j + 1, q + nq, by omega, by first | rfl | go_num, by rw [HW.out, World.drewN_drewN]⟩
      case measure => simp [intOf]; omega
    · obtain rfl : j = n := by omega
      have dj : decide ((j : Int) < (j : Int)) = false := by simp
      clear hw
      go_wp2_with fail
      go_ret
      exact ⟨rfl, q, HW.out⟩
end Go.Proofs.Ytobbnedojmcgoaa
