/-
  What is proved here: what is encoded reads back (plain); which templates are usable, and that no number is no block; the maker Templates.
-/
import Derived.Test.YtobbnedojmcgoaaBq
namespace Go.Proofs.Ytobbnedojmcgoaa
open Go.RowKit
set_option linter.unusedVariables false
set_option linter.unusedSimpArgs false

theorem numL_oct1 {n : Nat} (h : n < 256) : numL (octL n 1) = n := by
  rw [octL1]
  simp [numL, UInt8.toNat_ofNat']
  omega
theorem numL_oct2 {n : Nat} (h : n < 65536) : numL (octL n 2) = n := by
  rw [octL2]
  simp [numL, UInt8.toNat_ofNat']
  omega
theorem hdr_back {x : Tm} (h : vT x = 0) : numT hdrTags (hdrF x .nil) = some [x.k.toNat, x.p.toNat, x.f.toNat, x.t.toNat, x.q.toNat, x.fo.toNat] := by
  obtain ⟨h1, h2, h3, h4, _, h5, h6, _⟩ := vT_bd h
  have e1 := numL_oct1 (n := x.k.toNat) (by omega)
  have e2 := numL_oct1 (n := x.p.toNat) (by omega)
  have e3 := numL_oct4 (n := x.f.toNat) (by omega)
  have e4 := numL_oct4 (n := x.t.toNat) (by omega)
  have e5 := numL_oct1 (n := x.q.toNat) (by omega)
  have e6 := numL_oct2 (n := x.fo.toNat) (by omega)
  simp only [hdrTags, hdrF, numT, F.len, octL_length]
  simp [e1, e2, e3, e4, e5, e6]
theorem tm_back {x : Tm} (h : vT x = 0) : tmT 32608 [] (objK x) = some x := by
  obtain ⟨h1, h2, h3, h4, _, h5, h6, _⟩ := vT_bd h
  show (if (32608 : Int) = 32608 ∧ ([] : List UInt8).length = 0 ∧ (24366 : Int) = 24366 ∧ F.nil.len = 0 then (hdrT 161 [] (hdrF x .nil)).map (tmOf · x.d) else none) = _
  rw [if_pos ⟨rfl, rfl, rfl, rfl⟩]
  unfold hdrT
  rw [if_pos ⟨rfl, rfl⟩, hdr_back h]
  show some (tmOf _ x.d) = some x
  congr 1
  obtain ⟨k, p, f, t, fo, q, d⟩ := x
  simp only [tmOf, List.getD_cons_zero, List.getD_cons_succ]
  simp only at h1 h2 h3 h4 h5 h6
  congr 1 <;> omega
theorem tms_back : ∀ {l : List Tm}, (∀ x ∈ l, vT x = 0) → tmsT (objsF l) = some l
  | [], _ => rfl
  | x :: r, h => by
    show (match tmT 32608 [] (objK x) with | none => none | some x => (tmsT (objsF r)).map (x :: ·)) = _
    rw [tm_back (h x (List.mem_cons_self ..)), tms_back (fun y hy => h y (List.mem_cons_of_mem _ hy))]
    rfl
theorem chkT_of : ∀ {l : List Tm}, (∀ x ∈ l, vT x = 0) → chkT l = 0
  | [], _ => rfl
  | x :: r, h => by
    show (if vT x = 0 then chkT r else vT x) = 0
    rw [if_pos (h x (List.mem_cons_self ..))]
    exact chkT_of fun y hy => h y (List.mem_cons_of_mem _ hy)
theorem enc_of {l : List Tm} (h1 : 1 ≤ l.length) (h8 : l.length ≤ 8) (h : ∀ x ∈ l, vT x = 0) : encE l = 0 := by
  unfold encE
  rw [if_neg (by omega)]
  exact chkT_of h
theorem dec_enc {l : List Tm} (h1 : 1 ≤ l.length) (h8 : l.length ≤ 8) (h : ∀ x ∈ l, vT x = 0) : decE (encF l) = 0 ∧ decV (encF l) = l := by
  have he := enc_of h1 h8 h
  have hl : lstT (encF l) = some l := by
    unfold encF
    rw [if_pos he]
    show (if (32609 : Int) = 32609 ∧ ([] : List UInt8).length = 0 ∧ (2 : Int) = 2 ∧ F.nil.len = 0 ∧ (octL l.length 1).length = 1 ∧ numL (octL l.length 1) = (objsF l).len then tmsT (objsF l) else none) = _
    rw [if_pos ⟨rfl, rfl, rfl, rfl, octL_length _ _, by rw [numL_oct1 (by omega), objs_len]⟩]
    exact tms_back h
  unfold decE decV
  rw [hl]
  simp only [he]
  exact ⟨trivial, if_pos trivial⟩
theorem use_one (x : Tm) (k day : Int) : useL [x] k day = if useB x k day = true then [0] else [] := by
  unfold useL useTo
  show ((List.range 1).filter _).map _ = _
  rw [show List.range 1 = [0] from rfl]
  by_cases h : useB x k day = true
  · rw [if_pos h]; simp [List.filter_cons, h]
  · rw [if_neg h]; simp [List.filter_cons, h]
theorem use_on {x : Tm} (h : vT x = 0) : (useL [x] x.k x.f).length = 1 ∧ (useL [x] x.k (x.t + 1)).length = 0 ∧ (useL [x] x.k (x.f - 1)).length = 0 := by
  obtain ⟨_, _, _, _, h1, _⟩ := vT_bd h
  rw [use_one, use_one, use_one]
  rw [if_pos (by simp [useB, h, h1]), if_neg (by simp [useB]; omega), if_neg (by simp [useB]; omega)]
  exact ⟨rfl, rfl, rfl⟩
/-! ## Usable, and no number is no block -/
def IntN (w : World) (A : Option Addr) (m c : Nat) (l : List Int) (cur : World) : Prop := (cur.ownsRow w.heap.size 3 1 (.slice A m c) m (Is l) ∧ (m = 0 → A = none ∧ c = 0)) ∧ Below w.heap.size w cur
theorem IntN.start (w : World) : IntN w none 0 0 [] w := ⟨⟨World.ownsRow_nil w _ _ 1, fun _ => ⟨rfl, rfl⟩⟩, Below.refl _ _⟩
theorem IntN.on {w cur cur' : World} {A : Option Addr} {m c : Nat} {l : List Int} (h : IntN w A m c l cur) (hb : Below cur.heap.size cur cur') : IntN w A m c l cur' := ⟨⟨own3_on h.1.1 hb, h.1.2⟩, below_on h.2 hb⟩
theorem IntN.push {w cur cur' : World} {A A3 : Option Addr} {m c c3 n3 : Nat} {l : List Int} {x : Int} {ob : Obj} (h : IntN w A m c l cur) (h1 : cur'.ownsRow w.heap.size 3 1 (.slice A3 n3 c3) n3 (Is l ++ [Value.int .i64 x])) (h2 : (cur.alloc ob).grownBy cur' (Value.slice A m c).ownBlock) : IntN w A3 n3 c3 (l ++ [x]) cur' :=
  ⟨⟨by rw [Is_snoc]; exact h1, fun h0 => by have := h1.1; rw [h0] at this; simp at this⟩, (below_on h.2 (below_al1 cur ob)).grown h2 (below_on h.2 (below_al1 cur ob)).size (fun k e => (own_lt3 h.1.1 k e).1)⟩
def UseN (l : List Int) (w : World) (e : Ending) (w' : World) : Prop := ∃ A c, e = .returned (.slice A l.length c) ∧ (l.length = 0 → A = none ∧ c = 0) ∧ Below w.heap.size w w'
theorem IntN.done {w cur : World} {A : Option Addr} {m c : Nat} {l : List Int} (h : IntN w A m c l cur) : UseN l w (.returned (.slice A m c)) cur := by
  have hl : l.length = m := by have := h.1.1.1; simpa [Is_len] using this
  exact ⟨A, c, by rw [hl], by rw [hl]; exact h.1.2, h.2⟩
set_option maxHeartbeats 3200000 in
theorem p_usable0 (l : List Tm) (n : Nat) (hn : l.length = n) (hn2 : n ≤ 2000000000000) (kind day : Int) (A : Option Addr) (c : Nat) (w : World) (hs : SeesT w (· < w.heap.size) A l) :
    Calls Try.prog 11 #[.slice A n c, .int .i64 kind, .int .i64 day] w (UseN (useL l kind day) w) := by
  obtain ⟨i0, hi, hz0, hz1, hz2⟩ := info_parts info_int
  have HS := Lib.hid hs
  have HN := Lib.hid hn
  have HI := Lib.hid (IntN.start w)
  clear hs hn
  go_enter Try.func11, Try.ntmps11
  go_wp2
  go_loopw [7, 12] (fun v i wr => ∃ (j m : Nat) (A1 : Option Addr) (c1 : Nat), j ≤ n ∧ m ≤ j ∧ i = .int .i64 (j : Int) ∧ v = .slice A1 m c1 ∧ Hid (IntN w A1 m c1 (useTo l kind day j) wr)) (fun _ i _ => n - (intOf i).toNat)
  case atStart => exact ⟨0, 0, none, 0, by omega, by omega, rfl, rfl, HI⟩
  case round =>
    clear HI
    obtain ⟨j, m, A1, c1, hj, hm, rfl, rfl, HR⟩ := hrel
    by_cases hlt : j < n
    · have dj : decide ((j : Int) < (n : Int)) = true := by simp; omega
      obtain ⟨x, hx⟩ : ∃ x, l[j]? = some x := ⟨_, List.getElem?_eq_getElem (by rw [HN.out]; exact hlt)⟩
      obtain ⟨b, off, Ad, cd, rfl, hb, hr, _⟩ := tm_at HS.out hx
      have hr2 := fun cur (h : Below w.heap.size w cur) => rangeAt_on hr hb h
      obtain ⟨v, hvv⟩ : ∃ v, vT x = v := ⟨_, rfl⟩
      have hval := fun w => p_valid x Ad cd w
      have hno := useTo_no (k := kind) (day := day) hx
      have hyes := useTo_yes (k := kind) (day := day) hx
      have hcs := use_cases x kind day v hvv
      rw [hvv] at hval
      obtain ⟨us, hus⟩ : ∃ us, x.cs Ad cd = us := ⟨_, rfl⟩
      have hu7 : us.length = 7 := by rw [← hus]; rfl
      have hu1 : ∀ u ∈ us, u.oneCell' = true := by rw [← hus]; exact cs_one _ _ _
      obtain ⟨xk, hxk⟩ : ∃ q, x.k = q := ⟨_, rfl⟩
      obtain ⟨xf, hxf⟩ : ∃ q, x.f = q := ⟨_, rfl⟩
      obtain ⟨xt, hxt⟩ : ∃ q, x.t = q := ⟨_, rfl⟩
      have hu0 : us[0]? = some (.int .i64 xk) ∧ us[2]? = some (.int .i64 xf) ∧ us[3]? = some (.int .i64 xt) := by rw [← hus, ← hxk, ← hxf, ← hxt]; exact ⟨rfl, rfl, rfl⟩
      rw [hxk, hxf, hxt] at hcs
      rw [hus] at hr2 hval
      obtain ⟨ub, hub⟩ : ∃ q, useB x kind day = q := ⟨_, rfl⟩
      rw [hub] at hno hyes hcs
      have HU := Lib.hid (show _ ∧ _ ∧ _ ∧ _ ∧ _ from ⟨hr2, hval, hu7, hu1, hu0⟩)
      have HY := Lib.hid (show _ ∧ _ from ⟨hno, hyes⟩)
      clear hr hr2 hval hu7 hu1 hu0 hvv hx hus hxk hxf hxt hno hyes hub
      rcases hcs with ⟨h1, rfl⟩ | ⟨h1, h2, rfl⟩ | ⟨h1, h2, h3, rfl⟩ | ⟨h1, h2, h3, h4, rfl⟩ | ⟨h1, h2, h3, h4, rfl⟩
      iterate 4
        · go_wp2_with (first
          | ((with_reducible refine at_load_ (d := 16) ?_); refine wpList_load_mid rfl 27 (.tmp 15) rfl b (off + j * 7) rfl us _ (HU.out.1 _ HR.out.2) Try.underlying27 rfl (by rw [HU.out.2.2.1]; exact size_t) ?_)
          | ((with_reducible refine at_alloc_ (d := 9) ?_); refine wpList_alloc_v (op := ⟨some 9, _, _, _, _, _⟩) rfl 27 rfl zerT info_t ?_; intro g4 w4 hf hr; have HG := Lib.hid (show _ ∧ _ ∧ _ from ⟨HR.out.on hf.bw, hr, hf⟩); clear hf hr)
          | ((with_reducible refine at_store_ (i := 9) ?_); refine wpList_store_v rfl 27 (.tmp 9) (.tmp 16) rfl g4 zerT us rfl rfl HG.out.2.1 HU.out.2.2.1 HU.out.2.2.2.1 (by rw [HU.out.2.2.1]; exact size_t) ?_; intro w5 hw hr; have HGL := Lib.hid (HR.out.on (HG.out.2.2.wr_bl hw)); have HG5 := Lib.hid hr; have c0 := (hr.cell 0).trans HU.out.2.2.2.2.1; have c2 := (hr.cell 2).trans HU.out.2.2.2.2.2.1; have c3 := (hr.cell 3).trans HU.out.2.2.2.2.2.2; clear hw hr)
          | ((with_reducible refine at_load_ (d := 34) ?_); refine wpList_load_vg (by rfl) 27 (.tmp 9) rfl g4 rfl us _ HG5.out Try.underlying27 rfl (by rw [HU.out.2.2.1]; exact size_t) ?_)
          | (go_at_call 7; ((with_reducible refine (HU.out.2.1 _).mono ?_); rintro e w6 ⟨rfl, hb⟩); replace HGL := Lib.hid (HGL.out.on hb); clear hb))
          go_roundw
          case rel => exact ⟨j + 1, m, A1, c1, by omega, by omega, by first | rfl | go_num, rfl, Lib.hid (by rw [HY.out.1 (by trivial)]; exact HGL.out)⟩
          case measure => simp [intOf]; omega
      · go_wp2_with (first
          | ((with_reducible refine at_load_ (d := 16) ?_); refine wpList_load_mid rfl 27 (.tmp 15) rfl b (off + j * 7) rfl us _ (HU.out.1 _ HR.out.2) Try.underlying27 rfl (by rw [HU.out.2.2.1]; exact size_t) ?_)
          | ((with_reducible refine at_alloc_ (d := 9) ?_); refine wpList_alloc_v (op := ⟨some 9, _, _, _, _, _⟩) rfl 27 rfl zerT info_t ?_; intro g4 w4 hf hr; have HG := Lib.hid (show _ ∧ _ ∧ _ from ⟨HR.out.on hf.bw, hr, hf⟩); clear hf hr)
          | ((with_reducible refine at_store_ (i := 9) ?_); refine wpList_store_v rfl 27 (.tmp 9) (.tmp 16) rfl g4 zerT us rfl rfl HG.out.2.1 HU.out.2.2.1 HU.out.2.2.2.1 (by rw [HU.out.2.2.1]; exact size_t) ?_; intro w5 hw hr; have HGL := Lib.hid (HR.out.on (HG.out.2.2.wr_bl hw)); have HG5 := Lib.hid hr; have c0 := (hr.cell 0).trans HU.out.2.2.2.2.1; have c2 := (hr.cell 2).trans HU.out.2.2.2.2.2.1; have c3 := (hr.cell 3).trans HU.out.2.2.2.2.2.2; clear hw hr)
          | ((with_reducible refine at_load_ (d := 34) ?_); refine wpList_load_vg (by rfl) 27 (.tmp 9) rfl g4 rfl us _ HG5.out Try.underlying27 rfl (by rw [HU.out.2.2.1]; exact size_t) ?_)
          | (go_at_call 7; ((with_reducible refine (HU.out.2.1 _).mono ?_); rintro e w6 ⟨rfl, hb⟩); replace HGL := Lib.hid (HGL.out.on hb); clear hb)
          | ((with_reducible refine at_any_ (d := 41) ?_); refine wpList_append_own _ rfl (.tmp 38) (.tmp 40) 30 rfl w.heap.size 3 i0 (.int .i64 0) 1 8 Try.underlying30 hi hz0 hz1 hz2 rfl (by decide) (.slice A1 m c1) m _ rfl (HGL.out.1.1.alloc _) ⟨_, 0, none⟩ 1 1 [_] rfl rfl (news_of_one _ _ _) (one_i _) (by unfold maxLen; omega) (by omega) (Nat.le_trans HGL.out.2.size (below_al1 _ _).size) ?_; intro v3 w3 ho3 hg3 _; obtain ⟨A3, c3, rfl⟩ := own_len ho3; have HP := Lib.hid (HGL.out.push ho3 hg3); clear ho3 hg3))
        go_roundw
        case rel => exact ⟨j + 1, m + 1, A3, c3, by omega, by omega, by first | rfl | go_num, rfl, Lib.hid (by rw [HY.out.2 (by trivial)]; exact HP.out)⟩
        case measure => simp [intOf]; omega
    · obtain rfl : j = n := by omega
      have dj : decide ((j : Int) < (j : Int)) = false := by simp
      have HD := Lib.hid (show UseN (useL l kind day) w (.returned (.slice A1 m c1)) wr from by unfold useL; rw [HN.out]; exact HR.out.done)
      clear HR
      go_wp2
      go_ret
      exact HD.out
theorem p_usable_no (l : List Tm) (n : Nat) (hn : l.length = n) (hn2 : n ≤ 2000000000000) (kind day : Int) (h0 : (useL l kind day).length = 0) (A : Option Addr) (c : Nat) (w : World) (hs : SeesT w (· < w.heap.size) A l) :
    Calls Try.prog 11 #[.slice A n c, .int .i64 kind, .int .i64 day] w fun e w' => e = .returned (.slice none 0 0) ∧ Below w.heap.size w w' :=
  (p_usable0 l n hn hn2 kind day A c w hs).mono fun e w' h => by
    obtain ⟨A, c, e1, h1, h2⟩ := h
    obtain ⟨rfl, rfl⟩ := h1 h0
    rw [h0] at e1
    exact ⟨e1, h2⟩
/-! ## templates, made one by one -/
theorem HeldT.dice {w wr w' : World} {v : Value} {L : List Tm} {D : Nat} (h : HeldT w wr v L) (hg : wr.grownBy w' (some D)) (hD : D < w.heap.size) : HeldT w w' v L := by
  obtain ⟨cs, h1, h2⟩ := h
  have hne : v.ownBlock ≠ some D := fun e => by have := (own_lt3 h1 D e).1; omega
  exact ⟨cs, own_far h1 hg hne, (h2.keep fun q hq => World.cell?_of_block (hg.block _ hq.1.2 fun e => by injection e with e; have := hq.1.1; omega)).imp fun b hb => ⟨⟨hb.1.1, Nat.lt_of_lt_of_le hb.1.2 hg.size⟩, hb.2⟩⟩
/-- one template more, whose Data lie in blocks that are not the row's own -/
theorem HeldT.snoc2 {w w1 wa w2 : World} {v : Value} {L : List Tm} {x : Tm} {Ad : Option Addr} {cd g cap n : Nat} (ha : Below w1.heap.size w1 wa)
    (hn0 : (Ad = none → cd = 0) ∧ x.d.length ≤ cd) (hv : SeesP w1 (fun b => newB w w1 b ∧ v.ownBlock ≠ some b) Ad (Us x.d))
    (cs : List Value) (hc1 : w1.ownsRow w.heap.size 27 7 v L.length cs) (hc2 : TmsIn w1 (fun b => newB w w1 b ∧ v.ownBlock ≠ some b) cs L) (hn : n = L.length + 1)
    (ho : w2.ownsRow w.heap.size 27 7 (.slice (some ⟨g, 0, none⟩) n cap) n (cs ++ x.cs Ad cd)) (hg : wa.grownBy w2 v.ownBlock)
    (hl : v.ownBlock = some g ∨ g = wa.heap.size) : HeldT w w2 (.slice (some ⟨g, 0, none⟩) n cap) (L ++ [x]) := by
  subst hn
  have hold := own_lt3 hc1
  have keep : ∀ q : Addr, q.block < w1.heap.size → v.ownBlock ≠ some q.block → w2.cell? q = w1.cell? q := fun q h1 h2 =>
    (World.cell?_of_block (w := wa) (hg.block q.block (Nat.lt_of_lt_of_le h1 ha.size) (fun e => h2 e.symm))).trans (ha.cell h1)
  have hsz : w1.heap.size ≤ w2.heap.size := Nat.le_trans ha.size hg.size
  have hwa := ha.size
  have hp : ∀ b, (newB w w1 b ∧ v.ownBlock ≠ some b) → newB w w2 b ∧ (Value.slice (some ⟨g, 0, none⟩) (L.length + 1) cap).ownBlock ≠ some b := by
    intro b hb
    have h4 := hb.1.2
    refine ⟨⟨hb.1.1, by omega⟩, ?_⟩
    intro e
    injection e with e
    simp only at e
    rcases hl with h3 | h3
    · exact hb.2 (h3.trans (by rw [e]))
    · omega
  have kp : ∀ q : Addr, (newB w w1 q.block ∧ v.ownBlock ≠ some q.block) → w2.cell? q = w1.cell? q := fun q hq => keep q hq.1.2 hq.2
  exact ⟨_, by rw [List.length_append]; exact ho, TmsIn.snoc ((hc2.keep kp).imp hp) hn0 ((hv.keep kp).imp hp)⟩
def TmsIs (w : World) (D : Nat) (e : Ending) (w' : World) : Prop := ∃ (v : Value) (L : List Tm), e = .returned v ∧ 1 ≤ L.length ∧ L.length ≤ 3 ∧ (∀ x ∈ L, vT x = 0) ∧ HeldT w w' v L ∧ w.grownBy w' (some D) ∧ DiceOk w' D
def TRel (w : World) (D : Nat) (v : Value) (k : Nat) (wr : World) : Prop := ∃ L : List Tm, L.length = k ∧ (∀ x ∈ L, vT x = 0) ∧ HeldT w wr v L ∧ w.grownBy wr (some D) ∧ DiceOk wr D
theorem bst_tm (x : Tm) (A : Option Addr) (c : Nat) : Try.prog.builtSlice 27 1 [(0, .agg (x.cs A c).toArray)] = some (x.cs A c).toArray := bst1 _ _ _ _ _ _ _ _ _
set_option maxHeartbeats 3200000 in
set_option maxRecDepth 20000 in
theorem dice_templates (D : Nat) (kd : Int) (hkd : kd = 1 ∨ kd = 2 ∨ kd = 3) (w : World) (h : DiceOk w D) :
    Calls Try.prog 22 #[.pointer (some ⟨D, 0, none⟩), .int .i64 kd] w (TmsIs w D) := by
  obtain ⟨i0, hi, hz0, hz1, hz2⟩ := info_parts info_tb
  have hDw := h.lt
  have N1 := Lib.hid (show Calls Try.prog 23 #[.pointer (some ⟨D, 0, none⟩), .int .i64 3] w (NextIs w D 3) from dice_next D 3 w (by decide) (by decide) h)
  have HKD := Lib.hid hkd
  clear h hkd
  go_enter Try.func22, Try.ntmps22
  go_wp2_with fail
  refine N1.out.mono ?_
  rintro e w1 ⟨r, hr, rfl, hg, hd⟩
  have H1 := Lib.hid (show TRel w D (.slice none 0 0) 0 w1 from ⟨[], rfl, (fun x h => by cases h), ⟨[], ⟨rfl, .inl ⟨rfl, rfl⟩⟩, TmsIn.nil_⟩, hg, hd⟩)
  clear N1 hg hd
  go_wp2_with fail
  go_loopw [5, 6] (fun a i wr => ∃ k : Nat, k ≤ r + 1 ∧ i = .int .i64 (1 + (r : Int) - (k : Int)) ∧ Hid (TRel w D a k wr)) (fun _ i _ => (intOf i).toNat)
  case atStart => exact ⟨0, Nat.zero_le _, by go_num, H1⟩
  case round =>
    clear H1
    obtain ⟨k, hk, rfl, HB⟩ := hrel
    by_cases hlt : k < r + 1
    · have d1 : decide ((0 : Int) < 1 + (r : Int) - (k : Int)) = true := by simp; omega
      obtain ⟨L, hLk, hv, hheld, hgr, hdi⟩ := HB.out
      have HT := Lib.hid (dice_template D kd HKD.out wr hdi)
      go_wp2_with fail
      refine HT.out.mono ?_
      rintro e w2 ⟨x, A1, c1, rfl, hvx, _, h0, hs, hg, hd⟩
      have hheld2 := hheld.dice hg hDw
      obtain ⟨cs0, hc0, _⟩ := hheld
      obtain ⟨cs, hc1, hc2⟩ := hheld2
      have hs2 : SeesP w2 (fun b => newB w w2 b ∧ u5.ownBlock ≠ some b) A1 (Us x.d) := hs.imp fun b hb => ⟨newB_imp hb hgr.size (Nat.le_refl _), fun e => by have := (own_lt3 hc0 b e).2; have := hb.1; omega⟩
      have H2 := Lib.hid (show _ ∧ _ ∧ _ ∧ _ from ⟨grown_trans hgr hg, hd, h0, hs2⟩)
      have HC := Lib.hid (show _ ∧ _ from ⟨hc1, hc2⟩)
      have HV := Lib.hid (show ∀ y ∈ L ++ [x], vT y = 0 from fun y hy => by
        rcases List.mem_append.1 hy with h | h
        · exact hv y h
        · rw [List.mem_singleton] at h; subst h; exact hvx)
      have HLK := Lib.hid hLk
      have hL3 : L.length ≤ 3 := by omega
      clear HT hgr hdi hvx h0 hs hg hd hc0 hc1 hc2 hs2 hv HB hLk
      go_wp2_with (first
        | ((with_reducible refine at_any_ (d := 18) ?_); go_must (refine wpList_bslV rfl 22 27 1 _ rfl Try.underlying22 (pe1 rfl) (bst_tm x A1 c1) ?_); intro g w3 hf hr; have H3 := Lib.hid (show _ ∧ _ from ⟨hf, hr⟩); clear hf hr)
        | ((with_reducible refine at_any_ (d := 19) ?_); go_must (refine wpList_append_lies _ rfl (.tmp 14) (.tmp 18) 22 rfl w.heap.size 27 i0 _ 7 72 Try.underlying22 hi hz0 hz1 hz2 rfl (by decide) u5 L.length cs rfl (own3_on HC.out.1 H3.out.1.bw) ⟨g, 0, none⟩ 1 1 (x.cs A1 c1) rfl rfl H3.out.2.src (cs_one _ _ _) (by decide) (by unfold maxLen; omega) (by omega) (Nat.le_trans H2.out.1.size H3.out.1.bw.size) _ rfl ?_); intro g6 c6 w4 ho hg3 hl hlt3; have H4 := Lib.hid (show HeldT w w4 _ (L ++ [x]) ∧ w.grownBy w4 (some D) ∧ DiceOk w4 D from ⟨HeldT.snoc2 (w1 := w2) (wa := w3) H3.out.1.bw H2.out.2.2.1 H2.out.2.2.2 cs HC.out.1 HC.out.2 rfl ho hg3 hl, grown_row (H2.out.1.on H3.out.1.bw) hg3 (fun k e => (own_lt3 HC.out.1 k e).1), (H2.out.2.1.below H3.out.1.bw).grown hg3 (fun k e => Nat.lt_of_lt_of_le hDw (own_lt3 HC.out.1 k e).1)⟩); clear ho hg3 hl hlt3))
      go_roundw
      case rel => exact ⟨k + 1, by omega, by go_num, Lib.hid ⟨L ++ [x], by rw [List.length_append, HLK.out]; rfl, HV.out, H4.out.1, H4.out.2.1, H4.out.2.2⟩⟩
      case measure => simp [intOf]; omega
    · obtain rfl : k = r + 1 := by omega
      have d1 : decide ((0 : Int) < 1 + (r : Int) - ((r + 1 : Nat) : Int)) = false := by simp; omega
      obtain ⟨L, hLk, hv, hheld, hgr, hdi⟩ := HB.out
      have HF := Lib.hid (show TmsIs w D (.returned u5) wr from ⟨u5, L, rfl, by omega, by omega, hv, hheld, hgr, hdi⟩)
      clear hLk hv hheld hgr hdi HB
      go_wp2_with fail
      go_ret
      exact HF.out
end Go.Proofs.Ytobbnedojmcgoaa
