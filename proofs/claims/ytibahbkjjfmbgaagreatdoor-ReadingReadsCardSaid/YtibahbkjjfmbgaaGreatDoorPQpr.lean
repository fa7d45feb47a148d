/-
  What is proved here: the program's Readings, for any reading.
-/
import Derived.Test.YtibahbkjjfmbgaaGreatDoorPQ1
namespace Go.Proofs.YtibahbkjjfmbgaaGreatDoor
open Go.RowKit Go.Shelf
set_option linter.unusedVariables false
attribute [local go_sem] Oper.semAt_some
def ApI (w : World) (g2 hi : Nat) (pre : List (List (List UInt8))) (X : World) : Prop :=
 ∃ (A : Option Addr) (m c : Nat) (vs : List Value), RowV X g2 [.slice A m c] ∧ pre.length = m ∧ X.ownsRow hi 25 1 (.slice A m c) m vs ∧ RdO X hi (.slice A m c) vs pre ∧ Below w.heap.size w X ∧ (m = 0 → A = none)
theorem ApI.turns {w X Y : World} {g2 hi lo : Nat} {pre : List (List (List UInt8))} (h : ApI w g2 hi pre X) (hg : g2 < lo) (hw : w.heap.size ≤ lo) (ht : Turns lo hi X Y) : ApI w g2 hi pre Y := by
 obtain ⟨A, m, c, vs, h1, h2, h3, h4, h5, h6⟩ := h
 refine ⟨A, m, c, vs, h1.below ht.1 hg, h2, ⟨h3.1, h3.2.imp id ?_⟩, h4.keep fun g hg _ hlt => ht.2 g hg hlt, h5.trans (ht.1.mono hw), h6⟩
 rintro ⟨g, cap, cur, a1, a2, a3, a4⟩
 have hlt : g < X.heap.size := (Array.getElem?_eq_some_iff.1 a3).1
 exact ⟨g, cap, cur, a1, a2, (ht.2 g a2 hlt).trans a3, a4⟩
theorem row_apart {X : World} {hi m c gg : Nat} {A : Option Addr} {vs : List Value} {pre : List (List (List UInt8))} {x : List (List UInt8)} {e : TypeId} (h : X.ownsRow hi e 1 (.slice A m c) m vs) (hr : RdO X hi (.slice A m c) vs pre) (hm : pre.length = m) (h0 : m = 0 → A = none) (hx : RowV X gg (strV x)) : (Value.slice A m c).ownBlock ≠ some gg := by
 intro e1
 rcases h.2 with ⟨hv, _⟩ | ⟨g, cap, cur, hv, _, hh, _, _, _, ht⟩
 · injection hv with h1; subst h1; cases e1
 ·
  injection hv with h1
  subst h1
  have hg : g = gg := by simpa [Value.ownBlock] using e1
  subst hg
  obtain ⟨ty, hx⟩ := hx
  rw [hh] at hx
  injection hx with hx
  injection hx with hc _ _
  rcases Nat.eq_zero_or_pos m with hm0 | hm0
  · cases h0 hm0
  · obtain ⟨k, _, _, h3, _⟩ := hr.2 0 (pre[0]'(by omega)) (List.getElem?_eq_getElem (by omega))
    rw [← ht, hc, Nat.mul_one, List.getElem?_take, if_pos hm0] at h3
    rcases x with _ | ⟨a, t⟩
    · simp [strV] at h3
    · simp [strV] at h3
def RdgM (w w' : World) (A : Option Addr) (X : List (List (List UInt8))) : Prop := ∀ Y : World, w'.heap.size ≤ Y.heap.size → (∀ g, w.heap.size ≤ g → g < w'.heap.size → Y.heap[g]? = w'.heap[g]?) → Rdg Y A X
theorem RdgM.self {w w' : World} {A : Option Addr} {X : List (List (List UInt8))} (h : RdgM w w' A X) : Rdg w' A X := h w' (Nat.le_refl _) fun _ _ _ => rfl
theorem rdgM_of {w w' : World} {hi n c : Nat} {A : Option Addr} {vs : List Value} {Xs : List (List (List UInt8))} (h : w'.ownsRow hi 25 1 (.slice A n c) n vs) (hr : RdO w' hi (.slice A n c) vs Xs) (hw : w.heap.size ≤ hi) : RdgM w w' A Xs := by
 intro Y _ hY
 refine rdg_of (w := Y) (base := hi) (base' := hi) ⟨h.1, h.2.imp id ?_⟩ (hr.keep fun g h1 _ h2 => hY g (Nat.le_trans hw h1) h2)
 rintro ⟨g, cap, cur, h1, h2, h3, h4⟩
 exact ⟨g, cap, cur, h1, h2, (hY g (Nat.le_trans hw h2) (Array.getElem?_eq_some_iff.1 h3).1).trans h3, h4⟩
theorem RdgM.nil_ {w w' : World} : RdgM w w' none [] := fun Y _ _ => ⟨[], .inl rfl, rfl, fun i r h => by simp at h⟩
theorem RdgM.up {w v w' : World} {A : Option Addr} {X : List (List (List UInt8))} (h : RdgM v w' A X) (hb : w.heap.size ≤ v.heap.size) : RdgM w w' A X := fun Y h1 h2 => h Y h1 fun g h3 h4 => h2 g (Nat.le_trans hb h3) h4
theorem size_sss : (Tryz.prog.info? 27).map (·.size) = some 1 := by kernel_rfl
theorem own_wr {w w' : World} {base : Nat} {e : TypeId} {s n g : Nat} {v : Value} {xs : List Value} (h : w.ownsRow base e s v n xs) (hw : Wr w w' g) (hg : g < base) : w'.ownsRow base e s v n xs := by
 refine ⟨h.1, h.2.imp id ?_⟩
 rintro ⟨k, cap, cur, h1, h2, h3, h4⟩
 exact ⟨k, cap, cur, h1, h2, (hw.2.2.2.2 k (by omega)).trans h3, h4⟩
set_option maxRecDepth 100000 in
set_option maxHeartbeats 2000000 in
theorem p_appseq {gf : Nat} {lb : Array Value} {xs : List (List (List UInt8))} {RdW : World → Prop} {w0 : World} (hseq : SeqX Tryz.prog gf lb xs RdW w0) (hle : xs.length ≤ 4096) (eg : ∀ args w, (callFunc gf args).run Tryz.prog w = .ok (.enter gf args) w)
 (w : World) (hw0 : Below w0.heap.size w0 w) (hR : ∀ X, Below w.heap.size w X → RdW X) :
 Calls Tryz.prog 82 #[.slice none 0 0, .func (.func gf) #[] lb] w fun e w' => ∃ A c, e = .returned (.slice A xs.length c) ∧ RdgM w w' A xs ∧ Below w.heap.size w w' := by
 obtain ⟨i1, hj1, hj2, hj3, hj4⟩ := info_parts info_ss
 have HQ := Lib.hid hseq
 have HW0 := Lib.hid (show _ ∧ _ ∧ _ from ⟨hw0, hR, eg⟩)
 have HO := Lib.hid (Own.start w)
 clear hseq hw0 hR eg
 refine (callsIn_wide (n := 9)).1 ?_
 refine callsIn_of_wp_marks Tryz.func82 rfl trivial ?_ rfl
 simp only [Tryz.ntmps82, List.size_toArray, List.length_cons, List.length_nil, Nat.reduceAdd, Nat.reduceSub, Array.replicate_succ, Array.replicate_zero, List.push_toArray, List.append_toArray, List.nil_append, List.cons_append]
 refine wpIn_wide.2 ?_
 go_wp2_with (first
  | ((with_reducible refine at_box_ (d := 2) ?_); refine wpList_box_1 (op := ⟨some 2, _, _, _, _, _⟩) rfl _ _ rfl (.slice none 0 0) rfl rfl ?_; intro g2 v2b hf hr; replace HO := Lib.hid (HO.out.new hf hr); clear hf hr))
 have HG := Lib.hid (show _ ∧ _ from ⟨HO.out.ge (i := 0) rfl, (HO.out.row (i := 0) rfl).lt⟩)
 have HR2 := Lib.hid (HO.out.row (i := 0) rfl)
 have HB2 := Lib.hid HO.out.bl
 clear HO
 refine wpIn_wide.1 (?_ : Code.wpIn Fence.wide 9 _ _ _ _ _)
 refine range_x HQ.out (HW0.out.1.trans (HB2.out.mono HW0.out.1.size)) (gf := gf) (lb := lb) rfl HW0.out.2.2 rfl
  (fun hi pre X => ApI w g2 hi pre X) (fun _ _ _ => False)
  (fun hi s X Y h hh ht => h.turns HG.out.2 HB2.out.size ht)
  (fun hi s X Y h _ _ => h)
  (fun hi s X h => by obtain ⟨A, m, c, vs, _, _, _, _, h5, _⟩ := h; exact HW0.out.2.1 X h5)
  (fun hi X hX h1 h2 => ⟨none, 0, 0, [], HR2.out.on hX, rfl, World.ownsRow_nil _ _ _ 1, RdO.nil_, HB2.out.trans (hX.mono HB2.out.size), fun _ => rfl⟩)
  (fun x gg => { tmps := #[.slice none 0 0, .func (.func gf) #[] lb, .pointer (some ⟨g2, 0, none⟩), undef, .slice none 0 0, .slice (some ⟨gg, 0, none⟩) x.length x.length, .func (.func gf) #[] lb, .slice (some ⟨gg, 0, none⟩) x.length x.length, undef, undef, undef, undef, undef], defers := [] }) ?assign ?body ?done ?stop
 case assign =>
  intro l2 gg x X K hK
  gi_wp2
  exact hK
 case body =>
  rintro l2 hi pre x gg X hI hhi hgg hpx hrow
  obtain ⟨A, m, c, vs, h1, h2, h3, h4, h5, h6⟩ := hI
  have hAp := row_apart h3 h4 h2 h6 hrow
  have hml : m ≤ 4096 := by
   have := hpx.length_le
   rw [List.length_append] at this
   omega
  have HI := Lib.hid (show _ ∧ _ ∧ _ ∧ _ ∧ _ ∧ _ from ⟨h1, h2, h3, h4, h5, hrow⟩)
  have HH := Lib.hid (show _ ∧ _ from ⟨hhi, hgg⟩)
  have HAP := Lib.hid hAp
  clear h1 h2 h3 h4 h5 h6 hrow hpx hhi hgg hAp
  gi_wp2_with (first
   | ((with_reducible refine at_loadIn_ (d := 8) ?_); refine list_round (by rintro ⟨_, _, h⟩; exact h) _ _ _ (by kernel_rfl) ?_))
  go_wp2_with (first
   | ((with_reducible refine at_load_ (d := 8) ?_); refine wpList_load_c rfl _ _ rfl g2 0 rfl _ (HI.out.1.cell 0) (fun w => by kernel_rfl) ?_)
   | ((with_reducible refine at_call_ (d := 11) ?_); (refine wpList_append_own_at _ rfl (.tmp 8) (.tmp 10) 27 rfl hi 25 i1 nilS 1 24 Tryz.underlying27 hj1 hj2 hj3 hj4 rfl (by decide) (.slice A m c) m vs rfl (HI.out.2.2.1.alloc _) ⟨_, 0, none⟩ 1 1 [_] rfl rfl (news_of_one _ _ _) (one_sl _ _ _) (by unfold maxLen; omega) (by omega) (by have h1 := HH.out.2; have h2 := HI.out.2.2.2.2.2.lt; simp; omega) ?_; intro v3 w4 ho3 hg3 _ hk3; obtain ⟨A3, c3, rfl⟩ := own_len ho3; have HR := Lib.hid (show _ ∧ _ ∧ _ from ⟨ho3, hg3, hk3⟩); have HR4 := Lib.hid (show RowV w4 g2 [.slice A m c] from ((HI.out.1.on ((Below.refl _ _).alloc (Nat.le_refl _) (.cells #[.slice (some ⟨gg, 0, none⟩) x.length x.length] 25))).same (hg3.block g2 (by have := HI.out.1.lt; simp; omega) (fun e => by have := (HI.out.2.2.1.lt g2 e.symm).1; have := HG.out.2; have := HH.out.1; omega)))); clear ho3 hg3 hk3))
   | ((with_reducible refine at_store_ (i := 2) ?_); refine wpList_store_at rfl _ (.tmp 2) _ rfl g2 0 [.slice A m c] (.slice A3 (m + 1) c3) rfl rfl (HR4.out) Nat.one_pos rfl rfl size_sss ?_; intro v2s hw hr; have HW := Lib.hid (show _ ∧ _ from ⟨hw, hr⟩); clear hw hr))
  obtain ⟨q1, q2, q3, q4, q5, q6⟩ := HI.out
  obtain ⟨r1, r2, r3⟩ := HR.out
  obtain ⟨hw, hr⟩ := HW.out
  have hg2 := HG.out.2
  have hh1 := HH.out.1
  have hh2 := HH.out.2
  have hal : Below X.heap.size X (X.alloc (.cells #[.slice (some ⟨gg, 0, none⟩) x.length x.length] 25)) := (Below.refl _ _).alloc (Nat.le_refl _) _
  have hown : ∀ k, (Value.slice A m c).ownBlock = some k → hi ≤ k ∧ k < X.heap.size := fun k e => q3.lt k e
  have hgx : gg < X.heap.size := q6.lt
  have hsn := (q4.on hal).snoc (x := x) (g := gg) r2 r3 hh2 HAP.out (q6.on hal)
  refine ⟨⟨?_, fun q h1 h2 h3 => ?_⟩, A3, m + 1, c3, _, hr, by simp [q2], own_wr r1 hw (by omega), hsn.keep fun g h1 _ _ => hw.2.2.2.2 g (by omega), ?_, ?_⟩
  · rw [hw.2.2.2.1]; exact Nat.le_trans hal.size r2.size
  · refine (hw.2.2.2.2 q (by omega)).trans ((r2.block q (by have := hal.size; omega) (fun e => ?_)).trans (hal.block q h3))
    have := (hown q e.symm).1
    omega
  · refine Wr.bl ((q5.alloc q5.size _).grown r2 (by have := q5.size; simp; omega) (fun k e => ?_)) hw HG.out.1
    have := (hown k e).1
    have := HB2.out.size
    omega
  · exact fun e => by omega
 case done =>
  rintro hi D X hD1 hD2 hI hK
  obtain ⟨A, m, c, vs, h1, h2, h3, h4, h5, _⟩ := hI.turns HG.out.2 HB2.out.size (Turns.putObj (lo := v2b.heap.size) (.deferred none) hD1 hD2)
  obtain ⟨A', m', c', vs', k1, k2, k3, k4, k5, _⟩ := hI
  have hcl := k1.cell 0
  simp only [List.getElem?_cons_zero] at hcl
  have he : (RowV (X.putObj D (.deferred none)) g2 [.slice A' m' c']) := k1.same (World.putObj_heap_other (by have := HG.out.2; omega))
  have hee : (Value.slice A m c) = .slice A' m' c' := by
   have e1 := h1.cell 0
   have e2 := he.cell 0
   simp only [List.getElem?_cons_zero] at e1 e2
   rw [e1] at e2
   injection e2
  injection hee with e1 e2 e3
  subst e1 e2 e3
  have HF := Lib.hid (show _ ∧ _ ∧ _ from ⟨rdgM_of (w := w) h3 h4 (by have := HB2.out.size; omega), h5, h2⟩)
  have HCL := Lib.hid hcl
  clear h1 h2 h3 h4 h5 k1 k2 k3 k4 k5 he hcl
  go_wp2_with (first
   | ((with_reducible refine at_load_ (d := 12) ?_); refine wpList_load_c rfl _ _ rfl g2 0 rfl _ HCL.out (fun w => by kernel_rfl) ?_))
  refine ⟨by simp, .inl ⟨_, _, rfl, run_takeDeferred hK, ?_⟩⟩
  exact ⟨_, results_tmp rfl _ _ _, A, c, by rw [HF.out.2.2]; rfl, HF.out.1, HF.out.2.1⟩
 case stop =>
  rintro hi D pre X hD1 hD2 hp hI hK
  exact hI.elim
set_option maxHeartbeats 1000000 in
theorem p_collect {gf : Nat} {lb : Array Value} {xs : List (List (List UInt8))} {RdW : World → Prop} {w0 : World} (hseq : SeqX Tryz.prog gf lb xs RdW w0) (hle : xs.length ≤ 4096) (eg : ∀ args w, (callFunc gf args).run Tryz.prog w = .ok (.enter gf args) w)
 (w : World) (hw0 : Below w0.heap.size w0 w) (hR : ∀ X, Below w.heap.size w X → RdW X) :
 Calls Tryz.prog 49 #[.func (.func gf) #[] lb] w fun e w' => ∃ A c, e = .returned (.slice A xs.length c) ∧ RdgM w w' A xs ∧ Below w.heap.size w w' := by
 have HP := Lib.hid (p_appseq hseq hle eg w hw0 hR)
 obtain ⟨n, hn⟩ : ∃ n, xs.length = n := ⟨_, rfl⟩
 rw [hn] at HP ⊢
 clear hseq hle hw0 hR eg hn
 go_enter Tryz.func49, Tryz.ntmps49
 go_wp2_with (first
  | (go_at_call 82; ((with_reducible refine HP.out.mono ?_); rintro e w1 ⟨A, c, rfl, hx, hb⟩); have HX := Lib.hid (show _ ∧ _ from ⟨hx, hb⟩); clear hx hb))
 go_ret
 exact ⟨A, c, rfl, HX.out.1, HX.out.2⟩
set_option maxHeartbeats 1600000 in
theorem p_readingsM (L : List (List (List UInt8))) (hf : Fits3 L) (A : Option Addr) (n c : Nat) (hn : L.length = n) (w : World) (hM : Mm w) (hs : Rdg w A L) :
 Calls Tryz.prog 20 #[.slice A n c] w fun e w' => ∃ A' c', e = .returned (.tuple #[.slice A' (rdsL L).length c', .int .i64 (cntE L)]) ∧ RdgM w w' A' (rdsL L) ∧ Below w.heap.size w w' := by
 obtain ⟨ce, hce⟩ : ∃ ce, cntE L = ce := ⟨_, rfl⟩
 obtain ⟨cv, hcv⟩ : ∃ cv, cntV L = cv := ⟨_, rfl⟩
 have HC := Lib.hid (p_count L A n c hn hf w hs)
 rw [hce, hcv] at HC
 by_cases h0 : ce = 0
 ·
  subst h0
  have hcp := cnt_cmpl hce
  have hrd : rdsL L = rdL L := by unfold rdsL; rw [if_pos hce]
  have hle := rdL_le hce
  rw [hrd, hce]
  have HCL : Hid (∀ (w1 : World) (lR : Nat), w1.cell? ⟨lR, 0, none⟩ = some (.slice A n c) → Rdg w1 A L → Mm w1 → Calls Tryz.prog 49 #[.func (.func 83) #[] #[.pointer (some ⟨lR, 0, none⟩)]] w1 fun e w' => ∃ A' c', e = .returned (.slice A' (rdL L).length c') ∧ RdgM w1 w' A' (rdL L) ∧ Below w1.heap.size w1 w') := Lib.hid (fun w1 lR h1 h2 h3 =>
   p_collect (rd_seq L hcp hf A n c lR hn w1 h1 h2) hle (enters_of Tryz.func83 (by kernel_rfl) rfl) w1 (Below.refl _ _) (fun X hX => h3.on hX))
  have HS := Lib.hid (show _ ∧ _ from ⟨hs, hM⟩)
  obtain ⟨ln, hln⟩ : ∃ ln, (rdL L).length = ln := ⟨_, rfl⟩
  rw [hln] at HCL ⊢
  clear hcp hrd hle hs hM hf hn hce hcv hln
  go_enter Tryz.func20, Tryz.ntmps20
  go_wp2_with (first
   | (go_at_call 31; ((with_reducible refine HC.out.mono ?_); rintro e w1 ⟨rfl, hb⟩); have HB := Lib.hid hb; clear hb)
   | (go_at_call 50; ((with_reducible refine (p_readings0 _ _ _ _).mono ?_); rintro e w2 ⟨rfl, hw2⟩); have HB2 := Lib.hid (show Below w1.heap.size w1 w2 from by rw [hw2]; exact (Below.refl _ _).alloc (Nat.le_refl _) _); have HCE := Lib.hid (show w2.cell? ⟨w1.heap.size, 0, none⟩ = some (.slice A n c) from by rw [hw2]; exact cell_alloc1 _ _ _ _); clear hw2)
   | (go_at_call 49; ((with_reducible refine (HCL.out _ _ HCE.out ((HS.out.1.on HB.out).on HB2.out) ((HS.out.2.on HB.out).on HB2.out)).mono ?_); rintro e w3 ⟨A', c', rfl, hx, hb⟩); have HX := Lib.hid (show _ ∧ _ from ⟨hx, hb⟩); clear hx hb))
  go_ret2
  exact ⟨A', c', rfl, HX.out.1.up (below_on HB.out HB2.out).size, below_on (below_on HB.out HB2.out) HX.out.2⟩
 · have hrd : rdsL L = [] := by unfold rdsL; rw [if_neg (by rw [hce]; exact h0)]
   rw [hrd, hce]
   have hce0 : (ce = 0) = False := by simpa using h0
   have hce1 : (ce == 0) = false := by simpa using h0
   have hce2 : (ce != 0) = true := by simpa using h0
   clear h0 hce hcv hrd hs hM hf hn
   go_enter Tryz.func20, Tryz.ntmps20
   go_wp2_with (first
    | (go_at_call 31; ((with_reducible refine HC.out.mono ?_); rintro e w1 ⟨rfl, hb1⟩); have HB := Lib.hid hb1; clear hb1))
   go_ret2
   exact ⟨none, 0, rfl, RdgM.nil_, HB.out⟩
theorem p_readings (L : List (List (List UInt8))) (hf : Fits3 L) (A : Option Addr) (n c : Nat) (hn : L.length = n) (w : World) (hM : Mm w) (hs : Rdg w A L) :
 Calls Tryz.prog 20 #[.slice A n c] w fun e w' => ∃ A' c', e = .returned (.tuple #[.slice A' (rdsL L).length c', .int .i64 (cntE L)]) ∧ Rdg w' A' (rdsL L) ∧ Below w.heap.size w w' :=
 (p_readingsM L hf A n c hn w hM hs).mono fun _ _ ⟨A', c', h1, h2, h3⟩ => ⟨A', c', h1, h2.self, h3⟩
end Go.Proofs.YtibahbkjjfmbgaaGreatDoor
