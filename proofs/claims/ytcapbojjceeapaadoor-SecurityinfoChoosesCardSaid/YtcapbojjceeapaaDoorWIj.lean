/-
  What is proved here: the program's object of an info.
-/
import Derived.Test.YtcapbojjceeapaaDoorWIo
namespace Go.Proofs.YtcapbojjceeapaaDoor
open Go.RowKit
set_option maxRecDepth 8000
set_option linter.unusedVariables false
set_option linter.unusedSimpArgs false
theorem o_ext {P : Program} {a : Act} {w : World} {K : Act → World → Prop} {Q : Exit → Act → World → Prop} {o : Oper} (x : Operand) (i : Nat) (ho : o.op = .extract x i) {vs : Array Value} {v : Value} (hx : a.eval x = .tuple vs) (hv : vs[i]? = some v) (hK : K (a.put o.dst v) w) : o.wp P a w K Q := by
  unfold Oper.wp execOp
  simp [ho, hx, hv, Instr.extract, Result.andThen]
  exact hK
theorem numF_app (x : Im) : ∀ l m, numF x (l ++ m) = (numF x l).app (numF x m)
  | [], m => rfl
  | (t, s, c) :: r, m => by simp only [List.cons_append, numF, F.app]; rw [numF_app x r m]
theorem numF_len (x : Im) : ∀ l, (numF x l).len = l.length
  | [] => rfl
  | (t, s, c) :: r => by simp only [numF, F.len, List.length_cons]; rw [numF_len x r]
theorem numF_take (x : Im) {l : List (Int × Nat × Nat)} {j : Nat} {t : Int} {s c : Nat} (h : l[j]? = some (t, s, c)) : numF x (l.take (j + 1)) = (numF x (l.take j)).app (.cons t (octL (x.get c).toNat s) .nil .nil) := by
  have e : l.take (j + 1) = l.take j ++ [(t, s, c)] := by rw [List.take_add_one, h]; rfl
  rw [e, numF_app]; rfl
theorem num_ok {x : Im} (hv : oneI x = 0) {j : Nat} {t : Int} {s c : Nat} (h : (numsI x.p)[j]? = some (t, s, c)) : ∃ n : Nat, x.cs[c]? = some (.int .i64 (n : Int)) ∧ (x.get c).toNat = n ∧ n < 256 ^ s ∧ s ≤ 7 := by
  obtain ⟨h1, h2, h3, h4, h5⟩ := oneI_bd hv
  have nn : ∀ z : Int, 0 ≤ z → Value.int .i64 z = .int .i64 ((z.toNat : Nat) : Int) := fun z hz => by rw [Int.toNat_of_nonneg hz]
  have hm := List.mem_of_getElem? h
  unfold numsI at hm
  have hc : (t, s, c) = (2, 1, 1) ∨ (t, s, c) = (2, 1, 2) ∨ (t, s, c) = (4, 4, 3) ∨ (t, s, c) = (2, 1, 4) := by
    rcases List.mem_cons.1 hm with h | h
    · exact .inl h
    · split at h
      · simp at h; exact .inr (.inl (by simp [h]))
      · split at h
        · simp at h
          rcases h with h | h
          · exact .inr (.inr (.inl (by simp [h])))
          · exact .inr (.inr (.inr (by simp [h])))
        · cases h
  simp only [Prod.mk.injEq] at hc
  rcases hc with ⟨rfl, rfl, rfl⟩ | ⟨rfl, rfl, rfl⟩ | ⟨rfl, rfl, rfl⟩ | ⟨rfl, rfl, rfl⟩
  · exact ⟨x.v.toNat, congrArg some (nn _ (by omega)), rfl, by omega, by decide⟩
  · exact ⟨x.a.toNat, congrArg some (nn _ (by omega)), rfl, by omega, by decide⟩
  · exact ⟨x.k.toNat, congrArg some (nn _ (by omega)), rfl, by omega, by decide⟩
  · exact ⟨x.i.toNat, congrArg some (nn _ (by omega)), rfl, by omega, by decide⟩
theorem numsI_len (p : Int) : 1 ≤ (numsI p).length ∧ (numsI p).length ≤ 3 := by
  unfold numsI
  split
  · exact ⟨by decide, by decide⟩
  · split <;> exact ⟨by decide, by decide⟩
theorem fa_n1 (g : Nat) (w : World) : (Instr.fieldAt 98 (.pointer (some ⟨g, 0, none⟩)) 1).run Tryd.prog w = .ok (.pointer (some ⟨g, 1, none⟩)) w := by kernel_rfl
theorem fa_n2 (g : Nat) (w : World) : (Instr.fieldAt 98 (.pointer (some ⟨g, 0, none⟩)) 2).run Tryd.prog w = .ok (.pointer (some ⟨g, 2, none⟩)) w := by kernel_rfl
theorem ag_i : ∀ w, (isAgg 3).run Tryd.prog w = .ok false w := fun w => by kernel_rfl
theorem ag_p : ∀ w, (isAgg 96).run Tryd.prog w = .ok false w := fun w => by kernel_rfl
theorem ev2 {a : Act} {x y : Operand} {u v : Value} (h : a.eval x = u) (h2 : a.eval y = v) : (#[x, y] : Array Operand).map a.eval = #[u, v] := by simp [h, h2]
def zerM : List Value := [.int .i64 0, .int .i64 0, .pointer none]
theorem info_m : (Tryd.prog.info? 98).map (·.zero) = some (some (.agg zerM.toArray)) := by kernel_rfl
theorem size_m : (Tryd.prog.info? 98).map (·.size) = some 3 := by kernel_rfl
def OctT (w0 : World) (x : List UInt8) (n : Nat) (u : Value) (c : World) : Prop := ∃ A cv, u = .tuple #[.slice A n cv, .int .i64 0] ∧ ((A = none → cv = 0) ∧ n ≤ cv) ∧ SeesP c (newB w0 c) A (Us x)
def OctS (w0 : World) (x : List UInt8) (n : Nat) (u : Value) (c : World) : Prop := ∃ A cv, u = .slice A n cv ∧ ((A = none → cv = 0) ∧ n ≤ cv) ∧ SeesP c (newB w0 c) A (Us x)
theorem OctT.firm (w0 : World) (x : List UInt8) (n : Nat) : Firm (OctT w0 x n) := by
  rintro u c c' ⟨A, cv, h1, h2, h3⟩ hb
  exact ⟨A, cv, h1, h2, h3.newOn hb⟩
theorem OctS.firm (w0 : World) (x : List UInt8) (n : Nat) : Firm (OctS w0 x n) := by
  rintro u c c' ⟨A, cv, h1, h2, h3⟩ hb
  exact ⟨A, cv, h1, h2, h3.newOn hb⟩
def idF (p : Int) : F := .cons 6 (idL p) .nil .nil
theorem kidF_eq (x : Im) : (idF x.p).app (numF x (numsI x.p)) = kidF x := rfl
def NumK (w4 w5 : World) (v : Value) (c : World) : Prop := (∀ k, v.ownBlock = some k → k < w4.heap.size ∨ w5.heap.size ≤ k) ∧ (∀ k, w4.heap.size ≤ k → k < w5.heap.size → c.heap[k]? = w5.heap[k]?) ∧ w5.heap.size ≤ c.heap.size
theorem NumK.on {w4 w5 c c' : World} {v : Value} (h : NumK w4 w5 v c) (hb : Below c.heap.size c c') : NumK w4 w5 v c' :=
  ⟨h.1, fun k h1 h2 => (hb.block k (Nat.lt_of_lt_of_le h2 h.2.2)).trans (h.2.1 k h1 h2), Nat.le_trans h.2.2 hb.size⟩
theorem NumK.grown {w4 w5 c c' : World} {v : Value} {g n cap : Nat} (h : NumK w4 w5 v c) (hg : c.grownBy c' v.ownBlock) (hl : v.ownBlock = some g ∨ g = c.heap.size) : NumK w4 w5 (.slice (some ⟨g, 0, none⟩) n cap) c' := by
  refine ⟨fun k e => ?_, fun k h1 h2 => (hg.block k (Nat.lt_of_lt_of_le h2 h.2.2) fun e => ?_).trans (h.2.1 k h1 h2), Nat.le_trans h.2.2 hg.size⟩
  · have e : g = k := by simpa [Value.ownBlock] using e
    subst e
    rcases hl with hl | hl
    · exact h.1 _ hl
    · right; rw [hl]; exact h.2.2
  · rcases h.1 _ e.symm with h3 | h3 <;> omega
def InfoIs (x : Im) (w : World) (e : Ending) (w' : World) : Prop := ∃ A2 c2, e = .returned (.agg (nodV 48 none 0 0 A2 (kidF x).len c2).toArray) ∧ (kidF x).len ≤ c2 ∧ SeesN w' (newB w w') A2 (kidF x) ∧ Below w.heap.size w w'
set_option maxHeartbeats 6400000 in
set_option maxRecDepth 20000 in
theorem p_info_obj (x : Im) (hv : oneI x = 0) (w : World) (ht : TabX w) : Calls Tryd.prog 48 #[.agg x.cs.toArray] w (InfoIs x w) := by
  obtain ⟨i0, hi, hz0, hz1, hz2⟩ := info_parts info_node
  obtain ⟨n, hn⟩ : ∃ n, (numsI x.p).length = n := ⟨_, rfl⟩
  have hn3 := numsI_len x.p
  rw [hn] at hn3
  obtain ⟨us, hus⟩ : ∃ us, x.cs = us := ⟨_, rfl⟩
  obtain ⟨p, hp⟩ : ∃ p, x.p = p := ⟨_, rfl⟩
  have hb := (oneI_bd hv).1
  have hnum := fun (j : Nat) (t : Int) (s c : Nat) (h : (numsI x.p)[j]? = some (t, s, c)) => num_ok hv h
  have HU := Lib.hid (show us.length = 5 ∧ us[0]? = some (.int .i64 p) ∧ (kidF x).len = n + 1 ∧ x.p = p from ⟨by rw [← hus]; rfl, by rw [← hus, ← hp]; rfl, by rw [← hn]; show (numF x (numsI x.p)).len + 1 = _; rw [numF_len], hp⟩)
  rw [hp] at hnum hn hb
  rw [hus] at hnum ⊢
  have HNM := Lib.hid hnum
  have HPR := Lib.hid hb
  have HN := Lib.hid hn
  have HT := Lib.hid ht
  have HB := Lib.hid (Below.refl w.heap.size w)
  clear ht hus hn hnum hp hb hv
  go_enter Tryd.func48, Tryd.ntmps48
  go_wp2_with (first
    | ((with_reducible refine at_box_ (d := 1) ?_); refine wpList_box_v (op := ⟨some 1, _, _, _, _, _⟩) rfl 44 _ rfl us rfl ?_; intro g1 w1 hf hr; have H1 := Lib.hid (show _ ∧ _ ∧ _ from ⟨hf.bl HB.out, hr, hf.ge HB.out⟩); clear hf hr)
    | ((with_reducible refine at_alloc_ (d := 2) ?_); refine wpList_alloc_v (op := ⟨some 2, _, _, _, _, _⟩) rfl 54 rfl zerN info_n ?_; intro g2 w2 hf hr; have H2 := Lib.hid (show _ ∧ _ ∧ _ ∧ _ ∧ _ from ⟨hf.bl H1.out.1, H1.out.2.1.fresh hf, hr, hf.ge H1.out.1, H1.out.2.1.ne hf⟩); have c0 := ((H1.out.2.1.fresh hf).cell 0).trans HU.out.2.1; clear hf hr)
    | (go_at_call 73; ((with_reducible refine (p_ident p HPR.out.1 HPR.out.2 _ (HT.out.on H2.out.1)).mono ?_); rintro e w3 ⟨g3, rfl, h1, h2, hb⟩); have H3 := Lib.hid (show _ ∧ _ ∧ _ from ⟨h1, h2, hb⟩); clear h1 h2 hb)
    | ((with_reducible refine at_any_ (d := 12) ?_); go_must (refine wpList_bslT rfl 52 54 1 _ rfl Tryd.underlying52 (pe1 rfl) (bs1 _ _ _) ?_); intro g4 w4 hf hh; have H4g := Lib.hid (show g4 < w4.heap.size from lt_of_block hh); have H4 := Lib.hid (show HeldN w2 w4 (.slice (some ⟨g4, 0, none⟩) 1 1) (idF p) ∧ Below w2.heap.size w2 w4 ∧ RowV w4 g1 us from by
        have hb4 := below_on H3.out.2.2 hf.bw
        refine ⟨⟨nodV 6 (some ⟨g3, 0, none⟩) 9 9 none 0 0, own_lit hh rfl (by decide) (hf.ge H3.out.2.2), some ⟨g3, 0, none⟩, 9, none, 0, [], [], by rw [idL_len]; rfl, ⟨(fun h => by cases h), by rw [idL_len]; exact Nat.le_refl _, Nat.le_refl _⟩, .inr ⟨g3, 0, rfl, ⟨⟨H3.out.1.1, Nat.lt_of_lt_of_le H3.out.1.2 hf.bw.size⟩, ?_⟩, fun j hj => by rw [Nat.zero_add, (H3.out.2.1.on hf.bw).cell]⟩, .inl rfl, rfl, rfl⟩, hb4, H2.out.2.1.on hb4⟩
        intro e
        have h5 := H3.out.1.2
        have h6 := hf.1
        simp [Value.ownBlock] at e
        omega); clear hf hh)
    | (go_at_call 74; ((with_reducible refine (p_nums p HPR.out.1 HPR.out.2 g1 _ H4.out.2.2.lt ((H4.out.2.2.cell 0).trans HU.out.2.1) n HN.out).mono ?_); rintro e w5 ⟨A5, c5, rfl, h1, h2, hb⟩); have H6 := Lib.hid (show _ ∧ _ ∧ HeldN w2 w5 (.slice (some ⟨g4, 0, none⟩) 1 1) (idF p) ∧ Below w2.heap.size w2 w5 ∧ RowV w5 g1 us from ⟨h1, h2, H4.out.1.on hb, below_on H4.out.2.1 hb, H4.out.2.2.on hb⟩); have HN4 := Lib.hid (show NumK w4 w5 (.slice (some ⟨g4, 0, none⟩) 1 1) w5 from ⟨fun k e => (by have e : g4 = k := (by simpa [Value.ownBlock] using e); subst e; exact .inl H4g.out), fun k _ _ => rfl, Nat.le_refl _⟩); clear h1 h2 hb))
  clear c0
  have HSZ := Lib.hid (show ∀ j, j < n → ∃ tt ss cc, (numsI p)[j]? = some (tt, ss, cc) from fun j hj => by
    have : j < (numsI p).length := by rw [HN.out]; exact hj
    exact ⟨_, _, _, List.getElem?_eq_getElem this⟩)
  go_loopw [3, 15] (fun vN i wr => ∃ (j : Nat), j ≤ n ∧ i = .int .i64 (j : Int) ∧ Hid (HeldN w2 wr vN ((idF p).app (numF x ((numsI p).take j))) ∧ Below w2.heap.size w2 wr ∧ NumK w4 w5 vN wr)) (fun _ i _ => n - (intOf i).toNat)
  case atStart => exact ⟨0, by omega, rfl, Lib.hid ⟨H6.out.2.2.1, H6.out.2.2.2.1, HN4.out⟩⟩
  case round =>
    obtain ⟨j, hj, rfl, HR⟩ := hrel
    by_cases hlt : j < n
    · have dj : decide ((j : Int) < (n : Int)) = true := by simp; omega
      obtain ⟨tt, ss, cc, hget⟩ := HSZ.out j hlt
      obtain ⟨nn, k1, k2, k3, k4⟩ := HNM.out _ _ _ _ hget
      have htk := numF_take x hget
      rw [k2] at htk
      have hcs := Ncs_get (b := g1) hget
      obtain ⟨fN, hfN⟩ : ∃ q, (idF p).app (numF x ((numsI p).take j)) = q := ⟨_, rfl⟩
      have hfl : fN.len = j + 1 := by rw [← hfN, F.len_app, numF_len, List.length_take, HN.out]; simp only [idF, F.len]; omega
      have hnext : (idF p).app (numF x ((numsI p).take (j + 1))) = fN.app (.cons tt (octL nn ss) .nil .nil) := by rw [htk, ← F.app_assoc, hfN]
      rw [hfN] at HR
      obtain ⟨A5, hA5⟩ : ∃ q, A5 = q := ⟨_, rfl⟩
      subst hA5
      have hNl : (Ncs g1 (numsI p)).length = 3 * n := by rw [Ncs_len, HN.out]
      obtain ⟨b5, o5, rfl, hb5, hc5⟩ : ∃ b o, A5 = some ⟨b, o, none⟩ ∧ newB w4 w5 b ∧ ∀ j, j < (Ncs g1 (numsI p)).length → w5.cell? ⟨b, o + j, none⟩ = (Ncs g1 (numsI p))[j]? := by
        rcases H6.out.2.1 with h | ⟨b, o, e, hb, hc⟩
        · rw [h] at hNl; simp at hNl; omega
        · exact ⟨b, o, e, hb, hc⟩
      have hr5 : ∀ cur : World, (∀ k, w4.heap.size ≤ k → k < w5.heap.size → cur.heap[k]? = w5.heap[k]?) → cur.rangeAt b5 (o5 + j * 3) [.int .i64 tt, .int .i64 (ss : Int), .pointer (some ⟨g1, cc, none⟩)] := by
        intro cur hcur i u hu
        have hi : i < 3 := by
          have := (List.getElem?_eq_some_iff.1 hu).1
          simpa using this
        rw [World.cell?_of_block (a := ⟨b5, o5 + j * 3 + i, none⟩) (hcur b5 hb5.1 hb5.2), Nat.add_assoc, hc5 _ (by omega), ← hu]
        obtain rfl | rfl | rfl : i = 0 ∨ i = 1 ∨ i = 2 := by omega
        · rw [Nat.mul_comm]; exact hcs.1
        · rw [Nat.mul_comm]; exact hcs.2.1
        · rw [Nat.mul_comm]; exact hcs.2.2
      have HNX := Lib.hid (show us[cc]? = some (.int .i64 (nn : Int)) ∧ nn < 256 ^ ss ∧ ss ≤ 7 from ⟨k1, k3, k4⟩)
      have HR5 := Lib.hid hr5
      have HT2 := Lib.hid hnext
      have hss : ss ≤ 7 := k4
      clear k1 k2 k3 k4 htk hcs hfN hnext hNl hb5 hc5 hr5 hget
      go_wp2_with (first
        | ((with_reducible refine at_load_ (d := 18) ?_); refine wpList_load_mid rfl 98 (.tmp 17) rfl b5 (o5 + j * 3) rfl [.int .i64 tt, .int .i64 (ss : Int), .pointer (some ⟨g1, cc, none⟩)] _ (HR5.out _ HR.out.2.2.2.1) Tryd.underlying98 rfl size_m ?_)
        | ((with_reducible refine at_alloc_ (d := 5) ?_); refine wpList_alloc_v (op := ⟨some 5, _, _, _, _, _⟩) rfl 98 rfl zerM info_m ?_; intro g5 wa hf hr; have HG := Lib.hid (show _ ∧ _ from ⟨hf, hr⟩); clear hf hr)
        | ((with_reducible refine at_store_ (i := 5) ?_); refine wpList_store_v rfl 98 (.tmp 5) (.tmp 18) rfl g5 zerM [.int .i64 tt, .int .i64 (ss : Int), .pointer (some ⟨g1, cc, none⟩)] rfl rfl HG.out.2 rfl (Ncs_one g1 [(tt, ss, cc)]) size_m ?_; intro w6 hw hr; have hbw := HG.out.1.wr_bl hw; have H5 := Lib.hid (show RowV w6 g5 [.int .i64 tt, .int .i64 (ss : Int), .pointer (some ⟨g1, cc, none⟩)] ∧ RowV w6 g1 us ∧ HeldN w2 w6 u3 fN ∧ Below w2.heap.size w2 w6 ∧ NumK w4 w5 u3 w6 from ⟨hr, (H2.out.2.1.on HR.out.2.1).on hbw, HR.out.1.on hbw, below_on HR.out.2.1 hbw, HR.out.2.2.on hbw⟩); clear hw hr hbw))
      refine region_facts (by kernel_rfl) _ w6 (fun c => Below w6.heap.size w6 c ∧ RowV c g5 [.int .i64 tt, .int .i64 (ss : Int), .pointer (some ⟨g1, cc, none⟩)] ∧ RowV c g1 us ∧ w6.heap.size ≤ c.heap.size) 100 (factL [fun u _ => u = .pointer (some ⟨g5, 2, none⟩), fun u _ => u = .pointer (some ⟨g1, cc, none⟩), fun u _ => u = .pointer (some ⟨g1, cc, none⟩), fun u _ => u = .int .i64 (nn : Int), fun u _ => u = .pointer (some ⟨g5, 1, none⟩), fun u _ => u = .int .i64 (ss : Int), OctT w6 (octL nn ss) ss, OctT w6 (octL nn ss) ss, OctS w6 (octL nn ss) ss, fun u _ => u = .int .i64 0, OctS w6 (octL nn ss) ss, fun u _ => u = .int .i64 0]) (by kernel_rfl) (firm_list (by simp only [List.forall_mem_cons]; exact ⟨firm_eq _, firm_eq _, firm_eq _, firm_eq _, firm_eq _, firm_eq _, OctT.firm _ _ _, OctT.firm _ _ _, OctS.firm _ _ _, firm_eq _, OctS.firm _ _ _, firm_eq _, fun X h => by cases h⟩)) (fun c c2 h hb => ⟨below_on h.1 hb, h.2.1.on hb, h.2.2.1.on hb, Nat.le_trans h.2.2.2 hb.size⟩) (Below.refl _ _) ⟨Below.refl _ _, H5.out.1, H5.out.2.1, Nat.le_refl _⟩ ?_ ?_
      · refine ops_all (allI.cons ?_ (allI.cons ?_ (allI.cons ?_ (allI.cons ?_ (allI.cons ?_ (allI.cons ?_ (allI.cons ?_ (allI.cons ?_ (allI.cons ?_ (allI.cons ?_ (allI.cons ?_ (allI.cons ?_ allI.nil)))))))))))) <;> intro v S c a hI hw1 hX hSi hdep hS hC
        · exact o_fa _ (.tmp 5) 2 rfl (hS.old 5 rfl) (fa_n2 g5 _) (Step.still rfl)
        · exact o_ld _ (.tmp 20) rfl ((hS.get 0 (dep_at hdep 0 rfl) rfl rfl).trans (hX 0 (dep_at hdep 0 rfl))) ((hI.2.1.cell 2).trans rfl) ag_p (Step.still rfl)
        · exact o_nil (.tmp 21) rfl ((hS.get 1 (dep_at hdep 1 rfl) rfl rfl).trans (hX 1 (dep_at hdep 1 rfl))) (Step.still rfl)
        · exact o_ld _ (.tmp 22) rfl ((hS.get 2 (dep_at hdep 2 rfl) rfl rfl).trans (hX 2 (dep_at hdep 2 rfl))) ((hI.2.2.1.cell cc).trans HNX.out.1) ag_i (Step.still rfl)
        · exact o_fa _ (.tmp 5) 1 rfl (hS.old 5 rfl) (fa_n1 g5 _) (Step.still rfl)
        · exact o_ld _ (.tmp 24) rfl ((hS.get 4 (dep_at hdep 4 rfl) rfl rfl).trans (hX 4 (dep_at hdep 4 rfl))) ((hI.2.1.cell 1).trans rfl) ag_i (Step.still rfl)
        · refine o_callV (.func 75) 75 #[.tmp 23, .tmp 25] _ rfl rfl (ev2 ((hS.get 3 (dep_at hdep 3 rfl) rfl rfl).trans (hX 3 (dep_at hdep 3 rfl))) ((hS.get 5 (dep_at hdep 5 rfl) rfl rfl).trans (hX 5 (dep_at hdep 5 rfl)))) (by kernel_rfl) (oct_new nn ss HNX.out.2.2 HNX.out.2.1 c) (fun e w2 h => ?_)
          obtain ⟨A2, c2, rfl, h2, h3, h4⟩ := h
          exact ⟨_, rfl, Step.new ⟨A2, c2, rfl, h2, h3.imp fun b hb => newB_imp (w := w6) hb hI.2.2.2 (Nat.le_refl _)⟩ h4⟩
        · exact o_mv (.tmp 26) rfl (hS.get 6 (dep_at hdep 6 rfl) rfl rfl) (Step.still (hX 6 (dep_at hdep 6 rfl)))
        · obtain ⟨A2, c2, e2, h2, h3⟩ := (hX 7 (dep_at hdep 7 rfl))
          exact o_ext (.tmp 19) 0 rfl ((hS.get 7 (dep_at hdep 7 rfl) rfl rfl).trans e2) rfl (Step.still ⟨A2, c2, rfl, h2, h3⟩)
        · obtain ⟨A2, c2, e2, h2, h3⟩ := (hX 7 (dep_at hdep 7 rfl))
          exact o_ext (.tmp 19) 1 rfl ((hS.get 7 (dep_at hdep 7 rfl) rfl rfl).trans e2) rfl (Step.still rfl)
        · exact o_as (.tmp 27) rfl (hS.get 8 (dep_at hdep 8 rfl) rfl rfl) (Step.still (hX 8 (dep_at hdep 8 rfl)))
        · exact o_as (.tmp 28) rfl ((hS.get 9 (dep_at hdep 9 rfl) rfl rfl).trans (hX 9 (dep_at hdep 9 rfl))) (Step.still rfl)
      · intro v c hI hX
        simp only [putAll, Act.put]
        simp
        obtain ⟨A7, c7, hv7, hq7, hs7⟩ := hX 10 (by decide)
        have hv11 : v 11 = .int .i64 0 := hX 11 (by decide)
        change v 10 = _ at hv7
        rw [hv7]
        have H7 := Lib.hid (show ((A7 = none → c7 = 0) ∧ ss ≤ c7) ∧ SeesP c (newB w6 c) A7 (Us (octL nn ss)) ∧ Below w6.heap.size w6 c ∧ RowV c g5 [.int .i64 tt, .int .i64 (ss : Int), .pointer (some ⟨g1, cc, none⟩)] from ⟨hq7, hs7, hI.1, hI.2.1⟩)
        have c0 := (hI.2.1.cell 0).trans rfl
        simp only [List.getElem?_cons_zero] at c0
        clear hI hX hq7 hs7 hv7 hv11
        go_wp2_with (first
          | ((with_reducible refine at_any_ (d := 34) ?_); go_must (refine wpList_bslV rfl 52 54 1 _ rfl Tryd.underlying52 (pe1 rfl) (bs1 _ _ _) ?_); intro g8 w8 hf hr; have H8 := Lib.hid (show _ ∧ _ from ⟨hf, hr⟩); clear hf hr)
          | ((with_reducible refine at_call_ (d := 35) ?_); obtain ⟨cs, hc1, hc2⟩ := H5.out.2.2.1; go_must (refine wpList_append_lies _ rfl (.tmp 29) (.tmp 34) 52 rfl w2.heap.size 54 i0 _ 3 56 Tryd.underlying52 hi hz0 hz1 hz2 rfl (by decide) u3 fN.len cs rfl (own3_on (own3_on hc1 H7.out.2.2.1) H8.out.1.bw) ⟨g8, 0, none⟩ 1 1 (nodV tt A7 ss c7 none 0 0) rfl rfl H8.out.2.src (nodV_one _ _ _ _ _ _ _) (by decide) (by unfold maxLen; omega) (by omega) (Nat.le_trans H5.out.2.2.2.1.size (Nat.le_trans H7.out.2.2.1.size H8.out.1.bw.size)) _ rfl ?_); intro g9 c9 w9 ho hg hl hlt9; have H9 := Lib.hid (show HeldN w2 w9 _ (fN.app (.cons tt (octL nn ss) .nil .nil)) ∧ Below w2.heap.size w2 w9 ∧ NumK w4 w5 (.slice (some ⟨g9, 0, none⟩) (fN.len + 1) c9) w9 from by
              refine ⟨HeldN.snoc (wr := w6) (w1 := c) (wa := w8) (x := octL nn ss) (k := .nil) H7.out.2.2.1 H8.out.1.bw ⟨H7.out.1.1, by rw [octL_length]; exact H7.out.1.2, Nat.zero_le _⟩ H7.out.2.1 SeesN.nil_ H5.out.2.2.2.1.size cs hc1 hc2 rfl (by rw [octL_length]; exact ho) hg hl, row_below (below_on (below_on H5.out.2.2.2.1 H7.out.2.2.1) H8.out.1.bw) hg (fun k e => (own_lt3 hc1 k e).1), ((H5.out.2.2.2.2.on H7.out.2.2.1).on H8.out.1.bw).grown hg hl⟩); clear ho hg hl hlt9 hc1 hc2))
        go_roundw
        case rel => exact ⟨j + 1, by omega, by first | rfl | go_num, Lib.hid ⟨by rw [HT2.out]; have h := H9.out.1; rw [hfl] at h; exact h, H9.out.2.1, by have h := H9.out.2.2; rw [hfl] at h; exact h⟩⟩
        case measure => simp [intOf]; omega
    · obtain rfl : j = n := by omega
      have dj : decide ((j : Int) < (j : Int)) = false := by simp
      obtain ⟨Ah, ch, rfl, hlh, hsh⟩ := HR.out.1.slice
      have e6 : (idF p).app (numF x ((numsI p).take j)) = kidF x := by
        rw [List.take_of_length_le (by rw [HN.out]; exact Nat.le_refl _), ← HU.out.2.2.2, kidF_eq]
      have e7 : (kidF x).len = j + 1 := HU.out.2.2.1
      rw [e6, e7] at hlh ⊢
      rw [e6] at hsh
      have HH := Lib.hid (show SeesN wr (newB w2 wr) Ah (kidF x) ∧ j + 1 ≤ ch ∧ Below w2.heap.size w2 wr from ⟨hsh, hlh, HR.out.2.1⟩)
      have HE := Lib.hid e7
      clear e6 e7 hlh hsh HR
      go_wp2_with (first
        | ((with_reducible refine at_store_ (i := 2) ?_); go_must (refine wpList_store_v rfl 54 (.tmp 2) (.tmp 38) rfl g2 zerN (nodV 48 none 0 0 Ah (j + 1) ch) rfl rfl (H2.out.2.2.1.on HH.out.2.2) rfl (nodV_one _ _ _ _ _ _ _) size_n ?_); intro w12 hw hr; have H12 := Lib.hid (show _ ∧ _ from ⟨hw, hr⟩); clear hw hr))
      exact bodyPost_ret (results_v rfl _ _ g2 (nodV 48 none 0 0 Ah (j + 1) ch) _ rfl H12.out.2 Tryd.underlying54 rfl size_n) rfl ⟨_, ch, by rw [HE.out], by rw [HE.out]; exact HH.out.2.1, SeesN.put HH.out.1 H12.out.1 H2.out.2.2.1.lt H2.out.1.size, Wr.bl (below_on H2.out.1 HH.out.2.2) H12.out.1 H2.out.2.2.2.1⟩
end Go.Proofs.YtcapbojjceeapaaDoor
