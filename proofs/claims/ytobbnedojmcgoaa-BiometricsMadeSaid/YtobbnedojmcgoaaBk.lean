/-
  What is proved here: the law's own check (a face is written and read), and its measure of objects.
-/
import Derived.Test.YtobbnedojmcgoaaBj
namespace Go.Proofs.Ytobbnedojmcgoaa
open Go.RowKit
set_option linter.unusedVariables false
set_option linter.unusedSimpArgs false

def face : Tm := ⟨1, 0, 0, 100, 0, 0, [7]⟩
theorem face_enc : encE [face] = 0 := by kernel_rfl
theorem face_list : encF [face] = listF [face] := by kernel_rfl
theorem face_one : (encF [face]).len = 1 := by kernel_rfl
theorem face_dec : decE (encF [face]) = 0 := by kernel_rfl
theorem face_back : decV (encF [face]) = [face] := by kernel_rfl
theorem face_ok : (encF [face]).ok := by
  rw [face_list]
  exact listF_ok fun x hx => by
    rw [List.mem_singleton] at hx
    subst hx
    decide
theorem blt_face (g : Nat) : Try.prog.built 27 [(0, .int .i64 1), (3, .int .i64 100), (6, .slice (some ⟨g, 0, none⟩) 1 1)] = some (face.cs (some ⟨g, 0, none⟩) 1).toArray := by kernel_rfl
theorem peF {a : Act} {x0 x1 x2 : Operand} {u0 u1 u2 : Value} (h0 : a.eval x0 = u0) (h1 : a.eval x1 = u1) (h2 : a.eval x2 = u2) :
    ((#[(0, x0), (3, x1), (6, x2)] : Array (Nat × Operand)).map fun (i, x) => (i, a.eval x)).toList = [(0, u0), (3, u1), (6, u2)] := by simp [h0, h1, h2]
theorem wpList_bldV {P : Program} {ops : Array Oper} {rest : List Oper} {o : Oper} {a : Act} {w : World} {Q : Exit → Act → World → Prop} (hgd : o.guard = none) (t : TypeId) (parts : Array (Nat × Operand)) (ho : o.op = .build t parts) {ps : List (Nat × Value)} (hp : (parts.map fun (i, x) => (i, a.eval x)).toList = ps) {vs : List Value} (hb : P.built t ps = some vs.toArray)
    (hK : wpList P ops Q rest (a.put o.dst (.agg vs.toArray)) w) : wpList P ops Q (o :: rest) a w :=
  wpList_plain hgd fun _ hK2 => o_bld t parts ho hp hb (hK2 _ _ hK)
/-- a row of one template -/
theorem one_tm {w c c' : World} {g cd : Nat} {x : Tm} {Ad : Option Addr} (hf : Fresh c c' g) (hr : RowV c' g (x.cs Ad cd)) (hw : w.heap.size ≤ c.heap.size) (h0 : (Ad = none → cd = 0) ∧ x.d.length ≤ cd) (hd : SeesP c (newB w c) Ad (Us x.d)) : SeesT c' (newB w c') (some ⟨g, 0, none⟩) [x] :=
  ⟨x.cs Ad cd, .inr ⟨g, 0, rfl, ⟨by rw [hf.1]; exact hw, hr.lt⟩, fun j hj => by rw [Nat.zero_add, hr.cell]⟩, by
    have h := TmsIn.snoc (w := c') (p := newB w c') (vs := []) (l := []) (x := x) TmsIn.nil_ h0 (hd.newOn hf.bw)
    exact h⟩
def FaceIs (w : World) (e : Ending) (w' : World) : Prop := ∃ b o c, e = .returned (.tuple #[.slice (some ⟨b, o, none⟩) 1 c, .int .i64 0]) ∧ w'.cell? ⟨b, o + 3, none⟩ = some (.int .i64 100) ∧ Below w.heap.size w w'
theorem face_write : ∃ f : F, (∀ (A : Option Addr) (c : Nat) (w : World), SeesT w (· < w.heap.size) A [face] → Calls Try.prog 13 #[.slice A 1 c] w fun e w' => ∃ A' c', e = .returned (.tuple #[.slice A' 1 c', .int .i64 0]) ∧ SeesN w' (· < w'.heap.size) A' f ∧ Below w.heap.size w w') ∧
    ∀ (A : Option Addr) (c : Nat) (w : World), SeesN w (· < w.heap.size) A f → Calls Try.prog 17 #[.slice A 1 c] w (FaceIs w) := by
  refine ⟨encF [face], fun A c w hs => ?_, fun A c w hs => ?_⟩
  · refine (p_encode [face] 1 rfl A c w hs).mono fun e w' h => ?_
    obtain ⟨A', c', e1, _, h2, h3⟩ := h
    rw [face_one, face_enc] at e1
    exact ⟨A', c', e1, h2.imp fun b hb => newB_lt hb, h3⟩
  · refine (p_decode (encF [face]) 1 face_one face_ok A c w hs).mono fun e w' h => ?_
    obtain ⟨A', c', e1, h2, h3⟩ := h
    rw [face_back] at e1 h2
    rw [face_dec] at e1
    obtain ⟨tb, tu, td, tc, e6, _, hr6, _⟩ := tm_at (k := 0) h2 rfl
    subst e6
    exact ⟨tb, tu, c', e1, hr6 3 _ rfl, h3⟩
theorem bs7 : Try.prog.builtSlice 5 1 [(0, .int .u8 7)] = some #[.int .u8 7] := by kernel_rfl
theorem us7 : [Value.int .u8 7] = Us face.d := by kernel_rfl
def faceC (g : Nat) : List Value := face.cs (some ⟨g, 0, none⟩) 1
theorem blt_faceC (g : Nat) : Try.prog.built 27 [(0, .int .i64 1), (3, .int .i64 100), (6, .slice (some ⟨g, 0, none⟩) 1 1)] = some (faceC g).toArray := by kernel_rfl
theorem bst_face (g : Nat) : Try.prog.builtSlice 27 1 [(0, .agg (faceC g).toArray)] = some (faceC g).toArray := by kernel_rfl
theorem faceC_one (g : Nat) : ∀ u ∈ faceC g, u.oneCell' = true := cs_one _ _ _
theorem faceC_len (g : Nat) : (faceC g).length = zerT.length := rfl
theorem faceC_size (g : Nat) : (Try.prog.info? 27).map (·.size) = some (faceC g).length := size_t
set_option maxHeartbeats 1600000 in
set_option maxRecDepth 20000 in
theorem law_awake (w : World) : Calls Try.prog 9 #[] w fun e w' => e = .returned (.bool true) ∧ Below w.heap.size w w' := by
  obtain ⟨fF, hF⟩ := face_write
  have HF := Lib.hid hF
  clear hF
  go_enter Try.func9, Try.ntmps9
  go_wp2_with (first
    | ((with_reducible refine at_any_ (d := 6) ?_); go_must (refine wpList_bslV rfl 25 5 1 _ rfl Try.underlying25 (pe1 rfl) bs7 ?_); intro g1 w1 hf hr; have H1 := Lib.hid (show Below w.heap.size w w1 ∧ SeesP w1 (newB w w1) (some ⟨g1, 0, none⟩) (Us face.d) from ⟨hf.bw, lit_sees (w := w) (v := face.d) hf hr us7 (Nat.le_refl _)⟩); clear hf hr)
    | ((with_reducible refine at_any_ (d := 7) ?_); go_must (refine wpList_bldV rfl 27 _ rfl (peF rfl rfl rfl) (blt_faceC g1) ?_))
    | ((with_reducible refine at_alloc_ (d := 1) ?_); refine wpList_alloc_v (op := ⟨some 1, _, _, _, _, _⟩) rfl 27 rfl zerT info_t ?_; intro g2 w2 hf hr; have H2 := Lib.hid (show _ ∧ _ from ⟨hf, hr⟩); clear hf hr)
    | ((with_reducible refine at_store_ (i := 1) ?_); go_must (refine wpList_store_v rfl 27 (.tmp 1) (.tmp 7) rfl g2 zerT (faceC g1) rfl rfl H2.out.2 (faceC_len g1) (faceC_one g1) (faceC_size g1) ?_); intro w3 hw hr; have hb := H2.out.1.wr_bl hw; have H3 := Lib.hid (show Below w.heap.size w w3 ∧ RowV w3 g2 (faceC g1) ∧ SeesP w3 (newB w w3) (some ⟨g1, 0, none⟩) (Us face.d) from ⟨below_on H1.out.1 hb, hr, H1.out.2.newOn hb⟩); clear hw hr hb)
    | ((with_reducible refine at_load_ (d := 9) ?_); go_must (refine wpList_load_v rfl 27 (.tmp 1) rfl g2 rfl (faceC g1) _ H3.out.2.1 Try.underlying27 rfl (faceC_size g1) ?_))
    | ((with_reducible refine at_any_ (d := 10) ?_); go_must (refine wpList_bslV rfl 22 27 1 _ rfl Try.underlying22 (pe1 rfl) (bst_face g1) ?_); intro g4 w4 hf hr; have H4 := Lib.hid (show Below w.heap.size w w4 ∧ SeesT w4 (newB w w4) (some ⟨g4, 0, none⟩) [face] from ⟨hf.bl H3.out.1, one_tm (x := face) hf hr H3.out.1.size ⟨fun h => (by cases h), Nat.le_refl _⟩ H3.out.2.2⟩); clear hf hr)
    | (go_at_call 13; ((with_reducible refine (HF.out.1 _ _ _ (H4.out.2.imp fun b hb => newB_lt hb)).mono ?_); rintro e w5 ⟨A5, c5, rfl, hs, hb⟩); have H5 := Lib.hid (show Below w.heap.size w w5 ∧ SeesN w5 (· < w5.heap.size) A5 fF from ⟨below_on H4.out.1 hb, hs⟩); clear hs hb)
    | (go_at_call 17; ((with_reducible refine (HF.out.2 _ _ _ H5.out.2).mono ?_); rintro e w6 ⟨tb, tu, c6, rfl, cf, hb⟩); have H6 := Lib.hid (below_on H5.out.1 hb); clear hb))
  go_ret
  exact ⟨rfl, H6.out⟩
/-! ## the measure of objects -/
def F.allK (p : F → Bool) : F → Bool
  | .nil => true
  | .cons _ _ k r => p k && r.allK p
def smallB : Nat → F → Bool
  | 0, f => f.len == 0
  | k + 1, f => if 40 < f.len then false else f.allK (smallB k)
theorem allK_step {p : F → Bool} {f k r : F} {j : Nat} {t : Int} {v : List UInt8} (h : f.drop j = .cons t v k r) : (f.drop j).allK p = (p k && (f.drop (j + 1)).allK p) := by
  rw [F.drop_next h, h]
  rfl
set_option maxHeartbeats 1600000 in
set_option maxRecDepth 20000 in
theorem law_small (k : Nat) (hk : k ≤ 100) : ∀ (f : F) (n : Nat) (hn : f.len = n) (A : Option Addr) (c : Nat) (w : World) (hs : SeesN w (· < w.heap.size) A f),
    Calls Try.prog 16 #[.slice A n c, .int .i64 (k : Int)] w fun e w' => e = .returned (.bool (smallB k f)) ∧ Below w.heap.size w w' := by
  induction k with
  | zero =>
    intro f n hn A c w hs
    have hb : smallB 0 f = ((n : Int) == 0) := by
      unfold smallB
      rw [hn]
      rcases n with _ | n
      · rfl
      · simp; omega
    rw [hb]
    clear hb hs
    show Calls Try.prog 16 #[.slice A n c, .int .i64 0] w _
    go_enter Try.func16, Try.ntmps16
    go_wp2
    go_ret
    exact ⟨rfl, Below.refl _ _⟩
  | succ k ih =>
    intro f n hn A c w hs
    obtain ⟨z, hz⟩ : ∃ z : Int, ((k + 1 : Nat) : Int) = z := ⟨_, rfl⟩
    have z0 : (z == 0) = false := by simp; omega
    have z1 : wrap64 (z - 1) = (k : Int) := by unfold wrap64; omega
    rw [hz]
    have IH := Lib.hid (ih (by omega))
    by_cases h40 : 40 < n
    · have d40 : decide ((40 : Int) < (n : Int)) = true := by simp; omega
      have HD := Lib.hid (show smallB (k + 1) f = false from by unfold smallB; rw [if_pos (by rw [hn]; exact h40)])
      clear hz hs hn ih
      go_enter Try.func16, Try.ntmps16
      go_wp2
      go_ret
      exact ⟨by rw [HD.out]; rfl, Below.refl _ _⟩
    have d40 : decide ((40 : Int) < (n : Int)) = false := by simp; omega
    have HV := Lib.hid (show smallB (k + 1) f = f.allK (smallB k) from by
      show (if 40 < f.len then false else f.allK (smallB k)) = _
      rw [if_neg (by rw [hn]; exact h40)])
    have HS := Lib.hid (show _ ∧ _ from ⟨hs, hn⟩)
    clear hz hs hn ih
    go_enter Try.func16, Try.ntmps16
    go_wp2_with fail
    go_loopw [5] (fun i wr => ∃ (j : Nat), j ≤ n ∧ i = .int .i64 (j : Int) ∧ Hid (Below w.heap.size w wr ∧ f.allK (smallB k) = (f.drop j).allK (smallB k))) (fun i _ => n - (intOf i).toNat)
    case atStart => exact ⟨0, by omega, rfl, Lib.hid ⟨Below.refl _ _, by cases f <;> rfl⟩⟩
    case round =>
      obtain ⟨j, hj, rfl, HR⟩ := hrel
      by_cases hlt : j < n
      · have dj : decide ((j : Int) < (n : Int)) = true := by simp; omega
        obtain ⟨t, v, kk, hdk⟩ := F.drop_cons (f := f) (j := j) (by rw [HS.out.2]; exact hlt)
        obtain ⟨b, o, Av, cv, Ak, ck, rfl, hb, hr, _, _, _, _, hsk⟩ := node_atN HS.out.1 hdk
        have hstep := allK_step (p := smallB k) hdk
        obtain ⟨kl, hkl⟩ : ∃ q, kk.len = q := ⟨_, rfl⟩
        have c2 := (rangeAt_on hr hb HR.out.1) 2 _ rfl
        rw [hkl] at c2
        have hcall := IH.out kk kl hkl Ak ck wr (hsk.on HR.out.1)
        obtain ⟨q, hq⟩ : ∃ q, smallB k kk = q := ⟨_, rfl⟩
        rw [hq] at hcall hstep
        have HC := Lib.hid hcall
        have HT := Lib.hid (HR.out.2.trans hstep)
        have HB := Lib.hid HR.out.1
        clear hdk hb hr hsk hstep hkl hcall hq HR
        rcases q with _ | _
        · go_wp2_with (first
            | (go_at_call 16; ((with_reducible refine HC.out.mono ?_); rintro e w2 ⟨rfl, hb⟩); have H2 := Lib.hid (below_on HB.out hb); clear hb))
          go_ret
          exact ⟨by rw [HV.out, HT.out]; rfl, H2.out⟩
        · go_wp2_with (first
            | (go_at_call 16; ((with_reducible refine HC.out.mono ?_); rintro e w2 ⟨rfl, hb⟩); have H2 := Lib.hid (below_on HB.out hb); clear hb))
          go_roundw
          case rel => exact ⟨j + 1, by omega, by first | rfl | go_num, Lib.hid ⟨H2.out, by rw [HT.out]; rfl⟩⟩
          case measure => simp [intOf]; omega
      · obtain rfl : n = j := by omega
        have dj : decide ((n : Int) < (n : Int)) = false := by simp
        have HD := Lib.hid (show smallB (k + 1) f = true from by
          have h := F.drop_all f
          rw [HS.out.2] at h
          rw [HV.out, HR.out.2, h]
          rfl)
        have HB := Lib.hid HR.out.1
        clear HR
        go_wp2
        go_ret
        exact ⟨by rw [HD.out]; rfl, HB.out⟩
end Go.Proofs.Ytobbnedojmcgoaa
