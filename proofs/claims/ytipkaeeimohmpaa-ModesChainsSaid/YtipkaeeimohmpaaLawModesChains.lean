/-
  What is proved here: a change of one byte changes nothing that was encrypted before its block, and two decrypted blocks at most (the statement ModesChains); no condition.
-/
import Derived.Test.YtipkaeeimohmpaaOp5
import Derived.Test.YtipkaeeimohmpaaCc
import Derived.Laws.IdiomArrays
namespace Go.Proofs.Ytipkaeeimohmpaa.modesChains
open Go.ChangeShapes Go.WideShapes Go.ChangeAt Go.RowKit
open Go.ChangeMaps (open_string shut_string)
set_option linter.unusedVariables false

/-- an array of two integers by value -/
theorem open_arr2 {H : Type} {enc : TypeId × Value → H} {P : Program} {w : World} {base b0 : Nat} {sp : Nat → Bool} {held : Bool} {t e : TypeId} {k : IntKind} {v : Value} {d : DataW H} {p : List MemPlace} {r : Reach}
    (ht : P.underlying t = some (.array 2 e)) (he : P.underlying e = some (.int k)) (hc : P.cellsOf e = 1) (hC : P.cellsOf t = 2) (hv : Value.okWide P w r b0 t v) (h : DataW.Trod enc P w base sp held t v d p) :
    ∃ a b : Int, v = .agg #[.int k a, .int k b] ∧ d = .agg [.lit (.int k a), .lit (.int k b)] ∧ p = [] ∧ (Lit.int k a).wf = true ∧ (Lit.int k b).wf = true := by
  obtain ⟨cs, rfl, hsz, _⟩ : ∃ cs, v = .agg cs ∧ cs.size = P.cellsOf t ∧ Row.okWide P w r b0 t cs := by
    simpa [Value.okWide, ht] using hv
  rw [hC] at hsz
  obtain ⟨c0, c1, rfl⟩ : ∃ c0 c1, cs = #[c0, c1] := by
    obtain ⟨l⟩ := cs
    match l, hsz with
    | [a, b], _ => exact ⟨a, b, rfl⟩
  obtain ⟨fuel, hf⟩ := h
  obtain ⟨xs, m, _, ex, ep, hl, hel⟩ := DataW.trod_array ht hf
  obtain ⟨y0, y1, rfl⟩ : ∃ y0 y1, xs = [y0, y1] := by
    match xs, hl with
    | [a, b], _ => exact ⟨a, b, rfl⟩
  have h0 := hel 0 (by decide)
  have h1 := hel 1 (by decide)
  rw [hc] at h0 h1
  simp [Value.cells] at h0 h1
  obtain ⟨x0, e0, rfl, w0⟩ := DataW.trod_int he h0
  obtain ⟨x1, e1, rfl, w1⟩ := DataW.trod_int he h1
  simp at e0 e1
  subst e0 e1
  simp at ex
  exact ⟨x0, x1, rfl, ex.1, ex.2, w0, w1⟩
theorem shut_arr2 {H : Type} {enc : TypeId × Value → H} {P : Program} {w : World} {base : Nat} {sp : Nat → Bool} {held : Bool} {t e : TypeId} {k : IntKind} {a b : Int}
    (ht : P.underlying t = some (.array 2 e)) (he : P.underlying e = some (.int k)) (hc : P.cellsOf e = 1) (hC : P.cellsOf t = 2) (wa : (Lit.int k a).wf = true) (wb : (Lit.int k b).wf = true) :
    DataW.Trod enc P w base sp held t (.agg #[.int k a, .int k b]) (.agg [.lit (.int k a), .lit (.int k b)]) [] := by
  have r2 : List.range 2 = [0, 1] := rfl
  refine ⟨2, ?_⟩
  simp [DataW.trod, Value.cells, ht, he, hc, hC, r2, wa, wb]
theorem u8_of {n : Int} (h : (Lit.int .u8 n).wf = true) : ∃ z : UInt8, n = (z.toNat : Int) := by
  have hx : 0 ≤ n ∧ n ≤ 255 := by simpa [Lit.wf, IntKind.min, IntKind.max, IntKind.signed, IntKind.bits] using h
  exact ⟨UInt8.ofNat n.toNat, by rw [UInt8.toNat_ofNat']; omega⟩

theorem chain_cell {w : World} {base n i d : Nat} {e : TypeId} {g c : Nat} {xs : List Value} (h : w.ownsRow base e 1 (.slice (some ⟨g, 0, none⟩) n c) n xs) (hd : xs[i]? = some (.int .u8 (d : Int))) : w.cell? ⟨g, i, none⟩ = some (.int .u8 (d : Int)) := by
  have hl := (List.getElem?_eq_some_iff.1 hd).1
  have := h.1
  rw [h.cellAt i (by omega)]
  exact hd
/-- the copy, one byte of it turned: what lies in memory behind the store -/
def AfterStore (w : World) (c q p : List UInt8) (B2 B3 : Option Addr) (g L : Nat) (W : World) : Prop :=
  SeesP W (· < W.heap.size) (some ⟨g, 0, none⟩) (Us c) ∧ SeesP W (· < W.heap.size) B2 (Us q) ∧ SeesP W (· < W.heap.size) B3 (Us p) ∧ Below w.heap.size w W
theorem chain_store {w w3 w4 : World} {v : Value} {z : UInt8} {p c q : List UInt8} {i n g cg : Nat} {B2 B3 : Option Addr} (hz : v = U z) (hc : c = p.set i z) (ho : w4.ownsRow w3.heap.size 5 1 (.slice (some ⟨g, 0, none⟩) n cg) n (Us p)) (hg : w3.heap.size ≤ g) (hgr : w3.grownBy w4 none) (h3 : SeesP w3 (· < w3.heap.size) B3 (Us p)) (h2 : SeesP w3 (· < w3.heap.size) B2 (Us q)) (hb : Below w.heap.size w w3) :
    AfterStore w c q p B2 B3 g n (w4.setCell ⟨g, i, none⟩ v) := by
  have b4 : Below w3.heap.size w3 w4 := (Below.refl _ w3).grown hgr (Nat.le_refl _) (by simp)
  have b5 : Below w3.heap.size w3 (w4.setCell ⟨g, i, none⟩ v) := b4.setCell (p := ⟨g, i, none⟩) hg _
  have o5 := (ho.stored i v).1
  rw [hz, Us_set, ← hc] at o5
  rw [hz] at b5 ⊢
  exact ⟨SeesP.iff_sees.2 (Sees.of_own o5), h2.on b5, h3.on b5, below_on hb b5⟩
set_option maxRecDepth 40000 in
set_option maxHeartbeats 2000000 in
theorem walk (A0 : Option Addr) (c0 : Nat) (x0 : List UInt8) (A1 : Option Addr) (c1 : Nat) (x1 : List UInt8) (at0 by0 : Int) (w : World) (h0 : Sees w w.heap.size A0 (Us x0)) (m0 : x0.length ≤ 140737488351232) (n0 : A0 = none → c0 = 0) (h1 : Sees w w.heap.size A1 (Us x1)) (m1 : x1.length ≤ 140737488351232) (n1 : A1 = none → c1 = 0) (wa : (Lit.int .u8 at0).wf = true) (wb : (Lit.int .u8 by0).wf = true) :
    Calls Try.prog 7 #[.slice A0 x0.length c0, .slice A1 x1.length c1, .agg #[.int .u8 at0, .int .u8 by0]] w fun e w' => e = .returned (.bool true) ∧ Below w.heap.size w w' := by
  obtain ⟨za, rfl⟩ := u8_of wa
  obtain ⟨zb, rfl⟩ := u8_of wb
  obtain ⟨i0, hi, hz0, hz1, hz2⟩ := info_parts info_u8p
  obtain ⟨a, ha⟩ : ∃ a, a = za.toNat := ⟨_, rfl⟩
  have ha5 : a < 256 := by rw [ha]; exact UInt8.toNat_lt za
  rw [← ha]
  clear ha wa wb
  obtain ⟨N0, hN0⟩ : ∃ N, x0.length = N := ⟨_, rfl⟩
  obtain ⟨N1, hN1⟩ : ∃ N, x1.length = N := ⟨_, rfl⟩
  obtain ⟨q, hq⟩ : ∃ q, sxL x0 = q := ⟨_, rfl⟩
  obtain ⟨p, hp⟩ : ∃ p, padM x1 = p := ⟨_, rfl⟩
  obtain ⟨L, hL⟩ : ∃ L, p.length = L := ⟨_, rfl⟩
  have hql : q.length = 16 := by rw [← hq]; exact sxL_length _
  have hpw : L % 16 = 0 := by rw [← hL, ← hp]; exact padM_whole _
  have hL2 : 16 ≤ L ∧ L ≤ 140737488351300 := by rw [← hL, ← hp, padM_length]; omega
  obtain ⟨hLa, hLb⟩ := hL2
  rw [hN0, hN1]
  rw [hN0] at m0
  rw [hN1] at m1
  obtain ⟨i, hidef⟩ : ∃ i, i = a % L := ⟨_, rfl⟩
  have hiL : i < L := by rw [hidef]; exact Nat.mod_lt _ (by omega)
  have him : (a : Int) % (L : Int) = (i : Int) := by rw [hidef]; simp
  have hit : (a : Int).tmod (L : Int) = (i : Int) := by rw [Int.tmod_eq_emod_of_nonneg (by omega)]; exact him
  obtain ⟨r, hr⟩ : ∃ r, r = i % 16 := ⟨_, rfl⟩
  have hri : (i : Int) % 16 = (r : Int) := by omega
  obtain ⟨n, hn⟩ : ∃ n, n = 16 * (i / 16) := ⟨_, rfl⟩
  have hni : (i : Int) - (r : Int) = (n : Int) := by omega
  have hnL : n < L := by omega
  have hL0 : ((L : Int) == 0) = false := by simp; omega
  obtain ⟨px, hpx⟩ : ∃ z : UInt8, z = p.getD i 0 := ⟨_, rfl⟩
  have hget : (Us p)[i]? = some (.int .u8 (px.toNat : Int)) := by
    have h1 : i < p.length := by omega
    rw [Us_get h1, hpx, List.getD, List.getElem?_eq_getElem h1]
    rfl
  obtain ⟨z, hz⟩ : ∃ z : UInt8, z = px ^^^ zb := ⟨_, rfl⟩
  obtain ⟨c, hc⟩ : ∃ c, c = p.set i z := ⟨_, rfl⟩
  obtain ⟨X, hX⟩ : ∃ X, sealB q q p = X := ⟨_, rfl⟩
  obtain ⟨Y, hY⟩ : ∃ Y, sealB q q c = Y := ⟨_, rfl⟩
  obtain ⟨Z, hZ⟩ : ∃ Z, openB q q p = Z := ⟨_, rfl⟩
  obtain ⟨V, hV⟩ : ∃ V, openB q q c = V := ⟨_, rfl⟩
  have hcl : c.length = L := by rw [hc, List.length_set]; exact hL
  have hF := chain_facts (q := q) (p := p) (i := i) (n := n) (z := z) hql (by rw [hL]; exact hpw) (by omega) hn
  rw [← hc, hX, hY, hZ, hV, hL] at hF
  have hXl : X.length = L := by rw [← hX, sealB_len hql (by rw [hL]; exact hpw)]; exact hL
  have hYl : Y.length = L := by rw [← hY, sealB_len hql (by rw [hcl]; exact hpw)]; exact hcl
  have hZl : Z.length = L := by rw [← hZ, openB_len hql (by rw [hL]; exact hpw)]; exact hL
  have hVl : V.length = L := by rw [← hV, openB_len hql (by rw [hcl]; exact hpw)]; exact hcl
  have HL := Lib.hid (show (X.length = L ∧ Y.length = L) ∧ (Z.length = L ∧ V.length = L) ∧ q.length = 16 ∧ p.length = L ∧ c.length = L ∧ L % 16 = 0 from ⟨⟨hXl, hYl⟩, ⟨hZl, hVl⟩, hql, hL, hcl, hpw⟩)
  have HE := Lib.hid (show x0.length = N0 ∧ x1.length = N1 ∧ sxL x0 = q ∧ padM x1 = p ∧ (A0 = none → c0 = 0) ∧ (A1 = none → c1 = 0) ∧ N0 ≤ 140737488351232 ∧ N1 ≤ 140737488351300 from ⟨hN0, hN1, hq, hp, n0, n1, m0, by omega⟩)
  have HX := Lib.hid (show sealB q q p = X ∧ sealB q q c = Y ∧ openB q q p = Z ∧ openB q q c = V from ⟨hX, hY, hZ, hV⟩)
  have HF := Lib.hid hF
  have HC := Lib.hid hc
  have H0 := Lib.hid (SeesP.iff_sees.2 h0)
  have H1 := Lib.hid (SeesP.iff_sees.2 h1)
  obtain ⟨d, hd⟩ : ∃ d, d = px.toNat := ⟨_, rfl⟩
  have HD := Lib.hid (show (Us p)[i]? = some (.int .u8 (d : Int)) from by rw [hd]; exact hget)
  have HZ := Lib.hid (show Value.int .u8 (bits .xor .u8 (d : Int) (zb.toNat : Int)) = U z from by rw [hd, b_xor, hz]; rfl)
  obtain ⟨b, hb⟩ : ∃ b, b = zb.toNat := ⟨_, rfl⟩
  rw [← hb] at HZ ⊢
  clear h0 h1 n0 n1 m0 m1 hN0 hN1 hq hp hL hql hpw hidef hr hn hc hX hY hZ hV hcl hF hXl hYl hZl hVl hd hb hpx hget hz
  go_enter Try.func7, Try.ntmps7
  go_wp2_with fail
  have k1 : (w.alloc (.cells #[.int .u8 (a : Int), .int .u8 (b : Int)] 33)).cell? ⟨w.heap.size, 0, none⟩ = some (.int .u8 (a : Int)) := by rw [cell_of_row _ w.heap.size 0 _ _ (0, 0) (heap_alloc_new w _)]; rfl
  have k2 : (w.alloc (.cells #[.int .u8 (a : Int), .int .u8 (b : Int)] 33)).cell? ⟨w.heap.size, 1, none⟩ = some (.int .u8 (b : Int)) := by rw [cell_of_row _ w.heap.size 1 _ _ (0, 0) (heap_alloc_new w _)]; rfl
  have kb : Below w.heap.size w (w.alloc (.cells #[.int .u8 (a : Int), .int .u8 (b : Int)] 33)) := (Below.refl _ w).alloc (Nat.le_refl _) _
  generalize hw0 : (w.alloc (.cells #[.int .u8 (a : Int), .int .u8 (b : Int)] 33)) = w0 at k1 k2 kb ⊢
  have K := Lib.hid kb
  clear hw0 kb
  go_quiet (fail)
  clear k1 k2
  generalize hw1 : w0.drewN nq = w1
  have KW := Lib.hid (show Below w.heap.size w w1 from by rw [← hw1]; exact below_dn K.out nq)
  clear hw1 K
  replace H0 := Lib.hid (H0.out.on KW.out)
  replace H1 := Lib.hid (H1.out.on KW.out)
  go_wp2_with (first
    | (go_at_call 11; (((with_reducible refine (pad_r HE.out.2.1 HE.out.2.2.2.1 HL.out.2.2.2.1 HE.out.2.2.2.2.2.2.2 HE.out.2.2.2.2.2.1 H1.out).mono ?_); rintro e w3 ⟨B3, e3, rfl, l3, n3, s3, b3⟩); have HP := Lib.hid (show _ ∧ _ ∧ _ ∧ _ ∧ _ from ⟨s3, H2.out.1.on b3, below_on H2.out.2 b3, n3, l3⟩); clear l3 n3 s3 b3))
    | (go_at_call 19; (((with_reducible refine (sixteen6 HE.out.1 HE.out.2.2.1 HE.out.2.2.2.2.2.2.1 HE.out.2.2.2.2.1 H0.out).mono ?_); rintro e w2 ⟨B2, e2, rfl, s2, b2⟩); have H2 := Lib.hid (show _ ∧ _ from ⟨s2, below_on KW.out b2⟩); replace H1 := Lib.hid (H1.out.on b2); clear s2 b2))
    | (at_builtin; (refine app_bytes rfl (.const (.slice none 0 0)) (.tmp 30) 22 rfl w3.heap.size 5 i0 (.int .u8 0) Try.underlying22 hi hz0 hz1 hz2 rfl (.slice none 0 0) 0 [] rfl (World.ownsRow_nil _ _ _ _) B3 e3 p _ (by rw [HL.out.2.2.2.1]; rfl) HP.out.2.2.2.1 HP.out.1 (by unfold maxLen; rw [HL.out.2.2.2.1]; omega) (by rw [HL.out.2.2.2.1]; omega) (Nat.le_refl _) ?_; rw [HL.out.2.2.2.1, Nat.zero_add, List.nil_append]; intro v4 w4 ho hg; obtain ⟨g, cg, rfl, hbg, hlg⟩ := own_pos ho (by omega); have y1 := chain_cell ho HD.out; have y2 := ho.frozenAt i; have H4 := Lib.hid (chain_store HZ.out HC.out ho hbg hg HP.out.1 HP.out.2.1 HP.out.2.2.1); clear ho hg)))
  generalize hw5 : (w4.setCell ⟨g, i, none⟩ (.int .u8 (bits .xor .u8 (d : Int) (b : Int)))) = w5 at H4 ⊢
  have H5 := Lib.hid (show SeesP w5 (· < w5.heap.size) (some ⟨g, 0, none⟩) (Us c) ∧ SeesP w5 (· < w5.heap.size) B2 (Us q) ∧ SeesP w5 (· < w5.heap.size) B3 (Us p) ∧ Below w.heap.size w w5 from H4.out)
  have HCP := Lib.hid HP.out.2.2.2.2
  have HCC := Lib.hid hlg
  clear y1 y2 H4 HP H2 H0 H1 KW hw5 hbg hlg
  go_wp2_with (first
    | (go_at_call 12; (((with_reducible refine (awake6 _).mono ?_); rintro e w10 ⟨rfl, hb⟩); have H10 := Lib.hid (show _ ∧ _ ∧ _ ∧ _ ∧ _ from ⟨below_on H9.out.1 hb, H9.out.2.1.on hb, H9.out.2.2.1.on hb, H9.out.2.2.2.1.on hb, H9.out.2.2.2.2.on hb⟩); clear hb))
    | (go_at_call 17; (((with_reducible refine (open_n HL.out.2.2.1 HL.out.2.2.1 HL.out.2.2.2.2.1 HL.out.2.2.2.2.2 hLb HCC.out H8.out.2.1 H8.out.2.1 H8.out.1).mono ?_); rintro e w9 ⟨A9, c9, rfl, l9, s9, hb⟩); rw [HX.out.2.2.2] at s9; have H9 := Lib.hid (show _ ∧ _ ∧ _ ∧ _ ∧ _ from ⟨below_on H8.out.2.2.2.1 hb, H8.out.2.2.2.2.1.on hb, H8.out.2.2.2.2.2.1.on hb, H8.out.2.2.2.2.2.2.on hb, s9⟩); clear s9 hb))
    | (go_at_call 17; (((with_reducible refine (open_n HL.out.2.2.1 HL.out.2.2.1 HL.out.2.2.2.1 HL.out.2.2.2.2.2 hLb HCP.out H7.out.2.1 H7.out.2.1 H7.out.2.2.1).mono ?_); rintro e w8 ⟨A8, c8, rfl, l8, s8, hb⟩); rw [HX.out.2.2.1] at s8; have H8 := Lib.hid (show _ ∧ _ ∧ _ ∧ _ ∧ _ ∧ _ ∧ _ from ⟨H7.out.1.on hb, H7.out.2.1.on hb, H7.out.2.2.1.on hb, below_on H7.out.2.2.2.1 hb, H7.out.2.2.2.2.1.on hb, H7.out.2.2.2.2.2.on hb, s8⟩); clear s8 hb))
    | (go_at_call 15; (((with_reducible refine (seal_n HL.out.2.2.1 HL.out.2.2.1 HL.out.2.2.2.2.1 HL.out.2.2.2.2.2 hLb HCC.out H6.out.2.1 H6.out.2.1 H6.out.1).mono ?_); rintro e w7 ⟨A7, c7, rfl, l7, s7, hb⟩); rw [HX.out.2.1] at s7; have H7 := Lib.hid (show _ ∧ _ ∧ _ ∧ _ ∧ _ ∧ _ from ⟨H6.out.1.on hb, H6.out.2.1.on hb, H6.out.2.2.1.on hb, below_on H6.out.2.2.2.1 hb, H6.out.2.2.2.2.on hb, s7⟩); clear s7 hb))
    | (go_at_call 15; (((with_reducible refine (seal_n HL.out.2.2.1 HL.out.2.2.1 HL.out.2.2.2.1 HL.out.2.2.2.2.2 hLb HCP.out H5.out.2.1 H5.out.2.1 H5.out.2.2.1).mono ?_); rintro e w6 ⟨A6, c6, rfl, l6, s6, hb⟩); rw [HX.out.1] at s6; have H6 := Lib.hid (show _ ∧ _ ∧ _ ∧ _ ∧ _ from ⟨H5.out.1.on hb, H5.out.2.1.on hb, H5.out.2.2.1.on hb, below_on H5.out.2.2.2 hb, s6⟩); clear s6 hb)))
  have q6 : n ≤ c6 := by omega
  have q7 : n ≤ c7 := by omega
  have q8 : n ≤ c8 := by omega
  have q9 : n ≤ c9 := by omega
  have HT := Lib.hid (show (X.take n).length = n ∧ (Z.take n).length = n ∧ n ≤ 140737488351300 from ⟨by rw [List.length_take, HL.out.1.1]; omega, by rw [List.length_take, HL.out.2.1.1]; omega, by omega⟩)
  have HQ1 := Lib.hid (fun u => same_q (c1 := c6) (c2 := c7) HT.out.1 HT.out.2.2 (H10.out.2.1.upto n) (HF.out.1 ▸ H10.out.2.2.1.upto n) u)
  have HQ2 := Lib.hid (fun u => same_q (c1 := c8) (c2 := c9) HT.out.2.1 HT.out.2.2 (H10.out.2.2.2.1.upto n) (HF.out.2.1 ▸ H10.out.2.2.2.2.upto n) u)
  clear H5 H6 H7 H8 H9
  go_quiet ((go_at_call 13; first | (with_reducible exact Calls.quiet_of (HQ1.out _)) | (with_reducible exact Calls.quiet_of (HQ2.out _))))
  generalize hw11 : w10.drewN nq = w11
  have H11 := Lib.hid (show Below w.heap.size w w11 ∧ SeesP w11 (· < w11.heap.size) A8 (Us Z) ∧ SeesP w11 (· < w11.heap.size) A9 (Us V) from by rw [← hw11]; exact ⟨below_dn H10.out.1 nq, H10.out.2.2.2.1, H10.out.2.2.2.2⟩)
  obtain ⟨M, hM⟩ : ∃ M, M = n + 32 := ⟨_, rfl⟩
  have hMi : (n : Int) + 32 = (M : Int) := by omega
  have HM := Lib.hid hM
  clear H10 HQ1 HQ2 q6 q7 q8 q9 hw11 hM
  go_wp2_with fail
  by_cases g1 : L < M
  · have d1 : decide ((L : Int) < (M : Int)) = true := by simpa using g1
    go_quiet (fail)
    go_wp2_with fail
    go_ret
    exact ⟨rfl, below_dn H11.out.1 nq⟩
  · have d1 : decide ((L : Int) < (M : Int)) = false := by simpa using g1
    have s8 : M ≤ c8 := by omega
    have s9 : M ≤ c9 := by omega
    have e8 : M ≤ L := by omega
    by_cases g2 : M = L
    · subst g2
      have HQ4 := Lib.hid (fun (B1 B2 : Option Addr) (d1 d2 u : Nat) => same_q (A1 := B1) (A2 := B2) (c1 := d1) (c2 := d2) (n := 0) (x := []) (w := w11) rfl (by decide) (.inl rfl) (.inl rfl) u)
      go_quiet ((go_at_call 13; with_reducible exact Calls.quiet_of (HQ4.out _ _ _ _ _)))
      go_wp2_with fail
      all_goals
        go_ret
        exact ⟨rfl, below_dn H11.out.1 nq⟩
    · have hne8 : ¬ c8 = M := by omega
      have hne9 : ¬ c9 = M := by omega
      have HZ3 := Lib.hid (show (Z.drop M).length = L - M ∧ L - M ≤ 140737488351300 ∧ M < Z.length ∧ M < V.length ∧ V.drop M = Z.drop M from ⟨by rw [List.length_drop, HL.out.2.1.1], by omega, by rw [HL.out.2.1.1]; omega, by rw [HL.out.2.1.2]; omega, by rw [HM.out]; exact HF.out.2.2 (by have := HM.out; omega)⟩)
      have HQ3 := Lib.hid (fun u => same_q (c1 := c8 - M) (c2 := c9 - M) HZ3.out.1 HZ3.out.2.1 (H11.out.2.1.past HZ3.out.2.2.1) (HZ3.out.2.2.2.2 ▸ H11.out.2.2.past HZ3.out.2.2.2.1) u)
      go_quiet ((go_at_call 13; with_reducible exact Calls.quiet_of (HQ3.out _)))
      go_wp2_with fail
      go_ret
      exact ⟨rfl, below_dn H11.out.1 nq⟩

/-! ### the given statement, out of the walk -/
set_option maxRecDepth 100000 in
theorem lifted (os : Os) (started : os.Started) (H : Type) (enc : TypeId × Value → H) :
    ReturnsInHanded {} Try.checked os 7 .any (Rows.modesChainsSpec.pre6 enc Try.prog Try.f7 Rows.modesChainsRow.domain false) (Rows.modesChainsSpec.post enc Try.prog Try.f7 false true false false) := by
  refine returnsInHanded_of_change_sized (C := Try.checked) own started (by kernel_rfl) Try.func7
    (ChangeSpec.witness6 (enc := enc) (C := Try.checked) false ⟨#[], #[.slice none 0 0, .slice none 0 0, .agg #[.int .u8 0, .int .u8 0]], []⟩ 8 (by kernel_rfl) (by kernel_rfl) (by kernel_rfl) (by kernel_rfl)) ?_
  intro W base args ds gs before hval0 hW hcnd hsz0 _
  have hsz : (DataW.weightsEach Try.prog (Try.f7.params.toList ++ Rows.modesChainsSpec.plain.varTypes Try.prog) (ds ++ gs)).all (· ≤ reachBytes) = true := hsz0
  have hval : ∀ (j : Nat) t v, Try.f7.params[j]? = some t → args[j]? = some v → Value.okWide Try.prog W .any base t v := hval0
  have hW' := hW
  obtain ⟨p, q, hA0, hV, rfl, hfz, hnd⟩ := hW
  have hA : DataW.TrodAll enc Try.prog W 0 (fun _ => true) true Try.f7.params.toList args.toList ds p := hA0
  rw [Try.params7] at hA hval hsz
  obtain ⟨v0, vs0, d0, ds0, p0, q0, hargs, rfl, rfl, h0, r0⟩ := trodAll_cons hA
  obtain ⟨v1, vs1, d1, ds1, p1, q1, rfl, rfl, rfl, h1, r1⟩ := trodAll_cons r0
  obtain ⟨v2, vs2, d2, ds2, p2, q2, rfl, rfl, rfl, h2, r2⟩ := trodAll_cons r1
  obtain ⟨rfl, rfl, rfl⟩ := trodAll_nil r2
  obtain rfl : args = #[v0, v1, v2] := by cases args; simp_all
  obtain ⟨rfl, rfl⟩ := trodVars_none hV
  obtain ⟨a0, len0, cap0, rfl⟩ := okWide_slice Try.underlying22 (hval 0 22 v0 rfl rfl)
  have lt0 : ∀ x ∈ p0, x.block < W.heap.size := by obtain ⟨m, hm⟩ := h0; exact DataW.trod_lt m _ _ _ hm
  obtain ⟨x0, rfl, see0, hl0, nn0, hc0⟩ := open_u8s h0 lt0
  have m0 := reach_u8s hsz (j := 0) rfl rfl hl0 hc0
  obtain ⟨a1, len1, cap1, rfl⟩ := okWide_slice Try.underlying22 (hval 1 22 v1 rfl rfl)
  have lt1 : ∀ x ∈ p1, x.block < W.heap.size := by obtain ⟨m, hm⟩ := h1; exact DataW.trod_lt m _ _ _ hm
  obtain ⟨x1, rfl, see1, hl1, nn1, hc1⟩ := open_u8s h1 lt1
  have m1 := reach_u8s hsz (j := 1) rfl rfl hl1 hc1
  obtain ⟨ya, yb, rfl, rfl, rfl, wa, wb⟩ := open_arr2 Try.underlying33 Try.underlying5 (by kernel_rfl) (by kernel_rfl) (hval 2 33 v2 rfl rfl) h2
  clear hA0 hval0
  refine (walk a0 cap0 x0 a1 cap1 x1 ya yb W see0 m0 nn0 see1 m1 nn1 wa wb).mono fun e W' ⟨he, bel⟩ => ?_
  subst he
  exact ⟨_, rfl, _, _, _, [], _, [], hW', trodAll_mk1 (shut_bool Try.underlying4 _), (trodAll_cons_mk (Below.trod laidOut (by kernel_rfl) (of_decide_eq_true (by kernel_rfl)) h0 bel lt0) (trodAll_cons_mk (Below.trod laidOut (by kernel_rfl) (of_decide_eq_true (by kernel_rfl)) h1 bel lt1) (trodAll_cons_mk (shut_arr2 Try.underlying33 Try.underlying5 (by kernel_rfl) (by kernel_rfl) wa wb) trodAll_mk0))), rfl, bel.frame _, fun h => by cases h⟩

theorem proved : Rows.ModesChainsSaid :=
  OpenClaim.holds_of_wide 7 Try.f7 rfl rfl rfl rfl rfl rfl rfl ⟨rfl, rfl, rfl, rfl, rfl⟩ rfl rfl rfl rfl rfl (by kernel_rfl) Try.func7 (by kernel_rfl)
    (of_decide_eq_true (by kernel_rfl)) (by unfold Func.isWrapper; first | (rw [if_pos (by decide +kernel)]; kernel_rfl) | (rw [if_neg (by decide +kernel)]; exact ⟨rfl, rfl⟩))
    (fun os started H enc _ => lifted os started H enc)
end Go.Proofs.Ytipkaeeimohmpaa.modesChains
