/-
  What is proved here: Wrap, Common and Active of the program.
-/
import Derived.Test.YtkgfdbbdmchmeaaDoorZ23
import Derived.Test.YtkgfdbbdmchmeaaDoorZ34
import Derived.Test.YtkgfdbbdmchmeaaDoorZ13
namespace Go.Proofs.YtkgfdbbdmchmeaaDoor
open Go.RowKit
set_option maxRecDepth 8000
set_option linter.unusedVariables false
set_option linter.unusedSimpArgs false
theorem wpList_bldA {P : Program} {ops : Array Oper} {rest : List Oper} {o : Oper} {a : Act} {w : World} {Q : Exit → Act → World → Prop} (hgd : o.guard = none) (t : TypeId) (parts : Array (Nat × Operand)) (ho : o.op = .build t parts) {ps : List (Nat × Value)} (hp : (parts.map fun (i, x) => (i, a.eval x)).toList = ps) {vs : Array Value} (hb : P.built t ps = some vs)
    (hK : wpList P ops Q rest (a.put o.dst (.agg vs)) w) : wpList P ops Q (o :: rest) a w :=
  wpList_plain hgd fun _ hK2 => o_bld t parts ho hp (vs := vs.toList) (by rw [Array.toArray_toList]; exact hb) (by rw [Array.toArray_toList]; exact hK2 _ _ hK)
theorem pe02 {a : Act} {x0 x1 : Operand} {u0 u1 : Value} (h0 : a.eval x0 = u0) (h1 : a.eval x1 = u1) : ((#[(0, x0), (2, x1)] : Array (Nat × Operand)).map fun (i, x) => (i, a.eval x)).toList = [(0, u0), (2, u1)] := by simp [h0, h1]
theorem pe01 {a : Act} {x0 x1 : Operand} {u0 u1 : Value} (h0 : a.eval x0 = u0) (h1 : a.eval x1 = u1) : ((#[(0, x0), (1, x1)] : Array (Nat × Operand)).map fun (i, x) => (i, a.eval x)).toList = [(0, u0), (1, u1)] := by simp [h0, h1]
theorem bldN02 (t : Int) (A : Option Addr) (n c : Nat) : Tryd.prog.built 50 [(0, .int .i64 t), (2, .slice A n c)] = some #[.int .i64 t, .slice none 0 0, .slice A n c] := by kernel_rfl
theorem bldN01 (t : Int) (A : Option Addr) (n c : Nat) : Tryd.prog.built 50 [(0, .int .i64 t), (1, .slice A n c)] = some #[.int .i64 t, .slice A n c, .slice none 0 0] := by kernel_rfl
theorem wrF_seesF {w : World} {g : Nat} {n : Int} {f : F} {A : Option Addr} {ck : Nat} (hr : RowV w g [.int .i64 (gtV n), .slice none 0 0, .slice A f.len ck]) (hs : SeesF w (· < w.heap.size) A f) : SeesF w (· < w.heap.size) (some ⟨g, 0, none⟩) (wrF n f) := by
  obtain ⟨ks, k1, k2⟩ := hs
  exact ⟨_, .inr ⟨g, 0, rfl, hr.lt, fun j hj => by rw [Nat.zero_add, hr.cell]; rfl⟩, none, 0, A, ck, ks, [], rfl, fun _ => rfl, .inl rfl, k1, k2, rfl⟩
theorem one_primF {w : World} {g : Nat} {t : Int} {v : List UInt8} {A : Option Addr} {c n : Nat} (e : v.length = n) (hr : RowV w g [.int .i64 t, .slice A n c, .slice none 0 0]) (h : SeesP w (· < w.heap.size) A (Us v) ∧ (A = none → c = 0)) : SeesF w (· < w.heap.size) (some ⟨g, 0, none⟩) (.cons t v .nil .nil) := by
  subst e
  exact ⟨_, .inr ⟨g, 0, rfl, hr.lt, fun j hj => by rw [Nat.zero_add]; exact hr.cell j⟩, A, c, none, 0, [], [], rfl, h.2, h.1, .inl rfl, rfl, rfl⟩
def GivesV (w : World) (bs : List UInt8) (er : Int) (e : Ending) (w' : World) : Prop := ∃ A c, e = .returned (.tuple #[.slice A bs.length c, .int .i64 er]) ∧ SeesP w' (· < w'.heap.size) A (Us bs) ∧ Below w.heap.size w w' ∧ bs.length ≤ c
theorem GivesV.wide {w w' : World} {bs : List UInt8} {er : Int} {e : Ending} (h : GivesV w bs er e w') : GivesW w bs er e w' := by
  obtain ⟨A, c, h1, h2, h3, _⟩ := h
  exact ⟨A, c, h1, h2, h3⟩
theorem GivesV.fail {w u : World} (x : Int) (hb : Below w.heap.size w u) {l : List UInt8} {y : Int} (h1 : l = []) (h2 : y = x) : GivesV w l y (.returned (.tuple #[.slice none 0 0, .int .i64 x])) u := by
  subst h1 h2
  exact ⟨none, 0, rfl, .inl rfl, hb, Nat.le_refl _⟩
set_option maxHeartbeats 1600000 in
theorem p_wrap (n : Int) (f : F) (lk : Nat) (hlk : f.len = lk) (A : Option Addr) (c : Nat) (w : World) (ht : TabT w) (hlo : -9223372036854775808 ≤ n) (hhi : n ≤ 9223372036854775807) (hsz : f.size < 1125899906842620) (hok : f.ok) (hs : SeesF w (· < w.heap.size) A f) :
    Calls Tryd.prog 15 #[.int .i64 n, .slice A lk c] w (GivesV w (wrB n f) (wrE n f)) := by
  have HG := Lib.hid (p_tag n w ht hlo hhi)
  have HS := Lib.hid (show _ ∧ _ from ⟨hs, hlk⟩)
  have HE : Hid (∀ (A : Option Addr) (c : Nat) (w : World), SeesF w (· < w.heap.size) A (wrF n f) → Calls Tryd.prog 29 #[.slice A 1 c] w (GivesV w (encB (wrF n f)) (encE (wrF n f)))) := Lib.hid (fun A c w h => tlv_encode_c (wrF n f) A c w (by rw [wrF_size]; omega) (wrF_ok hok) h)
  have HW := Lib.hid (fun (g : Nat) (u : World) (ck : Nat) (h1 : RowV u g [.int .i64 (gtV n), .slice none 0 0, .slice A f.len ck]) (h2 : SeesF u (· < u.heap.size) A f) => wrF_seesF h1 h2)
  have hb1 : wrB n f = if gtE n = 0 then encB (wrF n f) else [] := rfl
  have hb2 : wrE n f = if gtE n = 0 then encE (wrF n f) else gtE n := rfl
  obtain ⟨W, hWr⟩ : ∃ z, wrF n f = z := ⟨_, rfl⟩
  rw [hWr] at HE HW hb1 hb2
  obtain ⟨tv, htv⟩ : ∃ z, gtV n = z := ⟨_, rfl⟩
  obtain ⟨te, hte⟩ : ∃ z, gtE n = z := ⟨_, rfl⟩
  rw [htv] at HG HW
  rw [hte] at HG hb1 hb2
  unfold GivesV at HE
  by_cases h0 : te = 0
  · have d0 : (te != 0) = false := by simpa using h0
    rw [if_pos h0] at hb1 hb2
    have HF := Lib.hid (show wrB n f = encB W ∧ wrE n f = encE W from ⟨hb1, hb2⟩)
    subst h0
    clear hb1 hb2 hWr htv hte ht hs hlk hsz hok hlo hhi
    go_enter Tryd.func15, Tryd.ntmps15
    go_wp2_with (first
      | (go_at_call 5; ((with_reducible refine HG.out.mono ?_); rintro e w1 ⟨rfl, hw1⟩); (have hw2 := hw1.symm; clear hw1; subst hw2))
      | ((with_reducible refine at_any_ (d := 18) ?_); go_must (refine wpList_bldA rfl 50 _ rfl (pe02 rfl rfl) (bldN02 _ _ _ _) ?_))
      | ((with_reducible refine at_any_ (d := 19) ?_); go_must (refine wpList_bslV rfl 31 50 1 _ rfl Tryd.underlying31 (pe1 rfl) (bs1 _ _ _) ?_); intro g5 w3 hf hr; have H3 := Lib.hid (show Below w.heap.size w w3 ∧ SeesF w3 (· < w3.heap.size) (some ⟨g5, 0, none⟩) W from ⟨hf.bw, HW.out g5 w3 c (by rw [HS.out.2]; exact hr) (HS.out.1.on hf.bw)⟩); clear hf hr)
      | (go_at_call 29; ((with_reducible refine (HE.out _ _ _ H3.out.2).mono ?_); rintro e w4 ⟨A4, c4, rfl, h1, h2⟩); have H4 := Lib.hid (show _ ∧ _ from ⟨h1, h2⟩); clear h1 h2))
    have HD := Lib.hid (show GivesV w (wrB n f) (wrE n f) (.returned (.tuple #[.slice A4 (encB W).length c4, .int .i64 (encE W)])) w4 from by
      rw [HF.out.1, HF.out.2]
      exact ⟨A4, c4, rfl, H4.out.1, below_on H3.out.1 H4.out.2.1, H4.out.2.2⟩)
    go_ret2
    exact HD.out
  · have d0 : (te != 0) = true := by simpa using h0
    rw [if_neg h0] at hb1 hb2
    have HD := Lib.hid (show GivesV w (wrB n f) (wrE n f) (.returned (.tuple #[.slice none 0 0, .int .i64 te])) w from GivesV.fail te (Below.refl _ _) hb1 hb2)
    clear hb1 hb2 hWr htv hte ht hs hlk hsz hok h0 hlo hhi HE HW
    go_enter Tryd.func15, Tryd.ntmps15
    go_wp2_with (first
      | (go_at_call 5; ((with_reducible refine HG.out.mono ?_); rintro e w1 ⟨rfl, hw1⟩); (have hw2 := hw1.symm; clear hw1; subst hw2)))
    go_ret2
    exact HD.out
def CobIs (w : World) (A : Option Addr) (n c : Nat) (e : Ending) (w' : World) : Prop := ∃ g g1 g2, e = .returned (.slice (some ⟨g, 0, none⟩) 3 3) ∧ Below w.heap.size w w' ∧ w.heap.size ≤ g ∧
  RowV w' g [.int .i64 24321, .slice (some ⟨g1, 0, none⟩) 4 4, .slice none 0 0, .int .i64 24374, .slice (some ⟨g2, 0, none⟩) 6 6, .slice none 0 0, .int .i64 92, .slice A n c, .slice none 0 0] ∧
  SeesP w' (· < w'.heap.size) (some ⟨g1, 0, none⟩) (Us t0108) ∧ SeesP w' (· < w'.heap.size) (some ⟨g2, 0, none⟩) (Us t0400)
set_option maxHeartbeats 1600000 in
theorem p_cobj (A : Option Addr) (n c : Nat) (w : World) : Calls Tryd.prog 32 #[.slice A n c] w (CobIs w A n c) := by
  have HB := Lib.hid (Below.refl w.heap.size w)
  go_enter Tryd.func32, Tryd.ntmps32
  go_wp2_with (first
    | ((with_reducible refine at_any_ (d := 3) ?_); go_must (refine wpList_bslV rfl 35 5 4 _ rfl Tryd.underlying35 (pvv4 rfl rfl rfl rfl) bs0108 ?_); intro g1 wa hf hr; have Ha := Lib.hid (show Below w.heap.size w wa ∧ RowV wa g1 (Us t0108) ∧ w.heap.size ≤ g1 from ⟨hf.bw, hr, Nat.le_of_eq hf.1.symm⟩); clear hf hr)
    | ((with_reducible refine at_any_ (d := 4) ?_); go_must (refine wpList_bytes rfl (.tmp 3) rfl g1 4 rfl Ha.out.2.1 ?_); intro w1 hw hs; have H1 := Lib.hid (show Below w.heap.size w w1 ∧ SeesP w1 (· < w1.heap.size) (some ⟨g1, 0, none⟩) (Us t0108) from ⟨Wr.bl Ha.out.1 hw Ha.out.2.2, hs.imp fun b hb => by subst hb; rw [hw.2.2.2.1]; exact Ha.out.2.1.lt⟩); clear hw hs)
    | ((with_reducible refine at_any_ (d := 5) ?_); go_must (refine wpList_bldA rfl 50 _ rfl (pe01 rfl rfl) (bldN01 _ _ _ _) ?_))
    | ((with_reducible refine at_any_ (d := 6) ?_); go_must (refine wpList_bslV rfl 35 5 6 _ rfl Tryd.underlying35 (pvv6 rfl rfl rfl rfl rfl rfl) bs0400 ?_); intro g3 wc hf hr; have Hc := Lib.hid (show Below w.heap.size w wc ∧ RowV wc g3 (Us t0400) ∧ w.heap.size ≤ g3 ∧ w1.heap.size ≤ g3 ∧ Below w1.heap.size w1 wc from ⟨below_on H1.out.1 hf.bw, hr, Nat.le_trans H1.out.1.size (Nat.le_of_eq hf.1.symm), Nat.le_of_eq hf.1.symm, hf.bw⟩); clear hf hr)
    | ((with_reducible refine at_any_ (d := 7) ?_); go_must (refine wpList_bytes rfl (.tmp 6) rfl g3 6 rfl Hc.out.2.1 ?_); intro w3 hw hs; have H3 := Lib.hid (show Below w.heap.size w w3 ∧ SeesP w3 (· < w3.heap.size) (some ⟨g1, 0, none⟩) (Us t0108) ∧ SeesP w3 (· < w3.heap.size) (some ⟨g3, 0, none⟩) (Us t0400) from ⟨Wr.bl Hc.out.1 hw Hc.out.2.2.1, SeesP.on2 H1.out.2 (Wr.bl Hc.out.2.2.2.2 hw Hc.out.2.2.2.1), hs.imp fun b hb => by subst hb; rw [hw.2.2.2.1]; exact Hc.out.2.1.lt⟩); clear hw hs)
    | ((with_reducible refine at_any_ (d := 8) ?_); go_must (refine wpList_bldA rfl 50 _ rfl (pe01 rfl rfl) (bldN01 _ _ _ _) ?_))
    | ((with_reducible refine at_any_ (d := 10) ?_); go_must (refine wpList_bldA rfl 50 _ rfl (pe01 rfl rfl) (bldN01 _ _ _ _) ?_))
    | ((with_reducible refine at_any_ (d := 11) ?_); go_must (refine wpList_bslV rfl 31 50 3 _ rfl Tryd.underlying31 (pvv3 rfl rfl rfl) (bs3n _ _ _ _ _ _ _ _ _) ?_); intro g6 w6 hf hr; have H6 := Lib.hid (show Below w.heap.size w w6 ∧ w.heap.size ≤ g6 ∧ RowV w6 g6 [.int .i64 24321, .slice (some ⟨g1, 0, none⟩) 4 4, .slice none 0 0, .int .i64 24374, .slice (some ⟨g3, 0, none⟩) 6 6, .slice none 0 0, .int .i64 92, .slice A n c, .slice none 0 0] ∧ SeesP w6 (· < w6.heap.size) (some ⟨g1, 0, none⟩) (Us t0108) ∧ SeesP w6 (· < w6.heap.size) (some ⟨g3, 0, none⟩) (Us t0400) from ⟨below_on H3.out.1 hf.bw, Nat.le_trans H3.out.1.size (Nat.le_of_eq hf.1.symm), hr, SeesP.on2 H3.out.2.1 hf.bw, SeesP.on2 H3.out.2.2 hf.bw⟩); clear hf hr))
  go_ret
  exact ⟨g6, g1, g3, rfl, H6.out⟩
theorem three_seesF {w : World} {g : Nat} {t1 t2 t3 : Int} {v1 v2 v3 : List UInt8} {A1 A2 A3 : Option Addr} {c1 c2 c3 n1 n2 n3 : Nat} (e1 : v1.length = n1) (e2 : v2.length = n2) (e3 : v3.length = n3)
    (hr : RowV w g [.int .i64 t1, .slice A1 n1 c1, .slice none 0 0, .int .i64 t2, .slice A2 n2 c2, .slice none 0 0, .int .i64 t3, .slice A3 n3 c3, .slice none 0 0])
    (h1 : SeesP w (· < w.heap.size) A1 (Us v1) ∧ (A1 = none → c1 = 0)) (h2 : SeesP w (· < w.heap.size) A2 (Us v2) ∧ (A2 = none → c2 = 0)) (h3 : SeesP w (· < w.heap.size) A3 (Us v3) ∧ (A3 = none → c3 = 0)) :
    SeesF w (· < w.heap.size) (some ⟨g, 0, none⟩) (.cons t1 v1 .nil (.cons t2 v2 .nil (.cons t3 v3 .nil .nil))) := by
  subst e1 e2 e3
  refine ⟨_, .inr ⟨g, 0, rfl, hr.lt, fun j hj => by rw [Nat.zero_add]; exact hr.cell j⟩, A1, c1, none, 0, [], [.int .i64 t2, .slice A2 v2.length c2, .slice none 0 0, .int .i64 t3, .slice A3 v3.length c3, .slice none 0 0], rfl, h1.2, h1.1, .inl rfl, rfl, ?_⟩
  refine ⟨A2, c2, none, 0, [], [.int .i64 t3, .slice A3 v3.length c3, .slice none 0 0], rfl, h2.2, h2.1, .inl rfl, rfl, ?_⟩
  exact ⟨A3, c3, none, 0, [], [], rfl, h3.2, h3.1, .inl rfl, rfl, rfl⟩
set_option maxHeartbeats 3200000 in
set_option maxRecDepth 20000 in
theorem p_common (o : List Int) (n : Nat) (hn : o.length = n) (hm : n ≤ 140737488351232) (A : Option Addr) (c : Nat) (w : World) (ht : TabT w) (hrg : ∀ x ∈ o, -9223372036854775808 ≤ x ∧ x ≤ 9223372036854775807) (hs : SeesP w (· < w.heap.size) A (o.map (Value.int .i64))) :
    Calls Tryd.prog 17 #[.slice A n c] w (GivesV w (cmB o) (cmE o)) := by
  obtain ⟨i0, hi, hz0, hz1, hz2⟩ := info_parts info_u8b
  have HT := Lib.hid ht
  have HRG := Lib.hid hrg
  have HS := Lib.hid (show _ ∧ _ from ⟨hs, hn⟩)
  have HG := Lib.hid (show ∀ x, coE 0 o = x → x ≠ 0 → ∀ u, Below w.heap.size w u → GivesV w (cmB o) (cmE o) (.returned (.tuple #[.slice none 0 0, .int .i64 x])) u from fun x hx h0 u hb => GivesV.fail x hb (by unfold cmB; rw [hx, if_neg h0]) (by unfold cmE; rw [hx, if_neg h0]))
  clear hs hn ht hrg
  go_enter Tryd.func17, Tryd.ntmps17
  go_wp2_with fail
  go_loopw [4, 11] (fun v i wr => ∃ (j : Nat) (lv : Int), j ≤ n ∧ i = .int .i64 (j : Int) ∧ Hid (HeldB w wr v ((o.take j).map tgB) ∧ Below w.heap.size w wr ∧ coE 0 o = coE lv (o.drop j) ∧ (j : Int) ≤ lv ∧ lv ≤ 16 ∧ (j = 0 → lv = 0) ∧ ∀ k, j = k + 1 → o[k]? = some lv)) (fun _ i _ => n - (intOf i).toNat)
  case atStart => exact ⟨0, 0, by omega, rfl, Lib.hid ⟨HeldB.start w, Below.refl _ _, rfl, by omega, by omega, fun _ => rfl, fun k hk => by omega⟩⟩
  case round =>
    obtain ⟨j, lv, hj, rfl, HR⟩ := hrel
    by_cases hlt : j < n
    · have dj : decide ((j : Int) < (n : Int)) = true := by simp; omega
      obtain ⟨g, hg⟩ : ∃ g, o[j]? = some g := ⟨_, List.getElem?_eq_getElem (by rw [HS.out.2]; exact hlt)⟩
      obtain ⟨b, off, rfl, hb, hc⟩ := int_atV HS.out.1 hg
      have c1 : wr.cell? ⟨b, off + j, none⟩ = some (.int .i64 g) := (HR.out.2.1.cell hb).trans hc
      have hst := coE_at hg lv
      rw [← HR.out.2.2.1] at hst
      have hmap := map_snoc hg
      have HI := Lib.hid (fun u => p_isdata g u)
      have HGR := Lib.hid (HRG.out g (List.mem_of_getElem? hg))
      have HGG := Lib.hid hg
      clear hb hc hg
      by_cases h1 : ¬ (1 ≤ g ∧ g ≤ 16)
      · rw [isd_no h1] at HI
        rw [if_pos (by omega)] at hst
        have HD := Lib.hid (HG.out 3 hst (by decide) _ HR.out.2.1)
        clear hst hmap h1
        go_wp2_with (first
          | (go_at_call 23; ((with_reducible refine (HI.out _).mono ?_); rintro e w1 ⟨rfl, hw1⟩); (have hw2 := hw1.symm; clear hw1; subst hw2)))
        go_ret2
        exact HD.out
      have h1 := Decidable.not_not.1 h1
      rw [isd_yes h1] at HI
      rw [if_neg (by omega)] at hst
      obtain ⟨k, hk⟩ : ∃ k : Nat, g = (k : Int) + 1 := ⟨(g - 1).toNat, by omega⟩
      have hk18 : k < 18 := by omega
      obtain ⟨hgt, hge⟩ := gt_yes hk hk18
      have hbd := tagsG_bd k hk18
      obtain ⟨zn, hzn⟩ : ∃ zn : Nat, tagsG.getD k 0 = (zn : Int) := ⟨(tagsG.getD k 0).toNat, by omega⟩
      rw [hzn] at hgt
      have htb : tgB g = UInt8.ofNat zn := by unfold tgB; rw [hgt]; rfl
      rw [htb] at hmap
      have HTG := Lib.hid (p_tag g wr (HT.out.on HR.out.2.1) HGR.out.1 HGR.out.2)
      rw [hgt, hge] at HTG
      obtain ⟨M, hM⟩ : ∃ z, (o.take j).map tgB = z := ⟨_, rfl⟩
      have hMl : M.length = j := by rw [← hM, List.length_map, List.length_take, HS.out.2]; omega
      rw [hM] at HR hmap
      have HN := Lib.hid (show M.length = j ∧ j ≤ 16 from ⟨hMl, by have := HR.out.2.2.2; omega⟩)
      have hcase : (j = 0 ∧ lv = 0) ∨ ∃ k0, j = k0 + 1 ∧ wr.cell? ⟨b, off + k0, none⟩ = some (.int .i64 lv) := by
        rcases j with _ | k0
        · exact .inl ⟨rfl, HR.out.2.2.2.2.2.1 rfl⟩
        · refine .inr ⟨k0, rfl, ?_⟩
          obtain ⟨b2, off2, e2, hb2, hc2⟩ := int_atV HS.out.1 (HR.out.2.2.2.2.2.2 k0 rfl)
          injection e2 with e2
          injection e2 with e3 e4
          subst e3 e4
          exact (HR.out.2.1.cell hb2).trans hc2
      by_cases h3 : g ≤ lv
      · have d3 : decide (g ≤ lv) = true := by simpa using h3
        rw [if_pos h3] at hst
        have HD := Lib.hid (HG.out 17 hst (by decide) _ HR.out.2.1)
        rcases hcase with ⟨e1, e2⟩ | ⟨k0, e1, c2⟩
        · omega
        have dp : 0 < j := by omega
        have hjn : ¬ j = 0 := by omega
        have c3 := c2
        rw [show k0 = j - 1 by omega] at c3
        clear c2
        have es : wrap64 ((j : Int) - 1) = (k0 : Int) := by unfold wrap64; omega
        have hkn : k0 < n := by omega
        clear hst hmap h1 h3 hk hgt hge hbd hzn htb hM hMl e1
        go_wp2_with (first
          | (go_at_call 23; ((with_reducible refine (HI.out _).mono ?_); rintro e w1 ⟨rfl, hw1⟩); (have hw2 := hw1.symm; clear hw1; subst hw2)))
        go_ret2
        exact HD.out
      have d3 : decide (g ≤ lv) = false := by simpa using h3
      rw [if_neg h3] at hst
      have HST := Lib.hid (show (o.take (j + 1)).map tgB = M ++ [UInt8.ofNat zn] ∧ coE 0 o = coE g (o.drop (j + 1)) ∧ ((j + 1 : Nat) : Int) ≤ g ∧ g ≤ 16 ∧ (j + 1 = 0 → g = 0) ∧ ∀ k, j + 1 = k + 1 → o[k]? = some g from ⟨hmap, hst, by have := HR.out.2.2.2; omega, by omega, fun h => by omega, fun k hk => by injection hk with hk; subst hk; exact HGG.out⟩)
      rcases hcase with ⟨e1, e2⟩ | ⟨k0, e1, c2⟩
      · have dp : ¬ 0 < j := by omega
        have hjn : j = 0 := by omega
        clear hst hmap h1 h3 hk hgt hge hbd hzn htb hM hMl e1 e2 hjn
        go_wp2_with (first
          | (go_at_call 23; ((with_reducible refine (HI.out _).mono ?_); rintro e w1 ⟨rfl, hw1⟩); (have hw2 := hw1.symm; clear hw1; subst hw2))
          | (go_at_call 5; ((with_reducible refine HTG.out.mono ?_); rintro e w1 ⟨rfl, hw1⟩); (have hw2 := hw1.symm; clear hw1; subst hw2))
          | ((with_reducible refine at_any_ (d := 37) ?_); go_must (refine wpList_cvP rfl 3 5 (.tmp 36) rfl rfl (cv_u8 zn _) ?_))
          | ((with_reducible refine at_any_ (d := 38) ?_); go_must (refine wpList_bslV rfl 35 5 1 _ rfl Tryd.underlying35 (pe1 rfl) (bsu1 _) ?_); intro g9 wf hf hr; have H9 := Lib.hid (show Below wr.heap.size wr wf ∧ RowV wf g9 (Us [UInt8.ofNat zn]) from ⟨hf.bw, hr⟩); clear hf hr)
          | ((with_reducible refine at_call_ (d := 39) ?_); have HO := HR.out.1; unfold HeldB at HO; rw [HN.out.1] at HO; go_must (refine wpList_append_lies _ rfl (.tmp 35) (.tmp 38) 35 rfl w.heap.size 5 i0 _ 1 1 Tryd.underlying35 hi hz0 hz1 hz2 rfl (by decide) u4 j (Us M) rfl (own3_on HO H9.out.1) ⟨g9, 0, none⟩ 1 1 (Us [UInt8.ofNat zn]) rfl rfl (RowV.src H9.out.2) (Us_one _) (by decide) (by have := HN.out.2; unfold maxLen; omega) (by have := HN.out.2; omega) (Nat.le_trans HR.out.2.1.size H9.out.1.size) _ rfl ?_); intro g10 c10 wg ho hg hl hltg; have H10 := Lib.hid (show HeldB w wg (.slice (some ⟨g10, 0, none⟩) (j + 1) c10) (M ++ [UInt8.ofNat zn]) ∧ Below w.heap.size w wg from ⟨by unfold HeldB; rw [Us_append, List.length_append, HN.out.1]; exact ho, row_below (below_on HR.out.2.1 H9.out.1) hg fun k e => (own_lt3 HO k e).1⟩); clear ho hg hl hltg HO))
        go_roundw
        case rel => exact ⟨j + 1, g, by omega, by first | rfl | go_num, Lib.hid ⟨by rw [HST.out.1]; exact H10.out.1, H10.out.2, HST.out.2⟩⟩
        case measure => simp [intOf]; omega
      · have dp : 0 < j := by omega
        have hjn : ¬ j = 0 := by omega
        have c3 := c2
        rw [show k0 = j - 1 by omega] at c3
        clear c2
        have es : wrap64 ((j : Int) - 1) = (k0 : Int) := by unfold wrap64; omega
        have hkn : k0 < n := by omega
        clear hst hmap h1 h3 hk hgt hge hbd hzn htb hM hMl e1
        go_wp2_with (first
          | (go_at_call 23; ((with_reducible refine (HI.out _).mono ?_); rintro e w1 ⟨rfl, hw1⟩); (have hw2 := hw1.symm; clear hw1; subst hw2))
          | (go_at_call 5; ((with_reducible refine HTG.out.mono ?_); rintro e w1 ⟨rfl, hw1⟩); (have hw2 := hw1.symm; clear hw1; subst hw2))
          | ((with_reducible refine at_any_ (d := 37) ?_); go_must (refine wpList_cvP rfl 3 5 (.tmp 36) rfl rfl (cv_u8 zn _) ?_))
          | ((with_reducible refine at_any_ (d := 38) ?_); go_must (refine wpList_bslV rfl 35 5 1 _ rfl Tryd.underlying35 (pe1 rfl) (bsu1 _) ?_); intro g9 wf hf hr; have H9 := Lib.hid (show Below wr.heap.size wr wf ∧ RowV wf g9 (Us [UInt8.ofNat zn]) from ⟨hf.bw, hr⟩); clear hf hr)
          | ((with_reducible refine at_call_ (d := 39) ?_); have HO := HR.out.1; unfold HeldB at HO; rw [HN.out.1] at HO; go_must (refine wpList_append_lies _ rfl (.tmp 35) (.tmp 38) 35 rfl w.heap.size 5 i0 _ 1 1 Tryd.underlying35 hi hz0 hz1 hz2 rfl (by decide) u4 j (Us M) rfl (own3_on HO H9.out.1) ⟨g9, 0, none⟩ 1 1 (Us [UInt8.ofNat zn]) rfl rfl (RowV.src H9.out.2) (Us_one _) (by decide) (by have := HN.out.2; unfold maxLen; omega) (by have := HN.out.2; omega) (Nat.le_trans HR.out.2.1.size H9.out.1.size) _ rfl ?_); intro g10 c10 wg ho hg hl hltg; have H10 := Lib.hid (show HeldB w wg (.slice (some ⟨g10, 0, none⟩) (j + 1) c10) (M ++ [UInt8.ofNat zn]) ∧ Below w.heap.size w wg from ⟨by unfold HeldB; rw [Us_append, List.length_append, HN.out.1]; exact ho, row_below (below_on HR.out.2.1 H9.out.1) hg fun k e => (own_lt3 HO k e).1⟩); clear ho hg hl hltg HO))
        go_roundw
        case rel => exact ⟨j + 1, g, by omega, by first | rfl | go_num, Lib.hid ⟨by rw [HST.out.1]; exact H10.out.1, H10.out.2, HST.out.2⟩⟩
        case measure => simp [intOf]; omega
    · obtain rfl : j = n := by omega
      have dj : decide ((j : Int) < (j : Int)) = false := by simp
      have hh := HR.out.1
      rw [List.take_of_length_le (by rw [HS.out.2]; exact Nat.le_refl _)] at hh
      unfold HeldB at hh
      rw [List.length_map, HS.out.2] at hh
      obtain ⟨A3, c3, hv, hc3, hs3⟩ := own_newB hh
      subst hv
      have h0 : coE 0 o = 0 := by
        rw [HR.out.2.2.1, List.drop_eq_nil_of_le (by rw [HS.out.2]; exact Nat.le_refl _)]
        rfl
      have hj16 : j ≤ 16 := by have := HR.out.2.2.2; omega
      have HB := Lib.hid (show Below w.heap.size w wr ∧ SeesP wr (· < wr.heap.size) A3 (Us (o.map tgB)) ∧ (A3 = none → c3 = 0) from ⟨HR.out.2.1, hs3.imp low_newB, hc3.1⟩)
      have HL := Lib.hid (show (o.map tgB).length = j from by rw [List.length_map]; exact HS.out.2)
      have HWR := Lib.hid (show ∀ (X : Option Addr) (cx : Nat) (u : World), Below w.heap.size w u → SeesF u (· < u.heap.size) X (coF o) → Calls Tryd.prog 15 #[.int .i64 17, .slice X 3 cx] u (GivesV u (cmB o) (cmE o)) from fun X cx u hb hx => by
        have e1 : cmB o = wrB 17 (coF o) := by unfold cmB; rw [if_pos h0]
        have e2 : cmE o = wrE 17 (coF o) := by unfold cmE; rw [if_pos h0]
        rw [e1, e2]
        exact p_wrap 17 (coF o) 3 rfl X cx u (HT.out.on hb) (by decide) (by decide) (by rw [coF_size]; decide) (coF_ok o (by rw [HS.out.2]; exact hj16)) hx)
      have HF : Hid (coF o = .cons 24321 t0108 .nil (.cons 24374 t0400 .nil (.cons 92 (o.map tgB) .nil .nil))) := Lib.hid rfl
      have HC := Lib.hid (fun u => p_cobj A3 j c3 u)
      unfold CobIs at HC
      obtain ⟨bs, hbs⟩ : ∃ z, cmB o = z := ⟨_, rfl⟩
      obtain ⟨er, her⟩ : ∃ z, cmE o = z := ⟨_, rfl⟩
      rw [hbs, her] at HWR
      unfold GivesV at HWR
      have HBE := Lib.hid (show cmB o = bs ∧ cmE o = er from ⟨hbs, her⟩)
      obtain ⟨W, hW⟩ : ∃ z, coF o = z := ⟨_, rfl⟩
      rw [hW] at HWR HF
      obtain ⟨L3, hL3⟩ : ∃ z, o.map tgB = z := ⟨_, rfl⟩
      rw [hL3] at HB HL HF
      clear hh hs3 hc3 h0 hj16 HR hbs her hW hL3 HG
      go_wp2_with (first
        | (go_at_call 32; ((with_reducible refine (HC.out _).mono ?_); rintro e w6 ⟨g, g1, g2, rfl, hb, hgg, hr, h1, h2⟩); have H6 := Lib.hid (show Below w.heap.size w w6 ∧ SeesF w6 (· < w6.heap.size) (some ⟨g, 0, none⟩) W from ⟨below_on HB.out.1 hb, by rw [HF.out]; exact three_seesF rfl rfl HL.out hr ⟨h1, fun h => by cases h⟩ ⟨h2, fun h => by cases h⟩ ⟨SeesP.on2 HB.out.2.1 hb, HB.out.2.2⟩⟩); clear hb hr h1 h2 hgg)
        | (go_at_call 15; ((with_reducible refine (HWR.out _ _ _ H6.out.1 H6.out.2).mono ?_); rintro e w7 ⟨A7, c7, rfl, h1, h2⟩); have H7 := Lib.hid (show _ ∧ _ from ⟨h1, h2⟩); clear h1 h2))
      have HD := Lib.hid (show GivesV w (cmB o) (cmE o) (.returned (.tuple #[.slice A7 bs.length c7, .int .i64 er])) w7 from by
        rw [HBE.out.1, HBE.out.2]
        exact ⟨A7, c7, rfl, H7.out.1, below_on H6.out.1 H7.out.2.1, H7.out.2.2⟩)
      go_ret2
      exact HD.out
set_option maxHeartbeats 1600000 in
theorem p_active (x : Int) (w : World) (ht : TabT w) : Calls Tryd.prog 19 #[.int .i64 x] w (GivesV w (acB x) (acE x)) := by
  have HT := Lib.hid ht
  have HEN := Lib.hid (grp_encode x w)
  have hlen := en_len x
  have hle := enN_le x
  rcases hx : elB x with _ | _
  · obtain ⟨e1, e2, e3⟩ := en_no hx
    rw [e1, e2, e3] at HEN
    have HG := Lib.hid (show ∀ u, Below w.heap.size w u → GivesV w (acB x) (acE x) (.returned (.tuple #[.slice none 0 0, .int .i64 10])) u from fun u hb => GivesV.fail 10 hb (by unfold acB; rw [e3, if_neg (by decide)]) (by unfold acE; rw [e3, if_neg (by decide)]))
    clear e1 e2 e3 hx hlen hle ht
    go_enter Tryd.func19, Tryd.ntmps19
    go_wp2_with (first
      | (go_at_call 34; ((with_reducible refine HEN.out.mono ?_); rintro e w1 ⟨A1, c1, rfl, hs, hb⟩); have H1 := Lib.hid (HG.out _ hb); clear hs hb))
    go_ret2
    exact H1.out
  · obtain ⟨e1, e2, e3⟩ := en_yes hx
    rw [e1, e3] at HEN
    have hl4 : (enL x).length = 4 := by rw [hlen, e1]
    have HWR := Lib.hid (show ∀ (X : Option Addr) (cx : Nat) (u : World), Below w.heap.size w u → SeesF u (· < u.heap.size) X (acF x) → Calls Tryd.prog 15 #[.int .i64 15, .slice X 1 cx] u (GivesV u (acB x) (acE x)) from fun X cx u hb hx => by
      have q1 : acB x = wrB 15 (acF x) := by unfold acB; rw [if_pos e3]
      have q2 : acE x = wrE 15 (acF x) := by unfold acE; rw [if_pos e3]
      rw [q1, q2]
      exact p_wrap 15 (acF x) 1 rfl X cx u (HT.out.on hb) (by decide) (by decide) (by show (0 + 0 + 1) < _; decide) ⟨by decide, by rw [hl4]; decide, trivial, trivial⟩ hx)
    obtain ⟨bs, hbs⟩ : ∃ z, acB x = z := ⟨_, rfl⟩
    obtain ⟨er, her⟩ : ∃ z, acE x = z := ⟨_, rfl⟩
    rw [hbs, her] at HWR
    unfold GivesV at HWR
    have HBE := Lib.hid (show acB x = bs ∧ acE x = er from ⟨hbs, her⟩)
    have HF : Hid (acF x = .cons 4 (enL x) .nil .nil) := Lib.hid rfl
    obtain ⟨W, hW⟩ : ∃ z, acF x = z := ⟨_, rfl⟩
    rw [hW] at HWR HF
    obtain ⟨L, hL⟩ : ∃ z, enL x = z := ⟨_, rfl⟩
    rw [hL] at HEN HF hl4
    have HL := Lib.hid hl4
    clear e1 e2 e3 hx hlen hle ht hbs her hW hL hl4
    go_enter Tryd.func19, Tryd.ntmps19
    go_wp2_with (first
      | (go_at_call 34; ((with_reducible refine HEN.out.mono ?_); rintro e w1 ⟨A1, c1, rfl, hs, hb⟩); have H1 := Lib.hid (show SeesP w1 (· < w1.heap.size) A1 (Us L) ∧ Below w.heap.size w w1 ∧ (A1 = none → c1 = 0) from ⟨hs, hb, fun h => by
          subst h
          have := SeesP.none_nil (SeesP.iff_sees.2 hs)
          have := congrArg List.length this
          rw [Us_length, HL.out] at this
          cases this⟩); clear hs hb)
      | ((with_reducible refine at_any_ (d := 15) ?_); go_must (refine wpList_bldA rfl 50 _ rfl (pe01 rfl rfl) (bldN01 _ _ _ _) ?_))
      | ((with_reducible refine at_any_ (d := 16) ?_); go_must (refine wpList_bslV rfl 31 50 1 _ rfl Tryd.underlying31 (pe1 rfl) (bs1 _ _ _) ?_); intro g3 w3 hf hr; have H3 := Lib.hid (show Below w.heap.size w w3 ∧ SeesF w3 (· < w3.heap.size) (some ⟨g3, 0, none⟩) W from ⟨below_on H1.out.2.1 hf.bw, by rw [HF.out]; exact one_primF HL.out hr ⟨SeesP.on2 H1.out.1 hf.bw, H1.out.2.2⟩⟩); clear hf hr)
      | (go_at_call 15; ((with_reducible refine (HWR.out _ _ _ H3.out.1 H3.out.2).mono ?_); rintro e w7 ⟨A7, c7, rfl, h1, h2⟩); have H7 := Lib.hid (show _ ∧ _ from ⟨h1, h2⟩); clear h1 h2))
    have HD := Lib.hid (show GivesV w (acB x) (acE x) (.returned (.tuple #[.slice A7 bs.length c7, .int .i64 er])) w7 from by
      rw [HBE.out.1, HBE.out.2]
      exact ⟨A7, c7, rfl, H7.out.1, below_on H3.out.1 H7.out.2.1, H7.out.2.2⟩)
    go_ret2
    exact HD.out
end Go.Proofs.YtkgfdbbdmchmeaaDoor
