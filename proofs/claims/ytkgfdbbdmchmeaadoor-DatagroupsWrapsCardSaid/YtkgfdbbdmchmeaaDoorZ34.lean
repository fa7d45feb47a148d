/-
  What is proved here: plain facts on the group: products and powers of elements, inverses, the orders of the powers of 4, and that of a residue and its negative one just one is an element; nothing of the program is used.
-/
import Derived.Test.YtkgfdbbdmchmeaaDoorZ22
import Derived.Test.YtkgfdbbdmchmeaaDoorZ17
import Derived.Test.YtkgfdbbdmchmeaaDoorZ15
import Derived.Test.YtkgfdbbdmchmeaaDoorZ1
import Derived.Test.YtkgfdbbdmchmeaaDoorZ18
import Derived.Test.YtkgfdbbdmchmeaaDoorZ33
namespace Go.Proofs.YtkgfdbbdmchmeaaDoor
def Sub (y : Int) : Prop := ∃ n : Nat, y = (n : Int) ∧ n < gP ∧ n ^ gQ % gP = 1
theorem pos_of {n : Nat} (h : n ^ gQ % gP = 1) : 0 < n := by
  rcases Nat.eq_zero_or_pos n with rfl | h0
  · rw [Nat.zero_pow (show 0 < gQ by decide), Nat.zero_mod] at h; cases h
  · exact h0
theorem Sub.res {y : Int} (h : Sub y) : resB y = true := by
  obtain ⟨n, rfl, h1, h2⟩ := h
  have h0 := pos_of h2
  unfold gP at h1
  exact resB_mk (by omega) (by omega)
theorem pwZ_q (n : Nat) : pwZ (n : Int) 1073741789 = ((n ^ gQ % gP : Nat) : Int) := rfl
theorem Sub.el {y : Int} (h : Sub y) (hne : y ≠ 1) : elB y = true := by
  unfold elB
  rw [h.res]
  obtain ⟨n, rfl, h1, h2⟩ := h
  rw [pwZ_q, h2]
  simpa using hne
end Go.Proofs.YtkgfdbbdmchmeaaDoor
namespace Go.Proofs.YtkgfdbbdmchmeaaDoor
open Go.RowKit
set_option linter.unusedVariables false
def GvB (w : World) (n : Nat) (l : List UInt8) (er : Int) (e : Ending) (w' : World) : Prop := ∃ A c, e = .returned (.tuple #[.slice A n c, .int .i64 er]) ∧ Sees w' w'.heap.size A (Us l) ∧ Below w.heap.size w w'
theorem gvB_nil (w : World) (r : Int) : GvB w 0 [] r (.returned (.tuple #[.slice none 0 0, .int .i64 r])) w := ⟨none, 0, rfl, .inl rfl, Below.refl _ _⟩
def enN (x : Int) : Nat := if elB x = true then 4 else 0
def enL (x : Int) : List UInt8 := if elB x = true then octL x.toNat 4 else []
def enE (x : Int) : Int := if elB x = true then 0 else 10
theorem en_yes {x : Int} (h : elB x = true) : enN x = 4 ∧ enL x = octL x.toNat 4 ∧ enE x = 0 := by simp [enN, enL, enE, h]
theorem en_no {x : Int} (h : elB x = false) : enN x = 0 ∧ enL x = [] ∧ enE x = 10 := by simp [enN, enL, enE, h]
theorem en_len (x : Int) : (enL x).length = enN x := by unfold enN enL; split <;> simp [octL_length]
theorem enN_le (x : Int) : enN x ≤ 4 := by unfold enN; split <;> omega
theorem octets4 (x : Int) (w : World) (h0 : 0 ≤ x) (h : x < 2147483579) : Calls Tryd.prog 48 #[.int .i64 x, .int .i64 4] w (GvB w 4 (octL x.toNat 4) 0) := by
  have h := oct_oct_yes x.toNat 4 (by decide) (by omega) w
  rw [Int.toNat_of_nonneg h0] at h
  refine Calls.mono h ?_
  rintro e w' ⟨A, c, he, hs, hb⟩
  rw [octL_length] at he
  exact ⟨A, c, he, hs, hb⟩
theorem four_usZ (x : Int) (h0 : 0 ≤ x) (h : x < 4294967296) : Us (octL x.toNat 4) = [.int .u8 (x / 16777216), .int .u8 ((x / 65536) % 256), .int .u8 ((x / 256) % 256), .int .u8 (x % 256)] := by
  rw [octL4]
  simp only [Us, U, List.map_cons, List.map_nil, UInt8.toNat_ofNat']
  have e1 : ((x.toNat / 16777216 % 2 ^ 8 : Nat) : Int) = x / 16777216 := by omega
  have e2 : ((x.toNat / 65536 % 2 ^ 8 : Nat) : Int) = x / 65536 % 256 := by omega
  have e3 : ((x.toNat / 256 % 2 ^ 8 : Nat) : Int) = x / 256 % 256 := by omega
  have e4 : ((x.toNat % 2 ^ 8 : Nat) : Int) = x % 256 := by omega
  rw [e1, e2, e3, e4]
theorem sees_rowZ {wr : World} {t : TypeId} {cs : List Value} {l : List UInt8} (h : Us l = cs) : Sees (wr.alloc (.cells cs.toArray t)) (wr.alloc (.cells cs.toArray t)).heap.size (some ⟨wr.heap.size, 0, none⟩) (Us l) := by
  subst h
  refine .inr ⟨wr.heap.size, 0, rfl, by simp, fun j hj => ?_⟩
  rw [Nat.zero_add, cell_of_row _ _ j _ t (0, 0) (heap_alloc_new wr _)]
  simp
theorem below_alZ (w : World) (o : Obj) : Below w.heap.size w (w.alloc o) := (Below.refl _ w).alloc (Nat.le_refl _) o
theorem ref_fourZ (x : Int) (w : World) (h0 : 0 ≤ x) (h : x < 4294967296) : Calls Tryd.prog 50 #[.int .i64 x] w fun e w' => ∃ A c, e = .returned (.slice A 4 c) ∧ Sees w' w'.heap.size A (Us (octL x.toNat 4)) ∧ Below w.heap.size w w' := by
  have H := Lib.hid (four_usZ x h0 h)
  go_enter Tryd.func50, Tryd.ntmps50
  go_wp2
  go_ret
  exact ⟨_, 4, rfl, sees_rowZ H.out, below_alZ _ _⟩
theorem grp_encode (x : Int) (w : World) : Calls Tryd.prog 34 #[.int .i64 x] w (GvB w (enN x) (enL x) (enE x)) := by
  by_cases hx : elB x = true
  · obtain ⟨h3, h4⟩ := elB_bd hx
    obtain ⟨v1, v2, v3⟩ := en_yes hx
    rw [v1, v2, v3]; clear v1 v2 v3
    go_enter Tryd.func34, Tryd.ntmps34
    go_wp2_with fail
    with_reducible refine (grp_element x _).mono ?_
    rintro e w' ⟨rfl, rfl⟩
    go_wp2_with fail
    with_reducible refine (octets4 x _ (by omega) h4).mono ?_
    rintro e w1 ⟨A, c, rfl, hs, hb⟩
    have HS := Lib.hid (And.intro hs hb)
    clear hs hb
    go_wp2
    go_ret2
    exact ⟨A, c, rfl, HS.out.1, HS.out.2⟩
  · have hr : elB x = false := by simpa using hx
    obtain ⟨v1, v2, v3⟩ := en_no hr
    rw [v1, v2, v3]; clear v1 v2 v3 hx
    go_enter Tryd.func34, Tryd.ntmps34
    go_wp2_with (go_at_call 47; ((with_reducible refine (grp_element x _).mono ?_); rintro e w' ⟨rfl, rfl⟩))
    go_ret2
    exact gvB_nil _ _
theorem ref_encode (x : Int) (w : World) : Calls Tryd.prog 35 #[.int .i64 x] w (GvB w (enN x) (enL x) (enE x)) := by
  by_cases hx : elB x = true
  · obtain ⟨h3, h4⟩ := elB_bd hx
    obtain ⟨v1, v2, v3⟩ := en_yes hx
    rw [v1, v2, v3]; clear v1 v2 v3
    go_enter Tryd.func35, Tryd.ntmps35
    go_wp2_with fail
    with_reducible refine (ref_element x _).mono ?_
    rintro e w' ⟨rfl, rfl⟩
    go_wp2_with fail
    with_reducible refine (ref_fourZ x _ (by omega) (by omega)).mono ?_
    rintro e w1 ⟨A, c, rfl, hs, hb⟩
    have HS := Lib.hid (And.intro hs hb)
    clear hs hb
    go_wp2
    go_ret2
    exact ⟨A, c, rfl, HS.out.1, HS.out.2⟩
  · have hr : elB x = false := by simpa using hx
    obtain ⟨v1, v2, v3⟩ := en_no hr
    rw [v1, v2, v3]; clear v1 v2 v3 hx
    go_enter Tryd.func35, Tryd.ntmps35
    go_wp2_with (go_at_call 49; ((with_reducible refine (ref_element x _).mono ?_); rintro e w' ⟨rfl, rfl⟩))
    go_ret2
    exact gvB_nil _ _
end Go.Proofs.YtkgfdbbdmchmeaaDoor
namespace Go.Proofs.YtkgfdbbdmchmeaaDoor
open Go.RowKit
set_option maxRecDepth 8000
set_option linter.unusedVariables false
set_option linter.unusedSimpArgs false
def acF (x : Int) : F := .cons 4 (enL x) .nil .nil
def acE (x : Int) : Int := if enE x = 0 then wrE 15 (acF x) else enE x
def acB (x : Int) : List UInt8 := if enE x = 0 then wrB 15 (acF x) else []
def GivesW (w : World) (bs : List UInt8) (er : Int) (e : Ending) (w' : World) : Prop := ∃ A c, e = .returned (.tuple #[.slice A bs.length c, .int .i64 er]) ∧ SeesP w' (· < w'.heap.size) A (Us bs) ∧ Below w.heap.size w w'
theorem GivesZ.wide {w w' : World} {bs : List UInt8} {er : Int} {e : Ending} (h : GivesZ w bs er e w') : GivesW w bs er e w' := by
  obtain ⟨A, c, h1, h2, h3, _⟩ := h
  exact ⟨A, c, h1, h2.imp fun b hb => hb.2, h3⟩
theorem one_prim {w : World} {g : Nat} {t : Int} {v : List UInt8} {A : Option Addr} {c n : Nat} (e : v.length = n) (hr : RowV w g [.int .i64 t, .slice A n c, .slice none 0 0]) (h : SeesP w (· < w.heap.size) A (Us v) ∧ (A = none → c = 0) ∧ n ≤ c) : SeesQ w (· < w.heap.size) (some ⟨g, 0, none⟩) (.cons t v .nil .nil) := by
  subst e
  exact ⟨_, .inr ⟨g, 0, rfl, hr.lt, fun j hj => by rw [Nat.zero_add]; exact hr.cell j⟩, A, c, none, 0, [], [], rfl, ⟨h.2.1, fun _ => h.2.2⟩, h.1, .inl rfl, rfl, rfl⟩
set_option maxHeartbeats 1600000 in
theorem r_active (x : Int) (w : World) (ht : TabG w) : Calls Tryd.prog 20 #[.int .i64 x] w (GivesZ w (acB x) (acE x)) := by
  have HT := Lib.hid ht
  have HEN := Lib.hid (ref_encode x w)
  have hlen := en_len x
  have hle := enN_le x
  rcases hx : elB x with _ | _
  · obtain ⟨e1, e2, e3⟩ := en_no hx
    rw [e1, e2, e3] at HEN
    have HG := Lib.hid (show ∀ u, Below w.heap.size w u → GivesZ w (acB x) (acE x) (.returned (.tuple #[.slice none 0 0, .int .i64 10])) u from fun u hb => by
      unfold acB acE
      rw [e3, if_neg (by decide), if_neg (by decide)]
      exact ⟨none, 0, rfl, .inl rfl, hb, Nat.le_refl _, fun _ => rfl⟩)
    clear e1 e2 e3 hx hlen hle ht
    go_enter Tryd.func20, Tryd.ntmps20
    go_wp2_with (first
      | (go_at_call 35; ((with_reducible refine HEN.out.mono ?_); rintro e w1 ⟨A1, c1, rfl, hs, hb⟩); have H1 := Lib.hid (HG.out _ hb); clear hs hb))
    go_ret2
    exact H1.out
  · obtain ⟨e1, e2, e3⟩ := en_yes hx
    rw [e1, e3] at HEN
    have hl4 : (enL x).length = 4 := by rw [hlen, e1]
    have HWR := Lib.hid (show ∀ (X : Option Addr) (cx : Nat) (u : World), Below w.heap.size w u → SeesQ u (· < u.heap.size) X (acF x) → Calls Tryd.prog 16 #[.int .i64 15, .slice X 1 cx] u (GivesZ u (acB x) (acE x)) from fun X cx u hb hx => by
      have q1 : acB x = wrB 15 (acF x) := by unfold acB; rw [if_pos e3]
      have q2 : acE x = wrE 15 (acF x) := by unfold acE; rw [if_pos e3]
      rw [q1, q2]
      exact r_wrap 15 (acF x) 1 rfl X cx u (HT.out.on hb) (by decide) (by decide) (by show (0 + 0 + 1) < _; decide) ⟨by decide, by rw [hl4]; decide, trivial, trivial⟩ ⟨by rw [hl4]; decide, trivial, trivial⟩ hx)
    obtain ⟨bs, hbs⟩ : ∃ z, acB x = z := ⟨_, rfl⟩
    obtain ⟨er, her⟩ : ∃ z, acE x = z := ⟨_, rfl⟩
    rw [hbs, her] at HWR
    have HBE := Lib.hid (show acB x = bs ∧ acE x = er from ⟨hbs, her⟩)
    have HF : Hid (acF x = .cons 4 (enL x) .nil .nil) := Lib.hid rfl
    obtain ⟨W, hW⟩ : ∃ z, acF x = z := ⟨_, rfl⟩
    rw [hW] at HWR HF
    obtain ⟨L, hL⟩ : ∃ z, enL x = z := ⟨_, rfl⟩
    rw [hL] at HEN HF hl4
    have HL := Lib.hid hl4
    clear e1 e2 e3 hx hlen hle ht hbs her hW hL hl4
    go_enter Tryd.func20, Tryd.ntmps20
    go_wp2_with (first
      | (go_at_call 35; ((with_reducible refine HEN.out.mono ?_); rintro e w1 ⟨A1, c1, rfl, hs, hb⟩); have H1 := Lib.hid (show SeesP w1 (· < w1.heap.size) A1 (Us L) ∧ Below w.heap.size w w1 ∧ (A1 = none → c1 = 0) from ⟨hs, hb, fun h => by
          subst h
          have := SeesP.none_nil (SeesP.iff_sees.2 hs)
          have := congrArg List.length this
          rw [Us_length, HL.out] at this
          cases this⟩); clear hs hb)
      | (go_at_call 33; ((with_reducible refine (r_prim 4 L 4 HL.out (by decide) A1 c1 H1.out.2.2 _ H1.out.1).mono ?_); rintro e w2 ⟨A2, c2, rfl, hc, hs, hb⟩); have H2 := Lib.hid (show Below w.heap.size w w2 ∧ SeesP w2 (· < w2.heap.size) A2 (Us L) ∧ (A2 = none → c2 = 0) ∧ 4 ≤ c2 from ⟨below_on H1.out.2.1 hb, hs.imp low_newB, hc⟩); clear hc hs hb)
      | ((with_reducible refine at_any_ (d := 16) ?_); go_must (refine wpList_bslV rfl 31 50 1 _ rfl Tryd.underlying31 (pe1 rfl) (bs1 _ _ _) ?_); intro g3 w3 hf hr; have H3 := Lib.hid (show Below w.heap.size w w3 ∧ SeesQ w3 (· < w3.heap.size) (some ⟨g3, 0, none⟩) W from ⟨below_on H2.out.1 hf.bw, by rw [HF.out]; exact one_prim HL.out hr ⟨SeesP.on2 H2.out.2.1 hf.bw, H2.out.2.2⟩⟩); clear hf hr)
      | (go_at_call 16; ((with_reducible refine (HWR.out _ _ _ H3.out.1 H3.out.2).mono ?_); rintro e w7 ⟨A7, c7, rfl, h1, h2, h3⟩); have H7 := Lib.hid (show _ ∧ _ ∧ _ from ⟨h1, h2, h3⟩); clear h1 h2 h3))
    have HD := Lib.hid (show GivesZ w (acB x) (acE x) (.returned (.tuple #[.slice A7 bs.length c7, .int .i64 er])) w7 from by
      rw [HBE.out.1, HBE.out.2]
      exact ⟨A7, c7, rfl, H7.out.1.imp fun b hb => ⟨Nat.le_trans H3.out.1.size hb.1, hb.2⟩, below_on H3.out.1 H7.out.2.1, H7.out.2.2⟩)
    go_ret2
    exact HD.out
end Go.Proofs.YtkgfdbbdmchmeaaDoor
