/-
  What is proved here: what the program's object returns behind the header's check; Values and Kids lie within their capacities.
-/
import Derived.Test.YtkgfdbbdmchmeaaDoorRows
import Derived.Test.YtkgfdbbdmchmeaaDoorZ0
import Derived.Test.YtkgfdbbdmchmeaaDoorZ14
import Derived.Test.YtkgfdbbdmchmeaaDoorZ25
namespace Go.Proofs.YtkgfdbbdmchmeaaDoor
open Go.RowKit
set_option maxRecDepth 8000
set_option linter.unusedVariables false
set_option maxHeartbeats 1000000 in
theorem obj_shortC (st : Bool) (d : Int) (c ll : Nat) (b0 o0 : Nat) (cap : Nat) (w : World) (R : Nat) (p : Nat → Prop) (t f n s : Nat) (hP : Pre w R st (some ⟨b0, o0, none⟩) ll cap d t f n s c 0) (hf : f ≠ 128) (hs : s ≤ ll) (hcap : ll ≤ cap) (hll : ll ≤ 4096) (hn : ll - s < n) (hn2 : n < 4294967296) :
    Calls Tryd.prog 77 #[.pointer (some ⟨R, 0, none⟩), .slice (some ⟨b0, o0, none⟩) ll cap, .int .i64 d] w (ObjIsC w R p st (.error 6)) := by
  have hR := lt_of_block hP.2.2
  have HP := Lib.hid hP
  have d1 : ((f : Int) == 128) = false := by simp; omega
  clear hP hf
  go_enter Tryd.func77, Tryd.ntmps77
  go_wp2_with fail
  refine (HP.out.1 _ ((Below.refl _ _).alloc (Nat.le_refl _) _)).mono ?_
  rintro e w1 ⟨rfl, hb1⟩
  go_wp2_with fail
  refine (HP.out.2.1 _ (block_alloc ((hb1.block R (by simp; omega)).trans (block_alloc HP.out.2.2 _)) _)).mono ?_
  rintro e w2 ⟨rfl, hg, c', hrd, hc'⟩
  have H := Lib.hid (ObSt.mk' HP.out.2.2 hb1 hg hrd)
  have b6 := H.out.2.2.1
  have b9 := H.out.2.2.2.1
  have q0 := cell_of_row w2 w.heap.size 0 _ _ _ b6
  have q1 := cell_of_row w2 w.heap.size 1 _ _ _ b6
  have q2 := cell_of_row w2 w.heap.size 2 _ _ _ b6
  have r0 := frozen_of_row w2 w.heap.size 0 _ _ b6
  have r1 := frozen_of_row w2 w.heap.size 1 _ _ b6
  have r2 := frozen_of_row w2 w.heap.size 2 _ _ b6
  have c0 := cell_of_row w2 w1.heap.size 0 _ _ _ b9
  have c1 := cell_of_row w2 w1.heap.size 1 _ _ _ b9
  have c2 := cell_of_row w2 w1.heap.size 2 _ _ _ b9
  have c3 := cell_of_row w2 w1.heap.size 3 _ _ _ b9
  simp only [List.getElem?_toArray, List.getElem?_cons_succ, List.getElem?_cons_zero] at q0 q1 q2 c0 c1 c2 c3
  clear b6 b9 hb1 hg hrd hc'
  go_wp2_with fail
  all_goals
    refine bodyPost_ret (ret_cell_tmp2 rfl _ _ _ _ _ _ _ rfl (block_set (block_set (block_set H.out.2.2.1 _) _) _) Tryd.underlying50 rfl info_nodeS) rfl ?_
    exact obj_errC (by decide) (Fin.set w w2 _ _ _) H.out.1 H.out.2.1 hR
def MarkCC (R : Nat) (p : Nat → Prop) (st : Bool) (bs : List UInt8) (ll : Nat) (d : Int) (w2 : World) (r : Except Int (F × List UInt8 × Nat)) : Prop := ∀ (A : Option Addr) (cap : Nat), SeesP w2 p A (Us bs) → ll ≤ cap →
  Calls Tryd.prog 80 #[.pointer (some ⟨R, 0, none⟩), .slice A ll cap, .int .i64 d] w2 (MarkIsC w2 R p st r)
set_option maxHeartbeats 1000000 in
theorem obj_markC (st : Bool) (d : Int) (c ll : Nat) (b0 o0 : Nat) (cap : Nat) (w : World) (R : Nat) (p : Nat → Prop) (t f n s : Nat) (hP : Pre w R st (some ⟨b0, o0, none⟩) ll cap d t f n s c 0) (l : List UInt8) (hl : ll = l.length) (hd : 0 ≤ d ∧ d ≤ 9) (hf : f = 128) (hs : s ≤ ll) (hcap : ll ≤ cap) (hll : ll ≤ 4096) (hp : ∀ x, p x → oldB w R x) (hsee : SeesP w p (some ⟨b0, o0, none⟩) (Us l))
    (r : Except Int (F × List UInt8 × Nat)) (hM : ∀ w2, w.grownBy w2 (some R) → Rd w2 R st (c + 1) → MarkCC R p st (l.drop s) (ll - s) (d + 1) w2 r) :
    Calls Tryd.prog 77 #[.pointer (some ⟨R, 0, none⟩), .slice (some ⟨b0, o0, none⟩) ll cap, .int .i64 d] w (ObjIsC w R p st (obM t r)) := by
  have hR := lt_of_block hP.2.2
  have HP := Lib.hid hP
  have d1 : ((f : Int) == 128) = true := by simp; omega
  obtain ⟨hd1, hd2⟩ := hd
  have HM := Lib.hid hM
  have HS := Lib.hid hsee
  have HL := Lib.hid hl
  clear hP hf hM hsee hl
  go_enter Tryd.func77, Tryd.ntmps77
  go_wp2_with fail
  refine (HP.out.1 _ ((Below.refl _ _).alloc (Nat.le_refl _) _)).mono ?_
  rintro e w1 ⟨rfl, hb1⟩
  go_wp2_with fail
  refine (HP.out.2.1 _ (block_alloc ((hb1.block R (by simp; omega)).trans (block_alloc HP.out.2.2 _)) _)).mono ?_
  rintro e w2 ⟨rfl, hg, c', hrd, hc'⟩
  have H := Lib.hid (ObSt.mk' HP.out.2.2 hb1 hg hrd)
  have b6 := H.out.2.2.1
  have b9 := H.out.2.2.2.1
  have q0 := cell_of_row w2 w.heap.size 0 _ _ _ b6
  have q1 := cell_of_row w2 w.heap.size 1 _ _ _ b6
  have q2 := cell_of_row w2 w.heap.size 2 _ _ _ b6
  have r0 := frozen_of_row w2 w.heap.size 0 _ _ b6
  have r1 := frozen_of_row w2 w.heap.size 1 _ _ b6
  have r2 := frozen_of_row w2 w.heap.size 2 _ _ b6
  have c0 := cell_of_row w2 w1.heap.size 0 _ _ _ b9
  have c1 := cell_of_row w2 w1.heap.size 1 _ _ _ b9
  have c2 := cell_of_row w2 w1.heap.size 2 _ _ _ b9
  have c3 := cell_of_row w2 w1.heap.size 3 _ _ _ b9
  simp only [List.getElem?_toArray, List.getElem?_cons_succ, List.getElem?_cons_zero] at q0 q1 q2 c0 c1 c2 c3
  have hs2 := HS.out.keep fun q hq => grown_cell H.out.1 (hp _ hq).1 (hp _ hq).2
  have HM2 := Lib.hid (HM.out w2 H.out.1 (by have := hc' rfl; rw [← this]; exact hrd))
  have HS2 := Lib.hid (show SeesP w2 p (some ⟨b0, o0 + s, none⟩) (Us (l.drop s)) from sees_drop hs2 (by have := HL.out; omega))
  clear b6 b9 hb1 hg hrd hc' hs2
  go_wp2_with fail
  · refine (HM2.out _ _ (sees_empty (by have := HL.out; omega)) (by omega)).mono ?_
    rintro e w3 ⟨hg3, hres⟩
    cases r with
    | error x =>
      obtain ⟨rfl, hx, c3', hrd3⟩ := hres
      have H3 := Lib.hid (H.out.grown hg3 hrd3)
      have b6 := H3.out.2.2.1
      have b9 := H3.out.2.2.2.1
      have q0 := cell_of_row w3 w.heap.size 0 _ _ _ b6
      have q1 := cell_of_row w3 w.heap.size 1 _ _ _ b6
      have q2 := cell_of_row w3 w.heap.size 2 _ _ _ b6
      have r0 := frozen_of_row w3 w.heap.size 0 _ _ b6
      have r1 := frozen_of_row w3 w.heap.size 1 _ _ b6
      have r2 := frozen_of_row w3 w.heap.size 2 _ _ b6
      have c0 := cell_of_row w3 w1.heap.size 0 _ _ _ b9
      simp only [List.getElem?_toArray, List.getElem?_cons_succ, List.getElem?_cons_zero] at q0 q1 q2 c0
      have HX := Lib.hid hx
      clear b6 b9 hrd3 hg3 hx
      go_wp2_with fail
      refine bodyPost_ret (ret_cell_tmp2 rfl _ _ _ _ _ _ _ rfl (block_set (block_set (block_set H3.out.2.2.1 _) _) _) Tryd.underlying50 rfl info_nodeS) rfl ?_
      exact obj_errC HX.out (Fin.set w w3 _ _ _) H3.out.1 H3.out.2.1 hR
    | ok q =>
      obtain ⟨kf, rest, c3'⟩ := q
      obtain ⟨A2, n2, Ar, cr, rfl, hrd3, hkf, hrest, hcr⟩ := hres
      have H3 := Lib.hid (H.out.grown hg3 hrd3)
      have b6 := H3.out.2.2.1
      have b9 := H3.out.2.2.2.1
      have q0 := cell_of_row w3 w.heap.size 0 _ _ _ b6
      have q1 := cell_of_row w3 w.heap.size 1 _ _ _ b6
      have q2 := cell_of_row w3 w.heap.size 2 _ _ _ b6
      have r0 := frozen_of_row w3 w.heap.size 0 _ _ b6
      have r1 := frozen_of_row w3 w.heap.size 1 _ _ b6
      have r2 := frozen_of_row w3 w.heap.size 2 _ _ b6
      have c0 := cell_of_row w3 w1.heap.size 0 _ _ _ b9
      simp only [List.getElem?_toArray, List.getElem?_cons_succ, List.getElem?_cons_zero] at q0 q1 q2 c0
      have HX := Lib.hid (show SeesC w3 (newB w2 w3) A2 n2 kf ∧ SeesP w3 p Ar (Us rest) from ⟨hkf, hrest⟩)
      have h62 := lt_of_block H.out.2.2.1
      clear b6 b9 hrd3 hg3 hkf hrest
      go_wp2_with fail
      refine bodyPost_ret (ret_cell_tmp2 rfl _ _ _ _ _ _ _ rfl (block_set (block_set (block_set H3.out.2.2.1 _) _) _) Tryd.underlying50 rfl info_nodeS) rfl ?_
      exact obj_okC (Av := none) (v := []) (Fin.set w w3 _ _ _) H3.out.1 H3.out.2.1 hR h62 hp ⟨fun _ => rfl, Nat.zero_le _⟩ (.inl rfl) HX.out.1 HX.out.2 hcr
  · refine (HM2.out _ _ HS2.out (by omega)).mono ?_
    rintro e w3 ⟨hg3, hres⟩
    cases r with
    | error x =>
      obtain ⟨rfl, hx, c3', hrd3⟩ := hres
      have H3 := Lib.hid (H.out.grown hg3 hrd3)
      have b6 := H3.out.2.2.1
      have b9 := H3.out.2.2.2.1
      have q0 := cell_of_row w3 w.heap.size 0 _ _ _ b6
      have q1 := cell_of_row w3 w.heap.size 1 _ _ _ b6
      have q2 := cell_of_row w3 w.heap.size 2 _ _ _ b6
      have r0 := frozen_of_row w3 w.heap.size 0 _ _ b6
      have r1 := frozen_of_row w3 w.heap.size 1 _ _ b6
      have r2 := frozen_of_row w3 w.heap.size 2 _ _ b6
      have c0 := cell_of_row w3 w1.heap.size 0 _ _ _ b9
      simp only [List.getElem?_toArray, List.getElem?_cons_succ, List.getElem?_cons_zero] at q0 q1 q2 c0
      have HX := Lib.hid hx
      clear b6 b9 hrd3 hg3 hx
      go_wp2_with fail
      refine bodyPost_ret (ret_cell_tmp2 rfl _ _ _ _ _ _ _ rfl (block_set (block_set (block_set H3.out.2.2.1 _) _) _) Tryd.underlying50 rfl info_nodeS) rfl ?_
      exact obj_errC HX.out (Fin.set w w3 _ _ _) H3.out.1 H3.out.2.1 hR
    | ok q =>
      obtain ⟨kf, rest, c3'⟩ := q
      obtain ⟨A2, n2, Ar, cr, rfl, hrd3, hkf, hrest, hcr⟩ := hres
      have H3 := Lib.hid (H.out.grown hg3 hrd3)
      have b6 := H3.out.2.2.1
      have b9 := H3.out.2.2.2.1
      have q0 := cell_of_row w3 w.heap.size 0 _ _ _ b6
      have q1 := cell_of_row w3 w.heap.size 1 _ _ _ b6
      have q2 := cell_of_row w3 w.heap.size 2 _ _ _ b6
      have r0 := frozen_of_row w3 w.heap.size 0 _ _ b6
      have r1 := frozen_of_row w3 w.heap.size 1 _ _ b6
      have r2 := frozen_of_row w3 w.heap.size 2 _ _ b6
      have c0 := cell_of_row w3 w1.heap.size 0 _ _ _ b9
      simp only [List.getElem?_toArray, List.getElem?_cons_succ, List.getElem?_cons_zero] at q0 q1 q2 c0
      have HX := Lib.hid (show SeesC w3 (newB w2 w3) A2 n2 kf ∧ SeesP w3 p Ar (Us rest) from ⟨hkf, hrest⟩)
      have h62 := lt_of_block H.out.2.2.1
      clear b6 b9 hrd3 hg3 hkf hrest
      go_wp2_with fail
      refine bodyPost_ret (ret_cell_tmp2 rfl _ _ _ _ _ _ _ rfl (block_set (block_set (block_set H3.out.2.2.1 _) _) _) Tryd.underlying50 rfl info_nodeS) rfl ?_
      exact obj_okC (Av := none) (v := []) (Fin.set w w3 _ _ _) H3.out.1 H3.out.2.1 hR h62 hp ⟨fun _ => rfl, Nat.zero_le _⟩ (.inl rfl) HX.out.1 HX.out.2 hcr
end Go.Proofs.YtkgfdbbdmchmeaaDoor
namespace Go.Proofs.YtkgfdbbdmchmeaaDoor
open Go.RowKit
set_option maxRecDepth 8000
set_option linter.unusedVariables false
def ListCC (R : Nat) (p : Nat → Prop) (st : Bool) (bs : List UInt8) (n : Nat) (d : Int) (w2 : World) (r : Except Int (F × Nat)) : Prop := ∀ (A : Option Addr) (cap : Nat), SeesP w2 p A (Us bs) → n ≤ cap →
  Calls Tryd.prog 76 #[.pointer (some ⟨R, 0, none⟩), .slice A n cap, .int .i64 d] w2 (ListIsC w2 R st r)
set_option maxHeartbeats 2000000 in
theorem obj_primC (st : Bool) (d : Int) (c ll : Nat) (b0 o0 : Nat) (cap : Nat) (w : World) (R : Nat) (p : Nat → Prop) (t f n s : Nat) (hP : Pre w R st (some ⟨b0, o0, none⟩) ll cap d t f n s c 0) (l : List UInt8) (hl : ll = l.length) (hf : f ≠ 128) (hs : s ≤ ll) (hcap : ll ≤ cap) (hll : ll ≤ 4096) (hn : n ≤ ll - s) (ht : t ≤ 65535) (hk : consB t = false) (hp : ∀ x, p x → oldB w R x) (hsee : SeesP w p (some ⟨b0, o0, none⟩) (Us l)) :
    Calls Tryd.prog 77 #[.pointer (some ⟨R, 0, none⟩), .slice (some ⟨b0, o0, none⟩) ll cap, .int .i64 d] w (ObjIsC w R p st (.ok ((t : Int), (l.drop s).take n, .nil, (l.drop s).drop n, c + 1))) := by
  have hR := lt_of_block hP.2.2
  have HP := Lib.hid hP
  have d1 : ((f : Int) == 128) = false := by simp; omega
  have HS := Lib.hid hsee
  have HL := Lib.hid hl
  have HK := Lib.hid (show ∀ u, Calls Tryd.prog 69 #[.int .i64 (t : Int)] u fun e w' => e = .returned (.bool false) ∧ w' = u from fun u => by have := tlv_cons (t : Int) (by omega) (by omega) u; rwa [hk] at this)
  obtain ⟨rr, hrr⟩ : ∃ rr : Except Int ObR, rr = .ok ((t : Int), (l.drop s).take n, .nil, (l.drop s).drop n, c + 1) := ⟨_, rfl⟩
  rw [← hrr]
  have HRR := Lib.hid hrr
  clear hP hf hsee hl hk hrr
  go_enter Tryd.func77, Tryd.ntmps77
  go_wp2_with fail
  refine (HP.out.1 _ ((Below.refl _ _).alloc (Nat.le_refl _) _)).mono ?_
  rintro e w1 ⟨rfl, hb1⟩
  go_wp2_with fail
  refine (HP.out.2.1 _ (block_alloc ((hb1.block R (by simp; omega)).trans (block_alloc HP.out.2.2 _)) _)).mono ?_
  rintro e w2 ⟨rfl, hg, c', hrd, hc'⟩
  have H := Lib.hid (ObSt.mk' HP.out.2.2 hb1 hg hrd)
  have b6 := H.out.2.2.1
  have b9 := H.out.2.2.2.1
  have q0 := cell_of_row w2 w.heap.size 0 _ _ _ b6
  have q1 := cell_of_row w2 w.heap.size 1 _ _ _ b6
  have q2 := cell_of_row w2 w.heap.size 2 _ _ _ b6
  have r0 := frozen_of_row w2 w.heap.size 0 _ _ b6
  have r1 := frozen_of_row w2 w.heap.size 1 _ _ b6
  have r2 := frozen_of_row w2 w.heap.size 2 _ _ b6
  have c0 := cell_of_row w2 w1.heap.size 0 _ _ _ b9
  have c1 := cell_of_row w2 w1.heap.size 1 _ _ _ b9
  have c2 := cell_of_row w2 w1.heap.size 2 _ _ _ b9
  have c3 := cell_of_row w2 w1.heap.size 3 _ _ _ b9
  simp only [List.getElem?_toArray, List.getElem?_cons_succ, List.getElem?_cons_zero] at q0 q1 q2 c0 c1 c2 c3
  have hs2 := HS.out.keep fun q hq => grown_cell H.out.1 (hp _ hq).1 (hp _ hq).2
  have hs3 := sees_drop hs2 (show s ≤ l.length by have := HL.out; omega)
  have HS2 := Lib.hid (show SeesP w2 p (some ⟨b0, o0 + s, none⟩) (Us ((l.drop s).take n)) ∧ SeesP w2 p (some ⟨b0, o0 + s + n, none⟩) (Us ((l.drop s).drop n)) from ⟨sees_take hs3, sees_drop hs3 (by rw [List.length_drop]; have := HL.out; omega)⟩)
  have HCL := Lib.hid (cloneC (p := p) (bs := (l.drop s).take n) (n := n) (w2 := w2) (by rw [List.length_take, List.length_drop]; have := HL.out; omega) (by omega) (fun x hx => Nat.lt_of_lt_of_le (hp x hx).1 H.out.1.size))
  have HC := Lib.hid (show Rd w2 R st (c + 1) by have := hc' rfl; rw [← this]; exact hrd)
  have hN6 : w.heap.size < w2.heap.size := lt_of_block b6
  have hN9 : w1.heap.size < w2.heap.size := lt_of_block b9
  have HSE := Lib.hid (show n = 0 → SeesP w2 p (some ⟨b0, o0, none⟩) (Us ((l.drop s).take n)) from fun h => .inl (by rw [h]; rfl))
  have HR := Lib.hid (show ∀ w3, Below w2.heap.size w2 w3 → SeesP w3 p (some ⟨b0, o0 + s + n, none⟩) (Us ((l.drop s).drop n)) from fun w3 hw => HS2.out.2.keep fun q hq => hw.cell (Nat.lt_of_lt_of_le (hp _ hq).1 H.out.1.size))
  have HR0 := Lib.hid (show ll - s ≤ n → ∀ (w3 : World) (A : Option Addr), SeesP w3 p A (Us ((l.drop s).drop n)) from fun hn w3 A => sees_empty (by rw [List.length_drop]; have := HL.out; omega))
  have HD := Lib.hid (show ∀ (w3 W : World) (g : Nat) (Ar : Option Addr) (cr : Nat), Fin w w3 W → Below w2.heap.size w2 w3 → ObSt w R st w1.heap.size t f n s (c + 1) w3 → SeesP w3 (newB w2 w3) (some ⟨g, 0, none⟩) (Us ((l.drop s).take n)) → SeesP w3 p Ar (Us ((l.drop s).drop n)) → ll - s - n ≤ cr →
      ObjIsC w R p st rr (.returned (.tuple #[.agg #[.int .i64 t, .slice (some ⟨g, 0, none⟩) n n, .slice none 0 0], .slice Ar (ll - s - n) cr, .int .i64 0])) W from fun w3 W g Ar cr hF hb h3 hv hr hcr => by
    have e1 : ((l.drop s).take n).length = n := by rw [List.length_take, List.length_drop]; have := HL.out; omega
    have e2 : ((l.drop s).drop n).length = ll - s - n := by rw [List.length_drop, List.length_drop]; have := HL.out; omega
    have h := obj_okC (w2 := w2) (t := (t : Int)) (Av := some ⟨g, 0, none⟩) (v := (l.drop s).take n) (cv := n) (Ak := none) (k := .nil) (ck := 0) (Ar := Ar) (rest := (l.drop s).drop n) (cr := cr) hF h3.1 h3.2.1 hR (lt_of_block H.out.2.2.1) hp ⟨fun e => (by cases e), (by rw [e1]; exact Nat.le_refl _)⟩ hv SeesC.nil_ hr (by rw [e2]; exact hcr)
    rw [e1, e2] at h
    rw [HRR.out]
    exact h)
  have hN6 : w.heap.size < w2.heap.size := lt_of_block b6
  have hN9 : w1.heap.size < w2.heap.size := lt_of_block b9
  have HSE := Lib.hid (show n = 0 → SeesP w2 p (some ⟨b0, o0, none⟩) (Us ((l.drop s).take n)) from fun h => .inl (by rw [h]; rfl))
  clear b6 b9 hb1 hg hrd hc' hs2 hs3
  go_wp2_with fail
  · have hn0 : n = 0 := by omega
    have HSE0 := Lib.hid (HSE.out hn0)
    clear HSE
    subst hn0
    go_quiet (fail)
    go_wp2_with (go_at_call 69; refine (HK.out _).mono ?_; rintro e w' ⟨rfl, rfl⟩)
    all_goals
      go_region_with (go_at_call 81; refine (HCL.out _ _ _ (by first | exact below_dn (Below.refl _ _) _ | exact (below_dn (Below.refl _ _) _).drew | exact Below.refl _ _ | exact (Below.refl _ _).drew) HSE0.out).mono ?_; rintro e w3 ⟨g, rfl, hsee, hb3⟩; have hb4 : Below w2.heap.size w2 w3 := Below.trans (by first | exact below_dn (Below.refl _ _) _ | exact (below_dn (Below.refl _ _) _).drew | exact Below.refl _ _ | exact (Below.refl _ _).drew) (hb3.mono (Nat.le_refl _)); have HV : Hid (SeesP w3 (newB w2 w3) (some ⟨g, 0, none⟩) (Us ((l.drop s).take 0))) := Lib.hid hsee; have H3 := Lib.hid (H.out.grown (grown_below hb4) (HC.out.grown hb4)); have c0 := (hb4.cell (p := ⟨w1.heap.size, 0, none⟩) hN9).trans c0; have q0 := (hb4.cell (p := ⟨w.heap.size, 0, none⟩) hN6).trans q0; have q1 := (hb4.cell (p := ⟨w.heap.size, 1, none⟩) hN6).trans q1; have q2 := (hb4.cell (p := ⟨w.heap.size, 2, none⟩) hN6).trans q2; have r0 := (hb4.frozen (p := ⟨w.heap.size, 0, none⟩) hN6).trans r0; have r1 := (hb4.frozen (p := ⟨w.heap.size, 1, none⟩) hN6).trans r1; have r2 := (hb4.frozen (p := ⟨w.heap.size, 2, none⟩) hN6).trans r2; clear hb3 hsee)
      all_goals
        go_wp2_with fail
        refine bodyPost_ret (ret_cell_tmp2 rfl _ _ _ _ _ _ _ rfl (block_set (block_set (block_set H3.out.2.2.1 _) _) _) Tryd.underlying50 rfl info_nodeS) rfl ?_
        exact HD.out w3 _ g _ _ (Fin.set w w3 _ _ _) hb4 H3.out HV.out (by first | exact HR.out _ hb4 | exact HR0.out (by omega) _ _) (by omega)
  · go_quiet (fail)
    go_wp2_with (go_at_call 69; refine (HK.out _).mono ?_; rintro e w' ⟨rfl, rfl⟩)
    all_goals
      go_region_with (go_at_call 81; refine (HCL.out _ _ _ (by first | exact below_dn (Below.refl _ _) _ | exact (below_dn (Below.refl _ _) _).drew | exact Below.refl _ _ | exact (Below.refl _ _).drew) HS2.out.1).mono ?_; rintro e w3 ⟨g, rfl, hsee, hb3⟩; have hb4 : Below w2.heap.size w2 w3 := Below.trans (by first | exact below_dn (Below.refl _ _) _ | exact (below_dn (Below.refl _ _) _).drew | exact Below.refl _ _ | exact (Below.refl _ _).drew) (hb3.mono (Nat.le_refl _)); have HV : Hid (SeesP w3 (newB w2 w3) (some ⟨g, 0, none⟩) (Us ((l.drop s).take n))) := Lib.hid hsee; have H3 := Lib.hid (H.out.grown (grown_below hb4) (HC.out.grown hb4)); have c0 := (hb4.cell (p := ⟨w1.heap.size, 0, none⟩) hN9).trans c0; have q0 := (hb4.cell (p := ⟨w.heap.size, 0, none⟩) hN6).trans q0; have q1 := (hb4.cell (p := ⟨w.heap.size, 1, none⟩) hN6).trans q1; have q2 := (hb4.cell (p := ⟨w.heap.size, 2, none⟩) hN6).trans q2; have r0 := (hb4.frozen (p := ⟨w.heap.size, 0, none⟩) hN6).trans r0; have r1 := (hb4.frozen (p := ⟨w.heap.size, 1, none⟩) hN6).trans r1; have r2 := (hb4.frozen (p := ⟨w.heap.size, 2, none⟩) hN6).trans r2; clear hb3 hsee)
      all_goals
        go_wp2_with fail
        refine bodyPost_ret (ret_cell_tmp2 rfl _ _ _ _ _ _ _ rfl (block_set (block_set (block_set H3.out.2.2.1 _) _) _) Tryd.underlying50 rfl info_nodeS) rfl ?_
        exact HD.out w3 _ g _ _ (Fin.set w w3 _ _ _) hb4 H3.out HV.out (by first | exact HR.out _ hb4 | exact HR0.out (by omega) _ _) (by omega)
end Go.Proofs.YtkgfdbbdmchmeaaDoor
