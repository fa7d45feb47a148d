/-
  What is proved here: what the program's object returns behind the header's check, where list and listToMark return what they should one level down.
-/
import Derived.Test.YtipmmclahngabaaRows
import Derived.Test.YtipmmclahngabaaKit
import Derived.Test.YtipmmclahngabaaObj
namespace Go.Proofs.Ytipmmclahngabaa
open Go.RowKit
set_option linter.unusedVariables false

set_option maxHeartbeats 1000000 in
theorem obj_short (st : Bool) (d : Int) (c ll : Nat) (b0 o0 : Nat) (cap : Nat) (w : World) (R : Nat) (p : Nat → Prop) (t f n s : Nat) (hP : Pre w R st (some ⟨b0, o0, none⟩) ll cap d t f n s c 0) (hf : f ≠ 128) (hs : s ≤ ll) (hcap : ll ≤ cap) (hll : ll ≤ 4096) (hn : ll - s < n) (hn2 : n < 4294967296) :
    Calls Try.prog 63 #[.pointer (some ⟨R, 0, none⟩), .slice (some ⟨b0, o0, none⟩) ll cap, .int .i64 d] w (ObjIs w R p st (.error 6)) := by
  have hR := lt_of_block hP.2.2
  have HP := Lib.hid hP
  have d1 : ((f : Int) == 128) = false := by simp; omega
  clear hP hf
  go_enter Try.func63, Try.ntmps63
  go_wp2_with fail
  refine (HP.out.1 _ ((Below.refl _ _).alloc (Nat.le_refl _) _)).mono ?_
  rintro e w1 ⟨rfl, hb1⟩
  go_wp2_with fail
  refine (HP.out.2.1 _ (block_alloc ((hb1.block R (by simp; omega)).trans (block_alloc HP.out.2.2 _)) _)).mono ?_
  rintro e w2 ⟨rfl, hg, c', hrd, hc'⟩
  have H := Lib.hid (ObSt.mk' HP.out.2.2 hb1 hg hrd)
  have b6 := H.out.2.2.1
  have b9 := H.out.2.2.2.1
  have q0 := cell_of_row w2 w.heap.size 0 _ _ _ b6
  have q1 := cell_of_row w2 w.heap.size 1 _ _ _ b6
  have q2 := cell_of_row w2 w.heap.size 2 _ _ _ b6
  have r0 := frozen_of_row w2 w.heap.size 0 _ _ b6
  have r1 := frozen_of_row w2 w.heap.size 1 _ _ b6
  have r2 := frozen_of_row w2 w.heap.size 2 _ _ b6
  have c0 := cell_of_row w2 w1.heap.size 0 _ _ _ b9
  have c1 := cell_of_row w2 w1.heap.size 1 _ _ _ b9
  have c2 := cell_of_row w2 w1.heap.size 2 _ _ _ b9
  have c3 := cell_of_row w2 w1.heap.size 3 _ _ _ b9
  simp only [List.getElem?_toArray, List.getElem?_cons_succ, List.getElem?_cons_zero] at q0 q1 q2 c0 c1 c2 c3
  clear b6 b9 hb1 hg hrd hc'
  go_wp2_with fail
  all_goals
    refine bodyPost_ret (ret_cell_tmp2 rfl _ _ _ _ _ _ _ rfl (block_set (block_set (block_set H.out.2.2.1 _) _) _) Try.underlying32 rfl info_nodeS) rfl ?_
    exact obj_err (by decide) (Fin.set w w2 _ _ _) H.out.1 H.out.2.1 hR

def obM (t : Int) : Except Int (F × List UInt8 × Nat) → Except Int ObR
  | .error e => .error e
  | .ok (kf, rest, c') => .ok (t, [], kf, rest, c')
def obL (t : Int) (rest : List UInt8) : Except Int (F × Nat) → Except Int ObR
  | .error e => .error e
  | .ok (kf, c') => .ok (t, [], kf, rest, c')

/-- listToMark one level down, for the bytes behind the header -/
def MarkC (R : Nat) (p : Nat → Prop) (st : Bool) (bs : List UInt8) (ll : Nat) (d : Int) (w2 : World) (r : Except Int (F × List UInt8 × Nat)) : Prop := ∀ (A : Option Addr) (cap : Nat), SeesP w2 p A (Us bs) → ll ≤ cap →
  Calls Try.prog 67 #[.pointer (some ⟨R, 0, none⟩), .slice A ll cap, .int .i64 d] w2 (MarkIs w2 R p st r)

set_option maxHeartbeats 1000000 in
theorem obj_mark (st : Bool) (d : Int) (c ll : Nat) (b0 o0 : Nat) (cap : Nat) (w : World) (R : Nat) (p : Nat → Prop) (t f n s : Nat) (hP : Pre w R st (some ⟨b0, o0, none⟩) ll cap d t f n s c 0) (l : List UInt8) (hl : ll = l.length) (hd : 0 ≤ d ∧ d ≤ 9) (hf : f = 128) (hs : s ≤ ll) (hcap : ll ≤ cap) (hll : ll ≤ 4096) (hp : ∀ x, p x → oldB w R x) (hsee : SeesP w p (some ⟨b0, o0, none⟩) (Us l))
    (r : Except Int (F × List UInt8 × Nat)) (hM : ∀ w2, w.grownBy w2 (some R) → Rd w2 R st (c + 1) → MarkC R p st (l.drop s) (ll - s) (d + 1) w2 r) :
    Calls Try.prog 63 #[.pointer (some ⟨R, 0, none⟩), .slice (some ⟨b0, o0, none⟩) ll cap, .int .i64 d] w (ObjIs w R p st (obM t r)) := by
  have hR := lt_of_block hP.2.2
  have HP := Lib.hid hP
  have d1 : ((f : Int) == 128) = true := by simp; omega
  obtain ⟨hd1, hd2⟩ := hd
  have HM := Lib.hid hM
  have HS := Lib.hid hsee
  have HL := Lib.hid hl
  clear hP hf hM hsee hl
  go_enter Try.func63, Try.ntmps63
  go_wp2_with fail
  refine (HP.out.1 _ ((Below.refl _ _).alloc (Nat.le_refl _) _)).mono ?_
  rintro e w1 ⟨rfl, hb1⟩
  go_wp2_with fail
  refine (HP.out.2.1 _ (block_alloc ((hb1.block R (by simp; omega)).trans (block_alloc HP.out.2.2 _)) _)).mono ?_
  rintro e w2 ⟨rfl, hg, c', hrd, hc'⟩
  have H := Lib.hid (ObSt.mk' HP.out.2.2 hb1 hg hrd)
  have b6 := H.out.2.2.1
  have b9 := H.out.2.2.2.1
  have q0 := cell_of_row w2 w.heap.size 0 _ _ _ b6
  have q1 := cell_of_row w2 w.heap.size 1 _ _ _ b6
  have q2 := cell_of_row w2 w.heap.size 2 _ _ _ b6
  have r0 := frozen_of_row w2 w.heap.size 0 _ _ b6
  have r1 := frozen_of_row w2 w.heap.size 1 _ _ b6
  have r2 := frozen_of_row w2 w.heap.size 2 _ _ b6
  have c0 := cell_of_row w2 w1.heap.size 0 _ _ _ b9
  have c1 := cell_of_row w2 w1.heap.size 1 _ _ _ b9
  have c2 := cell_of_row w2 w1.heap.size 2 _ _ _ b9
  have c3 := cell_of_row w2 w1.heap.size 3 _ _ _ b9
  simp only [List.getElem?_toArray, List.getElem?_cons_succ, List.getElem?_cons_zero] at q0 q1 q2 c0 c1 c2 c3
  have hs2 := HS.out.keep fun q hq => grown_cell H.out.1 (hp _ hq).1 (hp _ hq).2
  have HM2 := Lib.hid (HM.out w2 H.out.1 (by have := hc' rfl; rw [← this]; exact hrd))
  have HS2 := Lib.hid (show SeesP w2 p (some ⟨b0, o0 + s, none⟩) (Us (l.drop s)) from sees_drop hs2 (by have := HL.out; omega))
  clear b6 b9 hb1 hg hrd hc' hs2
  go_wp2_with fail
  · refine (HM2.out _ _ (sees_empty (by have := HL.out; omega)) (by omega)).mono ?_
    rintro e w3 ⟨hg3, hres⟩
    cases r with
    | error x =>
      obtain ⟨rfl, hx, c3', hrd3⟩ := hres
      have H3 := Lib.hid (H.out.grown hg3 hrd3)
      have b6 := H3.out.2.2.1
      have b9 := H3.out.2.2.2.1
      have q0 := cell_of_row w3 w.heap.size 0 _ _ _ b6
      have q1 := cell_of_row w3 w.heap.size 1 _ _ _ b6
      have q2 := cell_of_row w3 w.heap.size 2 _ _ _ b6
      have r0 := frozen_of_row w3 w.heap.size 0 _ _ b6
      have r1 := frozen_of_row w3 w.heap.size 1 _ _ b6
      have r2 := frozen_of_row w3 w.heap.size 2 _ _ b6
      have c0 := cell_of_row w3 w1.heap.size 0 _ _ _ b9
      simp only [List.getElem?_toArray, List.getElem?_cons_succ, List.getElem?_cons_zero] at q0 q1 q2 c0
      have HX := Lib.hid hx
      clear b6 b9 hrd3 hg3 hx
      go_wp2_with fail
      refine bodyPost_ret (ret_cell_tmp2 rfl _ _ _ _ _ _ _ rfl (block_set (block_set (block_set H3.out.2.2.1 _) _) _) Try.underlying32 rfl info_nodeS) rfl ?_
      exact obj_err HX.out (Fin.set w w3 _ _ _) H3.out.1 H3.out.2.1 hR
    | ok q =>
      obtain ⟨kf, rest, c3'⟩ := q
      obtain ⟨A2, n2, Ar, cr, rfl, hrd3, hkf, hrest, hcr⟩ := hres
      have H3 := Lib.hid (H.out.grown hg3 hrd3)
      have b6 := H3.out.2.2.1
      have b9 := H3.out.2.2.2.1
      have q0 := cell_of_row w3 w.heap.size 0 _ _ _ b6
      have q1 := cell_of_row w3 w.heap.size 1 _ _ _ b6
      have q2 := cell_of_row w3 w.heap.size 2 _ _ _ b6
      have r0 := frozen_of_row w3 w.heap.size 0 _ _ b6
      have r1 := frozen_of_row w3 w.heap.size 1 _ _ b6
      have r2 := frozen_of_row w3 w.heap.size 2 _ _ b6
      have c0 := cell_of_row w3 w1.heap.size 0 _ _ _ b9
      simp only [List.getElem?_toArray, List.getElem?_cons_succ, List.getElem?_cons_zero] at q0 q1 q2 c0
      have HX := Lib.hid (show SeesF w3 (newB w2 w3) A2 kf ∧ SeesP w3 p Ar (Us rest) from ⟨hkf, hrest⟩)
      have h62 := lt_of_block H.out.2.2.1
      clear b6 b9 hrd3 hg3 hkf hrest
      go_wp2_with fail
      refine bodyPost_ret (ret_cell_tmp2 rfl _ _ _ _ _ _ _ rfl (block_set (block_set (block_set H3.out.2.2.1 _) _) _) Try.underlying32 rfl info_nodeS) rfl ?_
      exact obj_ok (Av := none) (v := []) (Fin.set w w3 _ _ _) H3.out.1 H3.out.2.1 hR h62 hp (fun _ => rfl) (.inl rfl) HX.out.1 HX.out.2 hcr
  · refine (HM2.out _ _ HS2.out (by omega)).mono ?_
    rintro e w3 ⟨hg3, hres⟩
    cases r with
    | error x =>
      obtain ⟨rfl, hx, c3', hrd3⟩ := hres
      have H3 := Lib.hid (H.out.grown hg3 hrd3)
      have b6 := H3.out.2.2.1
      have b9 := H3.out.2.2.2.1
      have q0 := cell_of_row w3 w.heap.size 0 _ _ _ b6
      have q1 := cell_of_row w3 w.heap.size 1 _ _ _ b6
      have q2 := cell_of_row w3 w.heap.size 2 _ _ _ b6
      have r0 := frozen_of_row w3 w.heap.size 0 _ _ b6
      have r1 := frozen_of_row w3 w.heap.size 1 _ _ b6
      have r2 := frozen_of_row w3 w.heap.size 2 _ _ b6
      have c0 := cell_of_row w3 w1.heap.size 0 _ _ _ b9
      simp only [List.getElem?_toArray, List.getElem?_cons_succ, List.getElem?_cons_zero] at q0 q1 q2 c0
      have HX := Lib.hid hx
      clear b6 b9 hrd3 hg3 hx
      go_wp2_with fail
      refine bodyPost_ret (ret_cell_tmp2 rfl _ _ _ _ _ _ _ rfl (block_set (block_set (block_set H3.out.2.2.1 _) _) _) Try.underlying32 rfl info_nodeS) rfl ?_
      exact obj_err HX.out (Fin.set w w3 _ _ _) H3.out.1 H3.out.2.1 hR
    | ok q =>
      obtain ⟨kf, rest, c3'⟩ := q
      obtain ⟨A2, n2, Ar, cr, rfl, hrd3, hkf, hrest, hcr⟩ := hres
      have H3 := Lib.hid (H.out.grown hg3 hrd3)
      have b6 := H3.out.2.2.1
      have b9 := H3.out.2.2.2.1
      have q0 := cell_of_row w3 w.heap.size 0 _ _ _ b6
      have q1 := cell_of_row w3 w.heap.size 1 _ _ _ b6
      have q2 := cell_of_row w3 w.heap.size 2 _ _ _ b6
      have r0 := frozen_of_row w3 w.heap.size 0 _ _ b6
      have r1 := frozen_of_row w3 w.heap.size 1 _ _ b6
      have r2 := frozen_of_row w3 w.heap.size 2 _ _ b6
      have c0 := cell_of_row w3 w1.heap.size 0 _ _ _ b9
      simp only [List.getElem?_toArray, List.getElem?_cons_succ, List.getElem?_cons_zero] at q0 q1 q2 c0
      have HX := Lib.hid (show SeesF w3 (newB w2 w3) A2 kf ∧ SeesP w3 p Ar (Us rest) from ⟨hkf, hrest⟩)
      have h62 := lt_of_block H.out.2.2.1
      clear b6 b9 hrd3 hg3 hkf hrest
      go_wp2_with fail
      refine bodyPost_ret (ret_cell_tmp2 rfl _ _ _ _ _ _ _ rfl (block_set (block_set (block_set H3.out.2.2.1 _) _) _) Try.underlying32 rfl info_nodeS) rfl ?_
      exact obj_ok (Av := none) (v := []) (Fin.set w w3 _ _ _) H3.out.1 H3.out.2.1 hR h62 hp (fun _ => rfl) (.inl rfl) HX.out.1 HX.out.2 hcr

end Go.Proofs.Ytipmmclahngabaa
