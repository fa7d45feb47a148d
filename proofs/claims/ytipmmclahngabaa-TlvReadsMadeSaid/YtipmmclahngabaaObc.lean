/-
  What is proved here: what the program's object returns for a constructed object of definite length, where list returns what it should one level down.
-/
import Derived.Test.YtipmmclahngabaaRows
import Derived.Test.YtipmmclahngabaaKit
import Derived.Test.YtipmmclahngabaaObd
namespace Go.Proofs.Ytipmmclahngabaa
open Go.RowKit
set_option linter.unusedVariables false

set_option maxHeartbeats 2000000 in
theorem obj_cons (st : Bool) (d : Int) (c ll : Nat) (b0 o0 : Nat) (cap : Nat) (w : World) (R : Nat) (p : Nat → Prop) (t f n s : Nat) (hP : Pre w R st (some ⟨b0, o0, none⟩) ll cap d t f n s c 0) (l : List UInt8) (hl : ll = l.length) (hd : 0 ≤ d ∧ d ≤ 9) (hf : f ≠ 128) (hs : s ≤ ll) (hcap : ll ≤ cap) (hll : ll ≤ 4096) (hn : n ≤ ll - s) (ht : t ≤ 65535) (hk : consB t = true) (hp : ∀ x, p x → oldB w R x) (hsee : SeesP w p (some ⟨b0, o0, none⟩) (Us l))
    (r : Except Int (F × Nat)) (hM : ∀ w2, w.grownBy w2 (some R) → Rd w2 R st (c + 1) → ListC R p st ((l.drop s).take n) n (d + 1) w2 r) :
    Calls Try.prog 63 #[.pointer (some ⟨R, 0, none⟩), .slice (some ⟨b0, o0, none⟩) ll cap, .int .i64 d] w (ObjIs w R p st (obL t ((l.drop s).drop n) r)) := by
  have hR := lt_of_block hP.2.2
  have HP := Lib.hid hP
  have d1 : ((f : Int) == 128) = false := by simp; omega
  obtain ⟨hd1, hd2⟩ := hd
  have HM := Lib.hid hM
  have HS := Lib.hid hsee
  have HL := Lib.hid hl
  have HK := Lib.hid (show ∀ u, Calls Try.prog 14 #[.int .i64 (t : Int)] u fun e w' => e = .returned (.bool true) ∧ w' = u from fun u => by have := tlv_cons (t : Int) (by omega) (by omega) u; rwa [hk] at this)
  obtain ⟨rest, hrest⟩ : ∃ rest, rest = (l.drop s).drop n := ⟨_, rfl⟩
  have HRE := Lib.hid hrest
  rw [← hrest]
  clear hP hf hM hsee hl hk hrest
  go_enter Try.func63, Try.ntmps63
  go_wp2_with fail
  refine (HP.out.1 _ ((Below.refl _ _).alloc (Nat.le_refl _) _)).mono ?_
  rintro e w1 ⟨rfl, hb1⟩
  go_wp2_with fail
  refine (HP.out.2.1 _ (block_alloc ((hb1.block R (by simp; omega)).trans (block_alloc HP.out.2.2 _)) _)).mono ?_
  rintro e w2 ⟨rfl, hg, c', hrd, hc'⟩
  have H := Lib.hid (ObSt.mk' HP.out.2.2 hb1 hg hrd)
  have b6 := H.out.2.2.1
  have b9 := H.out.2.2.2.1
  have q0 := cell_of_row w2 w.heap.size 0 _ _ _ b6
  have q1 := cell_of_row w2 w.heap.size 1 _ _ _ b6
  have q2 := cell_of_row w2 w.heap.size 2 _ _ _ b6
  have r0 := frozen_of_row w2 w.heap.size 0 _ _ b6
  have r1 := frozen_of_row w2 w.heap.size 1 _ _ b6
  have r2 := frozen_of_row w2 w.heap.size 2 _ _ b6
  have c0 := cell_of_row w2 w1.heap.size 0 _ _ _ b9
  have c1 := cell_of_row w2 w1.heap.size 1 _ _ _ b9
  have c2 := cell_of_row w2 w1.heap.size 2 _ _ _ b9
  have c3 := cell_of_row w2 w1.heap.size 3 _ _ _ b9
  simp only [List.getElem?_toArray, List.getElem?_cons_succ, List.getElem?_cons_zero] at q0 q1 q2 c0 c1 c2 c3
  have hs2 := HS.out.keep fun q hq => grown_cell H.out.1 (hp _ hq).1 (hp _ hq).2
  have hs3 := sees_drop hs2 (show s ≤ l.length by have := HL.out; omega)
  have HS2 := Lib.hid (show SeesP w2 p (some ⟨b0, o0 + s, none⟩) (Us ((l.drop s).take n)) ∧ SeesP w2 p (some ⟨b0, o0 + s + n, none⟩) (Us ((l.drop s).drop n)) from ⟨sees_take hs3, sees_drop hs3 (by rw [List.length_drop]; have := HL.out; omega)⟩)
  have HLC := Lib.hid (show ∀ k, ListC R p st ((l.drop s).take n) n (d + 1) (w2.drewN k) r from fun k => HM.out _ (H.out.drewN k).1 (by have := hc' rfl; rw [← this]; exact (H.out.drewN k).2.1))
  have HSE := Lib.hid (show n = 0 → ∀ (w2 : World) (A : Option Addr), SeesP w2 p A (Us ((l.drop s).take n)) from fun h w2 A => .inl (by rw [h]; rfl))
  have HR := Lib.hid (show ∀ w3, w.grownBy w3 (some R) → SeesP w3 p (some ⟨b0, o0 + s + n, none⟩) (Us rest) from fun w3 hw => by
    rw [HRE.out]
    exact sees_drop (sees_drop (HS.out.keep fun q hq => grown_cell hw (hp _ hq).1 (hp _ hq).2) (by have := HL.out; omega)) (by rw [List.length_drop]; have := HL.out; omega))
  have HR0 := Lib.hid (show ll - s ≤ n → ∀ (w3 : World) (A : Option Addr), SeesP w3 p A (Us rest) from fun hn w3 A => by rw [HRE.out]; exact sees_empty (by rw [List.length_drop]; have := HL.out; omega))
  have HD := Lib.hid (show ∀ (w3 W : World) (A2 : Option Addr) (n2 : Nat) (kf : F) (c3 : Nat) (Ar : Option Addr) (cr : Nat), Fin w w3 W → ObSt w R st w1.heap.size t f n s c3 w3 → SeesF w3 (newB w2 w3) A2 kf → SeesP w3 p Ar (Us rest) → ll - s - n ≤ cr →
      ObjIs w R p st (.ok ((t : Int), [], kf, rest, c3)) (.returned (.tuple #[.agg #[.int .i64 t, .slice none 0 0, .slice A2 kf.len n2], .slice Ar (ll - s - n) cr, .int .i64 0])) W from fun w3 W A2 n2 kf c3 Ar cr hF h3 hkf hr hcr => by
    have e2 : rest.length = ll - s - n := by rw [HRE.out, List.length_drop, List.length_drop]; have := HL.out; omega
    have h := obj_ok (w2 := w2) (t := (t : Int)) (Av := none) (v := []) (cv := 0) (Ak := A2) (k := kf) (ck := n2) (Ar := Ar) (rest := rest) (cr := cr) hF h3.1 h3.2.1 hR (lt_of_block H.out.2.2.1) hp (fun _ => rfl) (.inl rfl) hkf hr (by rw [e2]; exact hcr)
    rw [e2] at h
    exact h)
  clear b6 b9 hb1 hg hrd hc' hs2 hs3
  go_wp2_with fail
  · have hn0 : n = 0 := by omega
    have HSE0 := Lib.hid (HSE.out hn0)
    clear HSE
    subst hn0
    go_quiet (fail)
    go_wp2_with (go_at_call 14; refine (HK.out _).mono ?_; rintro e w' ⟨rfl, rfl⟩)
    all_goals
      refine (HLC.out nq _ _ (HSE0.out _ _) (by omega)).mono ?_
      rintro e w3 ⟨hg3, hres⟩
      cases r with
      | error x =>
        obtain ⟨rfl, hx, c3', hrd3⟩ := hres
        have H3 := Lib.hid ((H.out.drewN nq).grown hg3 hrd3)
        have b6 := H3.out.2.2.1
        have b9 := H3.out.2.2.2.1
        have q0 := cell_of_row w3 w.heap.size 0 _ _ _ b6
        have q1 := cell_of_row w3 w.heap.size 1 _ _ _ b6
        have q2 := cell_of_row w3 w.heap.size 2 _ _ _ b6
        have r0 := frozen_of_row w3 w.heap.size 0 _ _ b6
        have r1 := frozen_of_row w3 w.heap.size 1 _ _ b6
        have r2 := frozen_of_row w3 w.heap.size 2 _ _ b6
        have c0 := cell_of_row w3 w1.heap.size 0 _ _ _ b9
        simp only [List.getElem?_toArray, List.getElem?_cons_succ, List.getElem?_cons_zero] at q0 q1 q2 c0
        have HX := Lib.hid hx
        clear b6 b9 hrd3 hg3 hx
        go_wp2_with fail
        refine bodyPost_ret (ret_cell_tmp2 rfl _ _ _ _ _ _ _ rfl (block_set (block_set (block_set H3.out.2.2.1 _) _) _) Try.underlying32 rfl info_nodeS) rfl ?_
        exact obj_err HX.out (Fin.set w w3 _ _ _) H3.out.1 H3.out.2.1 hR
      | ok q =>
        obtain ⟨kf, c3'⟩ := q
        obtain ⟨A2, n2, rfl, hrd3, hkf⟩ := hres
        have H3 := Lib.hid ((H.out.drewN nq).grown hg3 hrd3)
        have b6 := H3.out.2.2.1
        have b9 := H3.out.2.2.2.1
        have q0 := cell_of_row w3 w.heap.size 0 _ _ _ b6
        have q1 := cell_of_row w3 w.heap.size 1 _ _ _ b6
        have q2 := cell_of_row w3 w.heap.size 2 _ _ _ b6
        have r0 := frozen_of_row w3 w.heap.size 0 _ _ b6
        have r1 := frozen_of_row w3 w.heap.size 1 _ _ b6
        have r2 := frozen_of_row w3 w.heap.size 2 _ _ b6
        have c0 := cell_of_row w3 w1.heap.size 0 _ _ _ b9
        simp only [List.getElem?_toArray, List.getElem?_cons_succ, List.getElem?_cons_zero] at q0 q1 q2 c0
        have HX := Lib.hid (show SeesF w3 (newB w2 w3) A2 kf from hkf)
        have HRW := Lib.hid (HR.out w3 (grown_trans (H.out.drewN nq).1 hg3))
        have HRW0 := Lib.hid (fun h A => HR0.out h w3 A)
        clear b6 b9 hrd3 hg3 hkf
        go_wp2_with fail
        refine bodyPost_ret (ret_cell_tmp2 rfl _ _ _ _ _ _ _ rfl (block_set (block_set (block_set H3.out.2.2.1 _) _) _) Try.underlying32 rfl info_nodeS) rfl ?_
        first | exact HD.out w3 _ A2 n2 kf c3' _ _ (Fin.set w w3 _ _ _) H3.out HX.out HRW.out (by omega) | exact HD.out w3 _ A2 n2 kf c3' _ _ (Fin.set w w3 _ _ _) H3.out HX.out (HRW0.out (by omega) _) (by omega)
  · go_quiet (fail)
    go_wp2_with (go_at_call 14; refine (HK.out _).mono ?_; rintro e w' ⟨rfl, rfl⟩)
    all_goals
      refine (HLC.out nq _ _ HS2.out.1 (by omega)).mono ?_
      rintro e w3 ⟨hg3, hres⟩
      cases r with
      | error x =>
        obtain ⟨rfl, hx, c3', hrd3⟩ := hres
        have H3 := Lib.hid ((H.out.drewN nq).grown hg3 hrd3)
        have b6 := H3.out.2.2.1
        have b9 := H3.out.2.2.2.1
        have q0 := cell_of_row w3 w.heap.size 0 _ _ _ b6
        have q1 := cell_of_row w3 w.heap.size 1 _ _ _ b6
        have q2 := cell_of_row w3 w.heap.size 2 _ _ _ b6
        have r0 := frozen_of_row w3 w.heap.size 0 _ _ b6
        have r1 := frozen_of_row w3 w.heap.size 1 _ _ b6
        have r2 := frozen_of_row w3 w.heap.size 2 _ _ b6
        have c0 := cell_of_row w3 w1.heap.size 0 _ _ _ b9
        simp only [List.getElem?_toArray, List.getElem?_cons_succ, List.getElem?_cons_zero] at q0 q1 q2 c0
        have HX := Lib.hid hx
        clear b6 b9 hrd3 hg3 hx
        go_wp2_with fail
        refine bodyPost_ret (ret_cell_tmp2 rfl _ _ _ _ _ _ _ rfl (block_set (block_set (block_set H3.out.2.2.1 _) _) _) Try.underlying32 rfl info_nodeS) rfl ?_
        exact obj_err HX.out (Fin.set w w3 _ _ _) H3.out.1 H3.out.2.1 hR
      | ok q =>
        obtain ⟨kf, c3'⟩ := q
        obtain ⟨A2, n2, rfl, hrd3, hkf⟩ := hres
        have H3 := Lib.hid ((H.out.drewN nq).grown hg3 hrd3)
        have b6 := H3.out.2.2.1
        have b9 := H3.out.2.2.2.1
        have q0 := cell_of_row w3 w.heap.size 0 _ _ _ b6
        have q1 := cell_of_row w3 w.heap.size 1 _ _ _ b6
        have q2 := cell_of_row w3 w.heap.size 2 _ _ _ b6
        have r0 := frozen_of_row w3 w.heap.size 0 _ _ b6
        have r1 := frozen_of_row w3 w.heap.size 1 _ _ b6
        have r2 := frozen_of_row w3 w.heap.size 2 _ _ b6
        have c0 := cell_of_row w3 w1.heap.size 0 _ _ _ b9
        simp only [List.getElem?_toArray, List.getElem?_cons_succ, List.getElem?_cons_zero] at q0 q1 q2 c0
        have HX := Lib.hid (show SeesF w3 (newB w2 w3) A2 kf from hkf)
        have HRW := Lib.hid (HR.out w3 (grown_trans (H.out.drewN nq).1 hg3))
        have HRW0 := Lib.hid (fun h A => HR0.out h w3 A)
        clear b6 b9 hrd3 hg3 hkf
        go_wp2_with fail
        refine bodyPost_ret (ret_cell_tmp2 rfl _ _ _ _ _ _ _ rfl (block_set (block_set (block_set H3.out.2.2.1 _) _) _) Try.underlying32 rfl info_nodeS) rfl ?_
        first | exact HD.out w3 _ A2 n2 kf c3' _ _ (Fin.set w w3 _ _ _) H3.out HX.out HRW.out (by omega) | exact HD.out w3 _ A2 n2 kf c3' _ _ (Fin.set w w3 _ _ _) H3.out HX.out (HRW0.out (by omega) _) (by omega)

end Go.Proofs.Ytipmmclahngabaa
