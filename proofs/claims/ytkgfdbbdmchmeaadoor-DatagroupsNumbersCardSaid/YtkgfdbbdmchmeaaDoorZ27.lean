/-
  What is proved here: what the program's object returns for a constructed object; Values and Kids lie within their capacities.
-/
import Derived.Test.YtkgfdbbdmchmeaaDoorRows
import Derived.Test.YtkgfdbbdmchmeaaDoorZ0
import Derived.Test.YtkgfdbbdmchmeaaDoorZ14
import Derived.Test.YtkgfdbbdmchmeaaDoorZ26
namespace Go.Proofs.YtkgfdbbdmchmeaaDoor
open Go.RowKit
set_option maxRecDepth 8000
set_option linter.unusedVariables false
set_option maxHeartbeats 2000000 in
theorem obj_consC (st : Bool) (d : Int) (c ll : Nat) (b0 o0 : Nat) (cap : Nat) (w : World) (R : Nat) (p : Nat → Prop) (t f n s : Nat) (hP : Pre w R st (some ⟨b0, o0, none⟩) ll cap d t f n s c 0) (l : List UInt8) (hl : ll = l.length) (hd : 0 ≤ d ∧ d ≤ 9) (hf : f ≠ 128) (hs : s ≤ ll) (hcap : ll ≤ cap) (hll : ll ≤ 4096) (hn : n ≤ ll - s) (ht : t ≤ 65535) (hk : consB t = true) (hp : ∀ x, p x → oldB w R x) (hsee : SeesP w p (some ⟨b0, o0, none⟩) (Us l))
    (r : Except Int (F × Nat)) (hM : ∀ w2, w.grownBy w2 (some R) → Rd w2 R st (c + 1) → ListCC R p st ((l.drop s).take n) n (d + 1) w2 r) :
    Calls Tryd.prog 77 #[.pointer (some ⟨R, 0, none⟩), .slice (some ⟨b0, o0, none⟩) ll cap, .int .i64 d] w (ObjIsC w R p st (obL t ((l.drop s).drop n) r)) := by
  have hR := lt_of_block hP.2.2
  have HP := Lib.hid hP
  have d1 : ((f : Int) == 128) = false := by simp; omega
  obtain ⟨hd1, hd2⟩ := hd
  have HM := Lib.hid hM
  have HS := Lib.hid hsee
  have HL := Lib.hid hl
  have HK := Lib.hid (show ∀ u, Calls Tryd.prog 69 #[.int .i64 (t : Int)] u fun e w' => e = .returned (.bool true) ∧ w' = u from fun u => by have := tlv_cons (t : Int) (by omega) (by omega) u; rwa [hk] at this)
  obtain ⟨rest, hrest⟩ : ∃ rest, rest = (l.drop s).drop n := ⟨_, rfl⟩
  have HRE := Lib.hid hrest
  rw [← hrest]
  clear hP hf hM hsee hl hk hrest
  go_enter Tryd.func77, Tryd.ntmps77
  go_wp2_with fail
  refine (HP.out.1 _ ((Below.refl _ _).alloc (Nat.le_refl _) _)).mono ?_
  rintro e w1 ⟨rfl, hb1⟩
  go_wp2_with fail
  refine (HP.out.2.1 _ (block_alloc ((hb1.block R (by simp; omega)).trans (block_alloc HP.out.2.2 _)) _)).mono ?_
  rintro e w2 ⟨rfl, hg, c', hrd, hc'⟩
  have H := Lib.hid (ObSt.mk' HP.out.2.2 hb1 hg hrd)
  have b6 := H.out.2.2.1
  have b9 := H.out.2.2.2.1
  have q0 := cell_of_row w2 w.heap.size 0 _ _ _ b6
  have q1 := cell_of_row w2 w.heap.size 1 _ _ _ b6
  have q2 := cell_of_row w2 w.heap.size 2 _ _ _ b6
  have r0 := frozen_of_row w2 w.heap.size 0 _ _ b6
  have r1 := frozen_of_row w2 w.heap.size 1 _ _ b6
  have r2 := frozen_of_row w2 w.heap.size 2 _ _ b6
  have c0 := cell_of_row w2 w1.heap.size 0 _ _ _ b9
  have c1 := cell_of_row w2 w1.heap.size 1 _ _ _ b9
  have c2 := cell_of_row w2 w1.heap.size 2 _ _ _ b9
  have c3 := cell_of_row w2 w1.heap.size 3 _ _ _ b9
  simp only [List.getElem?_toArray, List.getElem?_cons_succ, List.getElem?_cons_zero] at q0 q1 q2 c0 c1 c2 c3
  have hs2 := HS.out.keep fun q hq => grown_cell H.out.1 (hp _ hq).1 (hp _ hq).2
  have hs3 := sees_drop hs2 (show s ≤ l.length by have := HL.out; omega)
  have HS2 := Lib.hid (show SeesP w2 p (some ⟨b0, o0 + s, none⟩) (Us ((l.drop s).take n)) ∧ SeesP w2 p (some ⟨b0, o0 + s + n, none⟩) (Us ((l.drop s).drop n)) from ⟨sees_take hs3, sees_drop hs3 (by rw [List.length_drop]; have := HL.out; omega)⟩)
  have HLC := Lib.hid (show ∀ k, ListCC R p st ((l.drop s).take n) n (d + 1) (w2.drewN k) r from fun k => HM.out _ (H.out.drewN k).1 (by have := hc' rfl; rw [← this]; exact (H.out.drewN k).2.1))
  have HSE := Lib.hid (show n = 0 → ∀ (w2 : World) (A : Option Addr), SeesP w2 p A (Us ((l.drop s).take n)) from fun h w2 A => .inl (by rw [h]; rfl))
  have HR := Lib.hid (show ∀ w3, w.grownBy w3 (some R) → SeesP w3 p (some ⟨b0, o0 + s + n, none⟩) (Us rest) from fun w3 hw => by
    rw [HRE.out]
    exact sees_drop (sees_drop (HS.out.keep fun q hq => grown_cell hw (hp _ hq).1 (hp _ hq).2) (by have := HL.out; omega)) (by rw [List.length_drop]; have := HL.out; omega))
  have HR0 := Lib.hid (show ll - s ≤ n → ∀ (w3 : World) (A : Option Addr), SeesP w3 p A (Us rest) from fun hn w3 A => by rw [HRE.out]; exact sees_empty (by rw [List.length_drop]; have := HL.out; omega))
  have HD := Lib.hid (show ∀ (w3 W : World) (A2 : Option Addr) (n2 : Nat) (kf : F) (c3 : Nat) (Ar : Option Addr) (cr : Nat), Fin w w3 W → ObSt w R st w1.heap.size t f n s c3 w3 → SeesC w3 (newB w2 w3) A2 n2 kf → SeesP w3 p Ar (Us rest) → ll - s - n ≤ cr →
      ObjIsC w R p st (.ok ((t : Int), [], kf, rest, c3)) (.returned (.tuple #[.agg #[.int .i64 t, .slice none 0 0, .slice A2 kf.len n2], .slice Ar (ll - s - n) cr, .int .i64 0])) W from fun w3 W A2 n2 kf c3 Ar cr hF h3 hkf hr hcr => by
    have e2 : rest.length = ll - s - n := by rw [HRE.out, List.length_drop, List.length_drop]; have := HL.out; omega
    have h := obj_okC (w2 := w2) (t := (t : Int)) (Av := none) (v := []) (cv := 0) (Ak := A2) (k := kf) (ck := n2) (Ar := Ar) (rest := rest) (cr := cr) hF h3.1 h3.2.1 hR (lt_of_block H.out.2.2.1) hp ⟨fun _ => rfl, Nat.zero_le _⟩ (.inl rfl) hkf hr (by rw [e2]; exact hcr)
    rw [e2] at h
    exact h)
  clear b6 b9 hb1 hg hrd hc' hs2 hs3
  go_wp2_with fail
  · have hn0 : n = 0 := by omega
    have HSE0 := Lib.hid (HSE.out hn0)
    clear HSE
    subst hn0
    go_quiet (fail)
    go_wp2_with (go_at_call 69; refine (HK.out _).mono ?_; rintro e w' ⟨rfl, rfl⟩)
    all_goals
      refine (HLC.out nq _ _ (HSE0.out _ _) (by omega)).mono ?_
      rintro e w3 ⟨hg3, hres⟩
      cases r with
      | error x =>
        obtain ⟨rfl, hx, c3', hrd3⟩ := hres
        have H3 := Lib.hid ((H.out.drewN nq).grown hg3 hrd3)
        have b6 := H3.out.2.2.1
        have b9 := H3.out.2.2.2.1
        have q0 := cell_of_row w3 w.heap.size 0 _ _ _ b6
        have q1 := cell_of_row w3 w.heap.size 1 _ _ _ b6
        have q2 := cell_of_row w3 w.heap.size 2 _ _ _ b6
        have r0 := frozen_of_row w3 w.heap.size 0 _ _ b6
        have r1 := frozen_of_row w3 w.heap.size 1 _ _ b6
        have r2 := frozen_of_row w3 w.heap.size 2 _ _ b6
        have c0 := cell_of_row w3 w1.heap.size 0 _ _ _ b9
        simp only [List.getElem?_toArray, List.getElem?_cons_succ, List.getElem?_cons_zero] at q0 q1 q2 c0
        have HX := Lib.hid hx
        clear b6 b9 hrd3 hg3 hx
        go_wp2_with fail
        refine bodyPost_ret (ret_cell_tmp2 rfl _ _ _ _ _ _ _ rfl (block_set (block_set (block_set H3.out.2.2.1 _) _) _) Tryd.underlying50 rfl info_nodeS) rfl ?_
        exact obj_errC HX.out (Fin.set w w3 _ _ _) H3.out.1 H3.out.2.1 hR
      | ok q =>
        obtain ⟨kf, c3'⟩ := q
        obtain ⟨A2, n2, rfl, hrd3, hkf⟩ := hres
        have H3 := Lib.hid ((H.out.drewN nq).grown hg3 hrd3)
        have b6 := H3.out.2.2.1
        have b9 := H3.out.2.2.2.1
        have q0 := cell_of_row w3 w.heap.size 0 _ _ _ b6
        have q1 := cell_of_row w3 w.heap.size 1 _ _ _ b6
        have q2 := cell_of_row w3 w.heap.size 2 _ _ _ b6
        have r0 := frozen_of_row w3 w.heap.size 0 _ _ b6
        have r1 := frozen_of_row w3 w.heap.size 1 _ _ b6
        have r2 := frozen_of_row w3 w.heap.size 2 _ _ b6
        have c0 := cell_of_row w3 w1.heap.size 0 _ _ _ b9
        simp only [List.getElem?_toArray, List.getElem?_cons_succ, List.getElem?_cons_zero] at q0 q1 q2 c0
        have HX := Lib.hid (show SeesC w3 (newB w2 w3) A2 n2 kf from hkf)
        have HRW := Lib.hid (HR.out w3 (grown_trans (H.out.drewN nq).1 hg3))
        have HRW0 := Lib.hid (fun h A => HR0.out h w3 A)
        clear b6 b9 hrd3 hg3 hkf
        go_wp2_with fail
        refine bodyPost_ret (ret_cell_tmp2 rfl _ _ _ _ _ _ _ rfl (block_set (block_set (block_set H3.out.2.2.1 _) _) _) Tryd.underlying50 rfl info_nodeS) rfl ?_
        first | exact HD.out w3 _ A2 n2 kf c3' _ _ (Fin.set w w3 _ _ _) H3.out HX.out HRW.out (by omega) | exact HD.out w3 _ A2 n2 kf c3' _ _ (Fin.set w w3 _ _ _) H3.out HX.out (HRW0.out (by omega) _) (by omega)
  · go_quiet (fail)
    go_wp2_with (go_at_call 69; refine (HK.out _).mono ?_; rintro e w' ⟨rfl, rfl⟩)
    all_goals
      refine (HLC.out nq _ _ HS2.out.1 (by omega)).mono ?_
      rintro e w3 ⟨hg3, hres⟩
      cases r with
      | error x =>
        obtain ⟨rfl, hx, c3', hrd3⟩ := hres
        have H3 := Lib.hid ((H.out.drewN nq).grown hg3 hrd3)
        have b6 := H3.out.2.2.1
        have b9 := H3.out.2.2.2.1
        have q0 := cell_of_row w3 w.heap.size 0 _ _ _ b6
        have q1 := cell_of_row w3 w.heap.size 1 _ _ _ b6
        have q2 := cell_of_row w3 w.heap.size 2 _ _ _ b6
        have r0 := frozen_of_row w3 w.heap.size 0 _ _ b6
        have r1 := frozen_of_row w3 w.heap.size 1 _ _ b6
        have r2 := frozen_of_row w3 w.heap.size 2 _ _ b6
        have c0 := cell_of_row w3 w1.heap.size 0 _ _ _ b9
        simp only [List.getElem?_toArray, List.getElem?_cons_succ, List.getElem?_cons_zero] at q0 q1 q2 c0
        have HX := Lib.hid hx
        clear b6 b9 hrd3 hg3 hx
        go_wp2_with fail
        refine bodyPost_ret (ret_cell_tmp2 rfl _ _ _ _ _ _ _ rfl (block_set (block_set (block_set H3.out.2.2.1 _) _) _) Tryd.underlying50 rfl info_nodeS) rfl ?_
        exact obj_errC HX.out (Fin.set w w3 _ _ _) H3.out.1 H3.out.2.1 hR
      | ok q =>
        obtain ⟨kf, c3'⟩ := q
        obtain ⟨A2, n2, rfl, hrd3, hkf⟩ := hres
        have H3 := Lib.hid ((H.out.drewN nq).grown hg3 hrd3)
        have b6 := H3.out.2.2.1
        have b9 := H3.out.2.2.2.1
        have q0 := cell_of_row w3 w.heap.size 0 _ _ _ b6
        have q1 := cell_of_row w3 w.heap.size 1 _ _ _ b6
        have q2 := cell_of_row w3 w.heap.size 2 _ _ _ b6
        have r0 := frozen_of_row w3 w.heap.size 0 _ _ b6
        have r1 := frozen_of_row w3 w.heap.size 1 _ _ b6
        have r2 := frozen_of_row w3 w.heap.size 2 _ _ b6
        have c0 := cell_of_row w3 w1.heap.size 0 _ _ _ b9
        simp only [List.getElem?_toArray, List.getElem?_cons_succ, List.getElem?_cons_zero] at q0 q1 q2 c0
        have HX := Lib.hid (show SeesC w3 (newB w2 w3) A2 n2 kf from hkf)
        have HRW := Lib.hid (HR.out w3 (grown_trans (H.out.drewN nq).1 hg3))
        have HRW0 := Lib.hid (fun h A => HR0.out h w3 A)
        clear b6 b9 hrd3 hg3 hkf
        go_wp2_with fail
        refine bodyPost_ret (ret_cell_tmp2 rfl _ _ _ _ _ _ _ rfl (block_set (block_set (block_set H3.out.2.2.1 _) _) _) Tryd.underlying50 rfl info_nodeS) rfl ?_
        first | exact HD.out w3 _ A2 n2 kf c3' _ _ (Fin.set w w3 _ _ _) H3.out HX.out HRW.out (by omega) | exact HD.out w3 _ A2 n2 kf c3' _ _ (Fin.set w w3 _ _ _) H3.out HX.out (HRW0.out (by omega) _) (by omega)
end Go.Proofs.YtkgfdbbdmchmeaaDoor
namespace Go.Proofs.YtkgfdbbdmchmeaaDoor
open Go.RowKit
set_option maxRecDepth 8000
set_option linter.unusedVariables false
theorem obj_allC (st : Bool) : ∀ k, k ≤ 8 → ObjAllC st k
  | 0, _ => by
    intro c l A cap w R p hp hc hl hcap hr hs
    by_cases hE : hdrE l = 0
    · have e : pObj st 0 c l = .error (admE st (tagV l) (hdrF l) (hdrN l) 9 c) := by unfold pObj; rw [if_neg (by omega)]
      rw [e]
      exact obj_adm_badC st _ c l.length A cap w R p _ _ _ _ _ (pre_of hp hl hc hr hs hE rfl rfl rfl rfl rfl) adm_nine
    · have e : pObj st 0 c l = .error (hdrE l) := by unfold pObj; rw [if_pos hE]
      rw [e]
      exact obj_hdr_badC st _ c l A cap w R p hp hl hr hs hE
  | k + 1, hk => by
    intro c l A cap w R p hp hc hl hcap hr hs
    have hO := obj_allC st k (by omega)
    have hL := rd_listC st k hO
    have hM := rd_markC st k hO
    have ed : (9 : Int) - ((k + 1 : Nat) : Int) = 8 - (k : Int) := by omega
    rw [ed]
    by_cases hE : hdrE l = 0
    · have hsz := hdr_sizes hE
      have hra := hdr_range hE
      obtain ⟨b0, o0, rfl⟩ := sees_some hs (by omega)
      have hP := pre_of (cap := cap) (d := 8 - (k : Int)) hp hl hc hr hs hE rfl rfl rfl rfl rfl
      by_cases hA : admE st (tagV l) (hdrF l) (hdrN l) (8 - (k : Int)) c = 0
      · rw [hA] at hP
        have hc1 := adm_ok hA
        have ed2 : (8 : Int) - (k : Int) + 1 = 9 - (k : Int) := by omega
        by_cases hF : hdrF l = 128
        · have e : pObj st (k + 1) c l = obM (tagV l) (loopM (pObj st k) (l.drop (hdrS l)).length (c + 1) (l.drop (hdrS l))) := by
            simp only [pObj]
            rw [if_neg (by omega), if_neg (by omega), if_pos hF]
            cases loopM (pObj st k) (l.drop (hdrS l)).length (c + 1) (l.drop (hdrS l)) with
            | error x => rfl
            | ok q => obtain ⟨f, r, c'⟩ := q; rfl
          rw [e]
          refine obj_markC st _ c l.length b0 o0 cap w R p _ _ _ _ hP l rfl (by omega) hF hsz.2 hcap hl hp hs _ ?_
          intro w2 hg hr2 A2 cap2 hs2 hc2
          have h := hM (c + 1) (l.drop (hdrS l)) A2 cap2 w2 R p (fun x hx => ⟨Nat.lt_of_lt_of_le (hp x hx).1 hg.size, (hp x hx).2⟩) hc1 (by rw [List.length_drop]; omega) (by rw [List.length_drop]; exact hc2) hr2 hs2
          rw [ed2]
          rw [List.length_drop] at h ⊢
          exact h
        · by_cases hN : (l.drop (hdrS l)).length < hdrN l
          · have e : pObj st (k + 1) c l = .error 6 := by
              simp only [pObj]
              rw [if_neg (by omega), if_neg (by omega), if_neg hF, if_pos hN]
            rw [e]
            rw [List.length_drop] at hN
            exact obj_shortC st _ c l.length b0 o0 cap w R p _ _ _ _ hP hF hsz.2 hcap hl hN hra.2.2
          · cases hK : consB (tagV l)
            · have e : pObj st (k + 1) c l = .ok (tagV l, (l.drop (hdrS l)).take (hdrN l), .nil, (l.drop (hdrS l)).drop (hdrN l), c + 1) := by
                simp only [pObj]
                rw [if_neg (by omega), if_neg (by omega), if_neg hF, if_neg hN, if_pos hK]
              rw [e]
              rw [List.length_drop] at hN
              exact obj_primC st _ c l.length b0 o0 cap w R p _ _ _ _ hP l rfl hF hsz.2 hcap hl (by omega) hra.1 hK hp hs
            · have e : pObj st (k + 1) c l = obL (tagV l) ((l.drop (hdrS l)).drop (hdrN l)) (loopL (pObj st k) (hdrN l) (c + 1) ((l.drop (hdrS l)).take (hdrN l))) := by
                simp only [pObj]
                rw [if_neg (by omega), if_neg (by omega), if_neg hF, if_neg hN, if_neg (by rw [hK]; decide)]
                cases loopL (pObj st k) (hdrN l) (c + 1) ((l.drop (hdrS l)).take (hdrN l)) with
                | error x => rfl
                | ok q => obtain ⟨f, c'⟩ := q; rfl
              rw [e]
              rw [List.length_drop] at hN
              refine obj_consC st _ c l.length b0 o0 cap w R p _ _ _ _ hP l rfl (by omega) hF hsz.2 hcap hl (by omega) hra.1 hK hp hs _ ?_
              intro w2 hg hr2 A2 cap2 hs2 hc2
              have el : ((l.drop (hdrS l)).take (hdrN l)).length = hdrN l := by rw [List.length_take, List.length_drop]; omega
              have h := hL (c + 1) ((l.drop (hdrS l)).take (hdrN l)) A2 cap2 w2 R hc1 (by omega) (by omega) hr2 (hs2.imp fun x hx => ⟨Nat.lt_of_lt_of_le (hp x hx).1 hg.size, (hp x hx).2⟩)
              rw [ed2]
              rw [el] at h
              exact h
      · have e : pObj st (k + 1) c l = .error (admE st (tagV l) (hdrF l) (hdrN l) (8 - (k : Int)) c) := by
          simp only [pObj]
          rw [if_neg (by omega), if_pos hA]
        rw [e]
        exact obj_adm_badC st _ c l.length _ cap w R p _ _ _ _ _ hP hA
    · have e : pObj st (k + 1) c l = .error (hdrE l) := by simp only [pObj]; rw [if_pos hE]
      rw [e]
      exact obj_hdr_badC st _ c l A cap w R p hp hl hr hs hE
def ParIsC (w : World) (r : Except Int (F × Nat)) (e : Ending) (w' : World) : Prop :=
  Below w.heap.size w w' ∧ match r with
  | .error x => e = .returned (.tuple #[.slice none 0 0, .int .i64 x]) ∧ x ≠ 0
  | .ok (f, _) => ∃ A c, e = .returned (.tuple #[.slice A f.len c, .int .i64 0]) ∧ SeesC w' (newB w w') A c f
theorem par_ofC {w : World} {st : Bool} {r : Except Int (F × Nat)} {e : Ending} {w' : World} (h : ListIsC (w.alloc (.cells #[.bool st, .int .i64 0] 85)) w.heap.size st r e w') : ParIsC w r e w' := by
  obtain ⟨hg, hr⟩ := h
  have hs := hg.size
  simp only [World.size_alloc] at hs
  have hb : Below w.heap.size w w' := by
    refine ⟨hg.os, hg.tape, hg.output, by omega, fun k hk => ?_⟩
    exact (hg.block k (by simp; omega) (by intro e; injection e with e; omega)).trans (Below.heap_alloc w _ k hk)
  refine ⟨hb, ?_⟩
  cases r with
  | error x => exact ⟨hr.1, hr.2.1⟩
  | ok q =>
    obtain ⟨f, c'⟩ := q
    obtain ⟨A, c, he, _, hk⟩ := hr
    exact ⟨A, c, he, hk.imp fun b hb => ⟨by have := hb.1; simp only [World.size_alloc] at this; omega, hb.2⟩⟩
theorem tlv_parseC (st : Bool) (l : List UInt8) (A : Option Addr) (cap : Nat) (w : World) (hl : l.length ≤ 140737488351232) (hcap : l.length ≤ cap) (hs : SeesP w (· < w.heap.size) A (Us l)) :
    Calls Tryd.prog 72 #[.slice A l.length cap, .bool st] w (ParIsC w (parse st l)) := by
  by_cases h : 4096 < l.length
  · have e : parse st l = .error 2 := by unfold parse; rw [if_pos h]
    rw [e]
    have d : decide ((4096 : Int) < (l.length : Int)) = true := by simp; omega
    clear h hs e
    go_enter Tryd.func72, Tryd.ntmps72
    go_wp2_with fail
    go_ret2
    exact ⟨Below.refl _ _, rfl, by decide⟩
  · have e : parse st l = loopL (pObj st 8) l.length 0 l := by unfold parse; rw [if_neg h]
    rw [e]
    have d : decide ((4096 : Int) < (l.length : Int)) = false := by simp; omega
    have hL := rd_listC st 8 (obj_allC st 8 (Nat.le_refl _)) 0 l A cap (w.alloc (.cells #[.bool st, .int .i64 0] 85)) w.heap.size (by omega) (by omega) hcap (heap_alloc_new w _)
      ((hs.keep fun q hq => World.cell?_alloc_lt w _ q hq).imp fun x hx => ⟨by simp; omega, by omega⟩)
    obtain ⟨r, hr⟩ : ∃ r, r = loopL (pObj st 8) l.length 0 l := ⟨_, rfl⟩
    rw [← hr] at hL ⊢
    have HL := Lib.hid (show Calls Tryd.prog 76 #[.pointer (some ⟨w.heap.size, 0, none⟩), .slice A l.length cap, .int .i64 1] _ _ from hL.mono fun e w' h => par_ofC h)
    clear hL h hs e hr
    go_enter Tryd.func72, Tryd.ntmps72
    go_wp2_with fail
    refine HL.out.mono ?_
    rintro e w1 ⟨hb, hres⟩
    cases r with
    | error x =>
      obtain ⟨rfl, hx⟩ := hres
      have HX := Lib.hid (show _ ∧ _ from ⟨hb, hx⟩)
      clear hb hx
      go_wp2_with fail
      go_ret2
      exact ⟨HX.out.1, rfl, HX.out.2⟩
    | ok q =>
      obtain ⟨f, c'⟩ := q
      obtain ⟨A2, c2, rfl, hk⟩ := hres
      have HX := Lib.hid (show _ ∧ _ from ⟨hb, hk⟩)
      clear hb hk
      go_wp2_with fail
      go_ret2
      exact ⟨HX.out.1, A2, c2, rfl, HX.out.2⟩
end Go.Proofs.YtkgfdbbdmchmeaaDoor
