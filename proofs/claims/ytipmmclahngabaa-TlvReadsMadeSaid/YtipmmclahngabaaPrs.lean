/-
  What is proved here: what the program's object, list and Parse return, for bytes that lie in memory.
-/
import Derived.Test.YtipmmclahngabaaRows
import Derived.Test.YtipmmclahngabaaKit
import Derived.Test.YtipmmclahngabaaObc
namespace Go.Proofs.Ytipmmclahngabaa
open Go.RowKit
set_option linter.unusedVariables false

theorem sees_some {w : World} {p : Nat → Prop} {A : Option Addr} {l : List UInt8} (h : SeesP w p A (Us l)) (hl : 0 < l.length) : ∃ b o, A = some ⟨b, o, none⟩ := by
  obtain ⟨b, o, e, _⟩ := sees_byte h hl
  exact ⟨b, o, e⟩

theorem obj_all (st : Bool) : ∀ k, k ≤ 8 → ObjAll st k
  | 0, _ => by
    intro c l A cap w R p hp hc hl hcap hr hs
    by_cases hE : hdrE l = 0
    · have e : pObj st 0 c l = .error (admE st (tagV l) (hdrF l) (hdrN l) 9 c) := by unfold pObj; rw [if_neg (by omega)]
      rw [e]
      exact obj_adm_bad st _ c l.length A cap w R p _ _ _ _ _ (pre_of hp hl hc hr hs hE rfl rfl rfl rfl rfl) adm_nine
    · have e : pObj st 0 c l = .error (hdrE l) := by unfold pObj; rw [if_pos hE]
      rw [e]
      exact obj_hdr_bad st _ c l A cap w R p hp hl hr hs hE
  | k + 1, hk => by
    intro c l A cap w R p hp hc hl hcap hr hs
    have hO := obj_all st k (by omega)
    have hL := rd_list st k hO
    have hM := rd_mark st k hO
    have ed : (9 : Int) - ((k + 1 : Nat) : Int) = 8 - (k : Int) := by omega
    rw [ed]
    by_cases hE : hdrE l = 0
    · have hsz := hdr_sizes hE
      have hra := hdr_range hE
      obtain ⟨b0, o0, rfl⟩ := sees_some hs (by omega)
      have hP := pre_of (cap := cap) (d := 8 - (k : Int)) hp hl hc hr hs hE rfl rfl rfl rfl rfl
      by_cases hA : admE st (tagV l) (hdrF l) (hdrN l) (8 - (k : Int)) c = 0
      · rw [hA] at hP
        have hc1 := adm_ok hA
        have ed2 : (8 : Int) - (k : Int) + 1 = 9 - (k : Int) := by omega
        by_cases hF : hdrF l = 128
        · have e : pObj st (k + 1) c l = obM (tagV l) (loopM (pObj st k) (l.drop (hdrS l)).length (c + 1) (l.drop (hdrS l))) := by
            simp only [pObj]
            rw [if_neg (by omega), if_neg (by omega), if_pos hF]
            cases loopM (pObj st k) (l.drop (hdrS l)).length (c + 1) (l.drop (hdrS l)) with
            | error x => rfl
            | ok q => obtain ⟨f, r, c'⟩ := q; rfl
          rw [e]
          refine obj_mark st _ c l.length b0 o0 cap w R p _ _ _ _ hP l rfl (by omega) hF hsz.2 hcap hl hp hs _ ?_
          intro w2 hg hr2 A2 cap2 hs2 hc2
          have h := hM (c + 1) (l.drop (hdrS l)) A2 cap2 w2 R p (fun x hx => ⟨Nat.lt_of_lt_of_le (hp x hx).1 hg.size, (hp x hx).2⟩) hc1 (by rw [List.length_drop]; omega) (by rw [List.length_drop]; exact hc2) hr2 hs2
          rw [ed2]
          rw [List.length_drop] at h ⊢
          exact h
        · by_cases hN : (l.drop (hdrS l)).length < hdrN l
          · have e : pObj st (k + 1) c l = .error 6 := by
              simp only [pObj]
              rw [if_neg (by omega), if_neg (by omega), if_neg hF, if_pos hN]
            rw [e]
            rw [List.length_drop] at hN
            exact obj_short st _ c l.length b0 o0 cap w R p _ _ _ _ hP hF hsz.2 hcap hl hN hra.2.2
          · cases hK : consB (tagV l)
            · have e : pObj st (k + 1) c l = .ok (tagV l, (l.drop (hdrS l)).take (hdrN l), .nil, (l.drop (hdrS l)).drop (hdrN l), c + 1) := by
                simp only [pObj]
                rw [if_neg (by omega), if_neg (by omega), if_neg hF, if_neg hN, if_pos hK]
              rw [e]
              rw [List.length_drop] at hN
              exact obj_prim st _ c l.length b0 o0 cap w R p _ _ _ _ hP l rfl hF hsz.2 hcap hl (by omega) hra.1 hK hp hs
            · have e : pObj st (k + 1) c l = obL (tagV l) ((l.drop (hdrS l)).drop (hdrN l)) (loopL (pObj st k) (hdrN l) (c + 1) ((l.drop (hdrS l)).take (hdrN l))) := by
                simp only [pObj]
                rw [if_neg (by omega), if_neg (by omega), if_neg hF, if_neg hN, if_neg (by rw [hK]; decide)]
                cases loopL (pObj st k) (hdrN l) (c + 1) ((l.drop (hdrS l)).take (hdrN l)) with
                | error x => rfl
                | ok q => obtain ⟨f, c'⟩ := q; rfl
              rw [e]
              rw [List.length_drop] at hN
              refine obj_cons st _ c l.length b0 o0 cap w R p _ _ _ _ hP l rfl (by omega) hF hsz.2 hcap hl (by omega) hra.1 hK hp hs _ ?_
              intro w2 hg hr2 A2 cap2 hs2 hc2
              have el : ((l.drop (hdrS l)).take (hdrN l)).length = hdrN l := by rw [List.length_take, List.length_drop]; omega
              have h := hL (c + 1) ((l.drop (hdrS l)).take (hdrN l)) A2 cap2 w2 R hc1 (by omega) (by omega) hr2 (hs2.imp fun x hx => ⟨Nat.lt_of_lt_of_le (hp x hx).1 hg.size, (hp x hx).2⟩)
              rw [ed2]
              rw [el] at h
              exact h
      · have e : pObj st (k + 1) c l = .error (admE st (tagV l) (hdrF l) (hdrN l) (8 - (k : Int)) c) := by
          simp only [pObj]
          rw [if_neg (by omega), if_pos hA]
        rw [e]
        exact obj_adm_bad st _ c l.length _ cap w R p _ _ _ _ _ hP hA
    · have e : pObj st (k + 1) c l = .error (hdrE l) := by simp only [pObj]; rw [if_pos hE]
      rw [e]
      exact obj_hdr_bad st _ c l A cap w R p hp hl hr hs hE

/-- what Parse answers -/
def parse (st : Bool) (l : List UInt8) : Except Int (F × Nat) := if 4096 < l.length then .error 2 else loopL (pObj st 8) l.length 0 l
def ParIs (w : World) (r : Except Int (F × Nat)) (e : Ending) (w' : World) : Prop :=
  Below w.heap.size w w' ∧ match r with
  | .error x => e = .returned (.tuple #[.slice none 0 0, .int .i64 x]) ∧ x ≠ 0
  | .ok (f, _) => ∃ A c, e = .returned (.tuple #[.slice A f.len c, .int .i64 0]) ∧ SeesF w' (newB w w') A f

theorem par_of {w : World} {st : Bool} {r : Except Int (F × Nat)} {e : Ending} {w' : World} (h : ListIs (w.alloc (.cells #[.bool st, .int .i64 0] 67)) w.heap.size st r e w') : ParIs w r e w' := by
  obtain ⟨hg, hr⟩ := h
  have hs := hg.size
  simp only [World.size_alloc] at hs
  have hb : Below w.heap.size w w' := by
    refine ⟨hg.os, hg.tape, hg.output, by omega, fun k hk => ?_⟩
    exact (hg.block k (by simp; omega) (by intro e; injection e with e; omega)).trans (Below.heap_alloc w _ k hk)
  refine ⟨hb, ?_⟩
  cases r with
  | error x => exact ⟨hr.1, hr.2.1⟩
  | ok q =>
    obtain ⟨f, c'⟩ := q
    obtain ⟨A, c, he, _, hk⟩ := hr
    exact ⟨A, c, he, hk.imp fun b hb => ⟨by have := hb.1; simp only [World.size_alloc] at this; omega, hb.2⟩⟩

theorem tlv_parse (st : Bool) (l : List UInt8) (A : Option Addr) (cap : Nat) (w : World) (hl : l.length ≤ 140737488351232) (hcap : l.length ≤ cap) (hs : SeesP w (· < w.heap.size) A (Us l)) :
    Calls Try.prog 22 #[.slice A l.length cap, .bool st] w (ParIs w (parse st l)) := by
  by_cases h : 4096 < l.length
  · have e : parse st l = .error 2 := by unfold parse; rw [if_pos h]
    rw [e]
    have d : decide ((4096 : Int) < (l.length : Int)) = true := by simp; omega
    clear h hs e
    go_enter Try.func22, Try.ntmps22
    go_wp2_with fail
    go_ret2
    exact ⟨Below.refl _ _, rfl, by decide⟩
  · have e : parse st l = loopL (pObj st 8) l.length 0 l := by unfold parse; rw [if_neg h]
    rw [e]
    have d : decide ((4096 : Int) < (l.length : Int)) = false := by simp; omega
    have hL := rd_list st 8 (obj_all st 8 (Nat.le_refl _)) 0 l A cap (w.alloc (.cells #[.bool st, .int .i64 0] 67)) w.heap.size (by omega) (by omega) hcap (heap_alloc_new w _)
      ((hs.keep fun q hq => World.cell?_alloc_lt w _ q hq).imp fun x hx => ⟨by simp; omega, by omega⟩)
    obtain ⟨r, hr⟩ : ∃ r, r = loopL (pObj st 8) l.length 0 l := ⟨_, rfl⟩
    rw [← hr] at hL ⊢
    have HL := Lib.hid (show Calls Try.prog 49 #[.pointer (some ⟨w.heap.size, 0, none⟩), .slice A l.length cap, .int .i64 1] _ _ from hL.mono fun e w' h => par_of h)
    clear hL h hs e hr
    go_enter Try.func22, Try.ntmps22
    go_wp2_with fail
    refine HL.out.mono ?_
    rintro e w1 ⟨hb, hres⟩
    cases r with
    | error x =>
      obtain ⟨rfl, hx⟩ := hres
      have HX := Lib.hid (show _ ∧ _ from ⟨hb, hx⟩)
      clear hb hx
      go_wp2_with fail
      go_ret2
      exact ⟨HX.out.1, rfl, HX.out.2⟩
    | ok q =>
      obtain ⟨f, c'⟩ := q
      obtain ⟨A2, c2, rfl, hk⟩ := hres
      have HX := Lib.hid (show _ ∧ _ from ⟨hb, hk⟩)
      clear hb hk
      go_wp2_with fail
      go_ret2
      exact ⟨HX.out.1, A2, c2, rfl, HX.out.2⟩

end Go.Proofs.Ytipmmclahngabaa
