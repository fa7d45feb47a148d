/-
  What is proved here: the program's Decode; the reference's Prim, Cons, and Same of templates.
-/
import Derived.Test.YtobbnedojmcgoaaBf
namespace Go.Proofs.Ytobbnedojmcgoaa
open Go.RowKit
set_option linter.unusedVariables false
set_option linter.unusedSimpArgs false

def DecIs (f : F) (w : World) (e : Ending) (w' : World) : Prop := ∃ A c, e = .returned (.tuple #[.slice A (decV f).length c, .int .i64 (decE f)]) ∧ SeesT w' (newB w w') A (decV f) ∧ Below w.heap.size w w'
set_option maxHeartbeats 1600000 in
theorem p_decode (f : F) (n : Nat) (hn : f.len = n) (hok : f.ok) (A : Option Addr) (c : Nat) (w : World) (hs : SeesN w (· < w.heap.size) A f) :
    Calls Try.prog 17 #[.slice A n c] w (DecIs f w) := by
  have hl := p_open_list f n hn hok A c w hs
  rcases hq : lstT f with _ | L
  · rw [hq] at hl
    have HD := Lib.hid (show decV f = [] ∧ decE f = 1 from by unfold decV decE; rw [hq]; exact ⟨rfl, rfl⟩)
    have HL := Lib.hid hl
    clear hl hq hs hn hok
    go_enter Try.func17, Try.ntmps17
    go_wp2_with (go_at_call 35; ((with_reducible refine HL.out.mono ?_); rintro e w1 ⟨he, _, hb⟩); have he := he rfl; subst he; have H1 := Lib.hid hb; clear hb)
    have HE := Lib.hid (show DecIs f w (.returned (.tuple #[.slice none 0 0, .int .i64 1])) w1 from by
      unfold DecIs
      rw [HD.out.1, HD.out.2]
      exact ⟨none, 0, rfl, SeesT.nil_, H1.out⟩)
    go_ret2
    exact HE.out
  · rw [hq] at hl
    obtain ⟨v, hv⟩ : ∃ v, encE L = v := ⟨_, rfl⟩
    obtain ⟨m, hm⟩ : ∃ m, L.length = m := ⟨_, rfl⟩
    have HC := Lib.hid (fun (A : Option Addr) (c : Nat) (w0 : World) (h : SeesT w0 (· < w0.heap.size) A L) => p_check L m hm A c w0 h)
    rw [hv] at HC
    have HDE := Lib.hid (show decE f = v from by unfold decE; rw [hq]; exact hv)
    have HDV := Lib.hid (show (v = 0 → decV f = L) ∧ (v ≠ 0 → decV f = []) from ⟨fun h => by unfold decV; rw [hq]; exact if_pos (by rw [hv, h]), fun h => by unfold decV; rw [hq]; exact if_neg (by rw [hv]; exact h)⟩)
    have HM := Lib.hid hm
    have HL := Lib.hid hl
    clear hl hq hs hn hok hv hm
    by_cases h : v = 0
    · subst h
      have HV := Lib.hid (HDV.out.1 rfl)
      go_enter Try.func17, Try.ntmps17
      go_wp2_with (first
        | (go_at_call 35; ((with_reducible refine HL.out.mono ?_); rintro e w1 ⟨_, he, hb⟩); obtain ⟨A1, c1, rfl, hs1⟩ := he L rfl; rw [HM.out]; have H1 := Lib.hid (show _ ∧ _ from ⟨hb, hs1⟩); clear hb hs1 he)
        | (go_at_call 30; ((with_reducible refine (HC.out _ _ _ (H1.out.2.imp fun b hb => newB_lt hb)).mono ?_); rintro e w2 ⟨rfl, hb⟩); have H2 := Lib.hid hb; clear hb))
      have HE := Lib.hid (show DecIs f w (.returned (.tuple #[.slice A1 m c1, .int .i64 0])) w2 from by
        unfold DecIs
        rw [HV.out, HDE.out, HM.out]
        exact ⟨_, _, rfl, H1.out.2.newOn H2.out, below_on H1.out.1 H2.out⟩)
      go_ret2
      exact HE.out
    · have d1 : (v != 0) = true := by simpa using h
      have HV := Lib.hid (HDV.out.2 h)
      clear h
      go_enter Try.func17, Try.ntmps17
      go_wp2_with (first
        | (go_at_call 35; ((with_reducible refine HL.out.mono ?_); rintro e w1 ⟨_, he, hb⟩); obtain ⟨A1, c1, rfl, hs1⟩ := he L rfl; rw [HM.out]; have H1 := Lib.hid (show _ ∧ _ from ⟨hb, hs1⟩); clear hb hs1 he)
        | (go_at_call 30; ((with_reducible refine (HC.out _ _ _ (H1.out.2.imp fun b hb => newB_lt hb)).mono ?_); rintro e w2 ⟨rfl, hb⟩); have H2 := Lib.hid hb; clear hb))
      have HE := Lib.hid (show DecIs f w (.returned (.tuple #[.slice none 0 0, .int .i64 v])) w2 from by
        unfold DecIs
        rw [HV.out, HDE.out]
        exact ⟨none, 0, rfl, SeesT.nil_, below_on H1.out.1 H2.out⟩)
      go_ret2
      exact HE.out
/-! ## the reference's words for objects -/
def rPrim (t : Int) (lv lk : Nat) (tag sz : Int) : Bool := decide (t = tag) && (decide (lk = 0) && (decide (sz < 0) || decide ((lv : Int) = sz)))
theorem prim_cases (t : Int) (lv lk : Nat) (tag sz : Int) : ((t == tag) = false ∧ rPrim t lv lk tag sz = false) ∨ ((t == tag) = true ∧ ((lk : Int) == 0) = false ∧ rPrim t lv lk tag sz = false) ∨ ((t == tag) = true ∧ ((lk : Int) == 0) = true ∧ decide (sz < 0) = true ∧ rPrim t lv lk tag sz = true) ∨
    ((t == tag) = true ∧ ((lk : Int) == 0) = true ∧ decide (sz < 0) = false ∧ ((lv : Int) == sz) = true ∧ rPrim t lv lk tag sz = true) ∨ ((t == tag) = true ∧ ((lk : Int) == 0) = true ∧ decide (sz < 0) = false ∧ ((lv : Int) == sz) = false ∧ rPrim t lv lk tag sz = false) := by
  unfold rPrim
  by_cases h1 : t = tag
  · by_cases h2 : lk = 0
    · by_cases h3 : sz < 0
      · simp [h1, h2, h3]
      · by_cases h4 : (lv : Int) = sz <;> simp [h1, h2, h3, h4]
    · simp [h1, h2]
  · simp [h1]
theorem r13_prim (t : Int) (Av : Option Addr) (lv cv : Nat) (Ak : Option Addr) (lk ck : Nat) (tag sz : Int) (w : World) :
    Calls Try.prog 37 #[.agg (nodV t Av lv cv Ak lk ck).toArray, .int .i64 tag, .int .i64 sz] w fun e w' => e = .returned (.bool (rPrim t lv lk tag sz)) ∧ Below w.heap.size w w' := by
  have ha : (nodV t Av lv cv Ak lk ck).toArray = #[.int .i64 t, .slice Av lv cv, .slice Ak lk ck] := rfl
  rw [ha]
  rcases prim_cases t lv lk tag sz with ⟨h1, hv⟩ | ⟨h1, h2, hv⟩ | ⟨h1, h2, h3, hv⟩ | ⟨h1, h2, h3, h4, hv⟩ | ⟨h1, h2, h3, h4, hv⟩
  all_goals
    rw [hv]
    clear hv ha
    go_enter Try.func37, Try.ntmps37
    go_wp2
    go_ret
    exact ⟨rfl, below_al1 _ _⟩
theorem r13_cons (t : Int) (Av : Option Addr) (lv cv : Nat) (Ak : Option Addr) (lk ck : Nat) (tag sz : Int) (w : World) :
    Calls Try.prog 36 #[.agg (nodV t Av lv cv Ak lk ck).toArray, .int .i64 tag, .int .i64 sz] w fun e w' => e = .returned (.bool (rPrim t lk lv tag sz)) ∧ Below w.heap.size w w' := by
  have ha : (nodV t Av lv cv Ak lk ck).toArray = #[.int .i64 t, .slice Av lv cv, .slice Ak lk ck] := rfl
  rw [ha]
  rcases prim_cases t lk lv tag sz with ⟨h1, hv⟩ | ⟨h1, h2, hv⟩ | ⟨h1, h2, h3, hv⟩ | ⟨h1, h2, h3, h4, hv⟩ | ⟨h1, h2, h3, h4, hv⟩
  all_goals
    rw [hv]
    clear hv ha
    go_enter Try.func36, Try.ntmps36
    go_wp2
    go_ret
    exact ⟨rfl, below_al1 _ _⟩
end Go.Proofs.Ytobbnedojmcgoaa
