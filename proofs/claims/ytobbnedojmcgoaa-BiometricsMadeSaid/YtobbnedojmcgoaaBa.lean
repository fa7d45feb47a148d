/-
  What is proved here: the program's reading of objects: whether an object has a form, the number of an object.
-/
import Derived.Test.YtobbnedojmcgoaaB9
namespace Go.Proofs.Ytobbnedojmcgoaa
open Go.RowKit
set_option linter.unusedVariables false
set_option linter.unusedSimpArgs false

def formB (t tag : Int) (cb : Bool) (lv lk : Nat) : Bool := decide (t = tag) && (if cb = true then decide (lv = 0) else decide (lk = 0))
set_option maxHeartbeats 800000 in
theorem p_has_form (t tag : Int) (cb : Bool) (hcb : consB tag = cb) (lo : -9223372036854775808 ≤ tag) (hi : tag ≤ 9223372036854775807) (Av : Option Addr) (lv cv : Nat) (Ak : Option Addr) (lk ck : Nat) (w : World) :
    Calls Try.prog 45 #[.agg (nodV t Av lv cv Ak lk ck).toArray, .int .i64 tag] w fun e w' => e = .returned (.bool (formB t tag cb lv lk)) ∧ Below w.heap.size w w' := by
  have ha : (nodV t Av lv cv Ak lk ck).toArray = #[.int .i64 t, .slice Av lv cv, .slice Ak lk ck] := rfl
  rw [ha]
  clear ha
  by_cases ht : t = tag
  · have h1 : (t != tag) = false := by simp [ht]
    have hC := fun w => tlv_cons tag lo hi w
    rw [hcb] at hC
    have HC := Lib.hid hC
    have hv : formB t tag cb lv lk = if cb = true then decide (lv = 0) else decide (lk = 0) := by unfold formB; rw [decide_eq_true ht, Bool.true_and]
    rw [hv]
    clear hC hcb ht lo hi hv
    rcases cb with _ | _
    · have HV : Hid ((decide (lk = 0)) = ((lk : Int) == 0)) := Lib.hid (by by_cases h : lk = 0 <;> simp [h])
      go_enter Try.func45, Try.ntmps45
      go_wp2_with (go_at_call 52; ((with_reducible refine (HC.out _).mono ?_); rintro e w' ⟨rfl, rfl⟩))
      go_ret
      exact ⟨by simp only [Bool.false_eq_true, if_false]; rw [HV.out]; rfl, below_al1 _ _⟩
    · have HV : Hid ((decide (lv = 0)) = ((lv : Int) == 0)) := Lib.hid (by by_cases h : lv = 0 <;> simp [h])
      go_enter Try.func45, Try.ntmps45
      go_wp2_with (go_at_call 52; ((with_reducible refine (HC.out _).mono ?_); rintro e w' ⟨rfl, rfl⟩))
      go_ret
      exact ⟨by simp only [if_true]; rw [HV.out]; rfl, below_al1 _ _⟩
  · have h1 : (t != tag) = true := by simp [ht]
    have hv : formB t tag cb lv lk = false := by unfold formB; rw [decide_eq_false ht, Bool.false_and]
    rw [hv]
    clear hcb ht lo hi hv
    go_enter Try.func45, Try.ntmps45
    go_wp2
    go_ret
    exact ⟨rfl, below_al1 _ _⟩
theorem p_number (v : List UInt8) (n : Nat) (hn : v.length = n) (hz : n ≤ 7) (A : Option Addr) (c : Nat) (w : World) (hs : SeesP w (· < w.heap.size) A (Us v)) :
    Calls Try.prog 53 #[.slice A n c] w fun e w' => e = .returned (.tuple #[.int .i64 ((numL v : Nat) : Int), .int .i64 0]) ∧ w = w' :=
  (oct_num A c n v w w.heap.size (SeesP.iff_sees.1 hs) hn.symm (by unfold maxLen; omega)).mono fun _ _ ⟨he, hw⟩ => ⟨by
    unfold NumEnd numV numE at he
    rwa [if_pos (by omega), if_pos (by omega)] at he, hw.symm⟩
theorem r_numberB (v : List UInt8) (n : Nat) (hn : v.length = n) (hz : n ≤ 7) (A : Option Addr) (c : Nat) (w : World) (hs : SeesP w (· < w.heap.size) A (Us v)) :
    Calls Try.prog 38 #[.slice A n c] w fun e w' => e = .returned (.tuple #[.int .i64 ((numL v : Nat) : Int), .int .i64 0]) ∧ w = w' :=
  (ref_num A c n v w w.heap.size (SeesP.iff_sees.1 hs) hn.symm (by unfold maxLen; omega)).mono fun _ _ ⟨he, hw⟩ => ⟨by
    unfold NumEnd numV numE at he
    rwa [if_pos (by omega), if_pos (by omega)] at he, hw.symm⟩
/-- the number of an object, if the object has this tag and this size -/
def onB (t : Int) (v : List UInt8) (lk : Nat) (tag : Int) (sz : Nat) : Bool := formB t tag false v.length lk && decide (v.length = sz)
def onV (t : Int) (v : List UInt8) (lk : Nat) (tag : Int) (sz : Nat) : Nat := if onB t v lk tag sz = true then numL v else 0
set_option maxHeartbeats 1600000 in
theorem p_open_num (t tag : Int) (hcb : consB tag = false) (lo : -9223372036854775808 ≤ tag) (hi : tag ≤ 9223372036854775807) (v : List UInt8) (n sz : Nat) (hn : v.length = n) (hz : sz ≤ 7) (Av : Option Addr) (cv : Nat) (Ak : Option Addr) (lk ck : Nat) (w : World) (hs : SeesP w (· < w.heap.size) Av (Us v)) :
    Calls Try.prog 46 #[.agg (nodV t Av n cv Ak lk ck).toArray, .int .i64 tag, .int .i64 (sz : Int)] w fun e w' => e = .returned (.tuple #[.int .i64 ((onV t v lk tag sz : Nat) : Int), .bool (onB t v lk tag sz)]) ∧ Below w.heap.size w w' := by
  obtain ⟨us, hus⟩ : ∃ us, nodV t Av n cv Ak lk ck = us := ⟨_, rfl⟩
  have hF := fun w => p_has_form t tag false hcb lo hi Av n cv Ak lk ck w
  obtain ⟨f, hf⟩ : ∃ f, formB t tag false n lk = f := ⟨_, rfl⟩
  have hB : onB t v lk tag sz = (f && decide (n = sz)) := by unfold onB; rw [hn, hf]
  rw [hf, hus] at hF
  have HU := Lib.hid (show us[1]? = some (.slice Av n cv) ∧ (Try.prog.info? 53).map (·.size) = some us.length from by rw [← hus]; exact ⟨rfl, size_n⟩)
  have HF := Lib.hid hF
  have HS := Lib.hid (show _ ∧ _ from ⟨hs, hn⟩)
  have HB := Lib.hid (Below.refl w.heap.size w)
  rw [hus]
  rcases f with _ | _
  · have h2 : onB t v lk tag sz = false := by rw [hB]; rfl
    have h3 : onV t v lk tag sz = 0 := by unfold onV; rw [h2]; rfl
    rw [h2, h3]
    clear hus hF hf hB hs hn hcb lo hi h2 h3
    go_enter Try.func46, Try.ntmps46
    go_wp2_with (first
      | ((with_reducible refine at_box_ (d := 3) ?_); refine wpList_box_v (op := ⟨some 3, _, _, _, _, _⟩) rfl 53 _ rfl us rfl ?_; intro g1 w1 hf hr; have H1 := Lib.hid (show _ ∧ _ from ⟨hf.bl HB.out, hr⟩); clear hf hr)
      | ((with_reducible refine at_load_ (d := 10) ?_); refine wpList_load_v rfl 53 (.tmp 3) rfl g1 rfl us _ H1.out.2 Try.underlying53 rfl HU.out.2 ?_)
      | (go_at_call 45; ((with_reducible refine (HF.out _).mono ?_); rintro e w2 ⟨rfl, hb⟩); have H2 := Lib.hid (below_on H1.out.1 hb); clear hb))
    go_ret2
    exact ⟨rfl, H2.out⟩
  · by_cases hsz : n = sz
    · have h2 : onB t v lk tag sz = true := by rw [hB]; simp [hsz]
      have h3 : onV t v lk tag sz = numL v := by unfold onV; rw [h2]; rfl
      have d1 : ((n : Int) != (sz : Int)) = false := by simp [hsz]
      have HN := Lib.hid (fun w0 h => p_number v n hn (by omega) Av cv w0 h)
      rw [h2, h3]
      clear hus hF hf hB hs hn hcb lo hi h2 h3 hsz
      go_enter Try.func46, Try.ntmps46
      go_wp2_with (first
        | ((with_reducible refine at_box_ (d := 3) ?_); refine wpList_box_v (op := ⟨some 3, _, _, _, _, _⟩) rfl 53 _ rfl us rfl ?_; intro g1 w1 hf hr; have H1 := Lib.hid (show _ ∧ _ from ⟨hf.bl HB.out, hr⟩); clear hf hr)
        | ((with_reducible refine at_load_ (d := 10) ?_); refine wpList_load_v rfl 53 (.tmp 3) rfl g1 rfl us _ H1.out.2 Try.underlying53 rfl HU.out.2 ?_)
        | (go_at_call 45; ((with_reducible refine (HF.out _).mono ?_); rintro e w2 ⟨rfl, hb⟩); have H2 := Lib.hid (below_on H1.out.1 hb); have c1 := ((H1.out.2.on hb).cell 1).trans HU.out.1; clear hb)
        | (go_at_call 53; ((with_reducible refine (HN.out _ (HS.out.1.on2 H2.out)).mono ?_); rintro e w3 ⟨rfl, rfl⟩)))
      go_ret2
      exact ⟨rfl, H2.out⟩
    · have h2 : onB t v lk tag sz = false := by rw [hB]; simp [hsz]
      have h3 : onV t v lk tag sz = 0 := by unfold onV; rw [h2]; rfl
      have d1 : ((n : Int) != (sz : Int)) = true := by simp; omega
      rw [h2, h3]
      clear hus hF hf hB hs hn hcb lo hi h2 h3 hsz
      go_enter Try.func46, Try.ntmps46
      go_wp2_with (first
        | ((with_reducible refine at_box_ (d := 3) ?_); refine wpList_box_v (op := ⟨some 3, _, _, _, _, _⟩) rfl 53 _ rfl us rfl ?_; intro g1 w1 hf hr; have H1 := Lib.hid (show _ ∧ _ from ⟨hf.bl HB.out, hr⟩); clear hf hr)
        | ((with_reducible refine at_load_ (d := 10) ?_); refine wpList_load_v rfl 53 (.tmp 3) rfl g1 rfl us _ H1.out.2 Try.underlying53 rfl HU.out.2 ?_)
        | (go_at_call 45; ((with_reducible refine (HF.out _).mono ?_); rintro e w2 ⟨rfl, hb⟩); have H2 := Lib.hid (below_on H1.out.1 hb); have c1 := ((H1.out.2.on hb).cell 1).trans HU.out.1; clear hb))
      go_ret2
      exact ⟨rfl, H2.out⟩
end Go.Proofs.Ytobbnedojmcgoaa
