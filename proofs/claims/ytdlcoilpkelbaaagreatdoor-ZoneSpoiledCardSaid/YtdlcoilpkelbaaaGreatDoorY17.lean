/-
  What is proved here: the reference's Parse, for any lines.
  And: the law ZoneParses as a function: true for any lines.
-/
import Derived.Test.YtdlcoilpkelbaaaGreatDoorRpn
import Derived.Test.YtdlcoilpkelbaaaGreatDoorY16
import Derived.Test.YtdlcoilpkelbaaaGreatDoorY12
namespace Go.Proofs.YtdlcoilpkelbaaaGreatDoor
open Go.RowKit Go.Maps
set_option linter.unusedVariables false

theorem shape_cases (ls : List (List UInt8)) : shapeL ls = 0 ∨ (1 ≤ shapeL ls ∧ shapeL ls ≤ 3) := by
  unfold shapeL
  split
  · exact .inr ⟨by decide, by decide⟩
  · split
    · exact .inr ⟨by decide, by decide⟩
    · split
      · exact .inr ⟨by decide, by decide⟩
      · exact .inl rfl
theorem r_zparse (ls : List (List UInt8)) (A : Option Addr) (n c : Nat) (hn : ls.length = n) (w : World) (hs : Strs w A ls) :
    Calls Tryz.prog 19 #[.slice A n c] w fun e w' => e = .returned (.tuple #[.agg (zV (parZ ls)).toArray, .int .i64 (parE ls)]) ∧ Below w.heap.size w w' := by
  rcases shape_cases ls with h0 | h1
  · have e : parE ls = 2 := by unfold parE; rw [if_pos h0]
    have z : zV (parZ ls) = zon0 := by unfold parZ; rw [e, if_neg (by decide)]; rfl
    rw [e, z]
    exact r_parse_no ls A n c hn h0 w hs
  · rcases hav : allV ls with _ | _
    · have e : parE ls = 12 := by unfold parE; rw [if_neg (by omega), if_pos hav]
      have z : zV (parZ ls) = zon0 := by unfold parZ; rw [e, if_neg (by decide)]; rfl
      rw [e, z]
      exact r_parse_bad ls A n c hn _ h1 rfl hav w hs
    · exact r_parse_ok _ h1 ls A n c hn rfl hav w hs
end Go.Proofs.YtdlcoilpkelbaaaGreatDoor
namespace Go.Proofs.YtdlcoilpkelbaaaGreatDoor
open Go.RowKit Go.Maps
set_option linter.unusedVariables false

set_option maxHeartbeats 1600000 in
set_option maxRecDepth 20000 in
theorem zp_walk (ls : List (List UInt8)) (A : Option Addr) (n c : Nat) (hn : ls.length = n) (hl : n ≤ 10000000000000) (w : World) (hM : Mm w) (hs : Strs w A ls) :
    Calls Tryz.prog 4 #[.slice A n c] w fun e w' => e = .returned (.bool true) ∧ Below w.heap.size w w' := by
  have HM := Lib.hid hM
  have HS := Lib.hid hs
  obtain ⟨us, hus⟩ : ∃ us, zV (parZ ls) = us := ⟨_, rfl⟩
  obtain ⟨v, hv⟩ : ∃ v, parE ls = v := ⟨_, rfl⟩
  have HUL : Hid (us.length = zon0.length ∧ (∀ u ∈ us, u.oneCell' = true) ∧ (Tryz.prog.info? 23).map (·.size) = some us.length) := Lib.hid (by rw [← hus]; exact ⟨rfl, zV_one _, size_z⟩)
  have heq : ∀ w, (binOp .eql 23 (.agg us.toArray) (.agg us.toArray)).run Tryz.prog w = .ok (.bool true) w := zone_eq (parZ ls) us hus
  have HP : Hid (∀ w, Mm w → Strs w A ls → Calls Tryz.prog 18 #[.slice A n c] w fun e w' => e = .returned (.tuple #[.agg us.toArray, .int .i64 v]) ∧ Below w.heap.size w w') := Lib.hid (fun w hM hs => by
    rw [← hus, ← hv, ← hn]; exact p_zparse ls A c (by omega) w hM hs)
  have HR : Hid (∀ w, Strs w A ls → Calls Tryz.prog 19 #[.slice A n c] w fun e w' => e = .returned (.tuple #[.agg us.toArray, .int .i64 v]) ∧ Below w.heap.size w w') := Lib.hid (fun w hs => by
    rw [← hus, ← hv]; exact r_zparse ls A n c hn w hs)
  have HO := Lib.hid (Own.start w)
  clear hM hs hus hv hn
  go_enter Tryz.func4, Tryz.ntmps4
  go_wp2_with (first
    | (go_at_call 18; ((with_reducible refine (HP.out _ (HM.out.on HO.out.bl) (HS.out.on HO.out.bl)).mono ?_); rintro e w5 ⟨rfl, hb⟩); replace HO := Lib.hid (HO.out.on hb); clear hb)
    | (go_at_call 19; ((with_reducible refine (HR.out _ (HS.out.on HO.out.bl)).mono ?_); rintro e w6 ⟨rfl, hb⟩); replace HO := Lib.hid (HO.out.on hb); clear hb)
    | (go_at_call 14; ((with_reducible refine (zone_awake _ (HM.out.on HO.out.bl)).mono ?_); rintro e w7 ⟨rfl, hb⟩); replace HO := Lib.hid (HO.out.on hb); clear hb)
    | ((with_reducible refine at_alloc_ (d := 3) ?_); refine wpList_alloc_v (op := ⟨some 3, _, _, _, _, _⟩) rfl 23 rfl zon0 info_z ?_; intro g3 v3a hf hr; replace HO := Lib.hid (HO.out.new hf hr); clear hf hr)
    | ((with_reducible refine at_store_ (i := 3) ?_); refine wpList_store_v rfl 23 (.tmp 3) (.tmp 10) rfl g3 zon0 us rfl rfl (HO.out.row (i := 0) rfl) HUL.out.1 HUL.out.2.1 HUL.out.2.2 ?_; intro v3s hw hr; replace HO := Lib.hid (HO.out.set (i := 0) rfl hw hr); clear hw hr)
    | ((with_reducible refine at_alloc_ (d := 5) ?_); refine wpList_alloc_v (op := ⟨some 5, _, _, _, _, _⟩) rfl 23 rfl zon0 info_z ?_; intro g5 v5a hf hr; replace HO := Lib.hid (HO.out.new hf hr); clear hf hr)
    | ((with_reducible refine at_store_ (i := 5) ?_); refine wpList_store_v rfl 23 (.tmp 5) (.tmp 15) rfl g5 zon0 us rfl rfl (HO.out.row (i := 1) rfl) HUL.out.1 HUL.out.2.1 HUL.out.2.2 ?_; intro v5s hw hr; replace HO := Lib.hid (HO.out.set (i := 1) rfl hw hr); clear hw hr)
    | ((with_reducible refine at_load_ (d := 24) ?_); refine wpList_load_vg (by rfl) 23 (.tmp 3) rfl g3 rfl us _ (HO.out.row (i := 0) rfl) Tryz.underlying23 rfl HUL.out.2.2 ?_)
    | ((with_reducible refine at_load_ (d := 25) ?_); refine wpList_load_vg (by rfl) 23 (.tmp 5) rfl g5 rfl us _ (HO.out.row (i := 1) rfl) Tryz.underlying23 rfl HUL.out.2.2 ?_))
  go_ret
  exact ⟨rfl, HO.out.bl⟩
end Go.Proofs.YtdlcoilpkelbaaaGreatDoor
