/-
  What is proved here: the info of the protocol that a reader prefers, by the program.
-/
import Derived.Test.YtcapbojjceeapaaDoorWKi
import Derived.Test.YtcapbojjceeapaaDoorWIr
namespace Go.Proofs.YtcapbojjceeapaaDoor
open Go.RowKit
set_option maxRecDepth 8000
set_option linter.unusedVariables false
set_option linter.unusedSimpArgs false
theorem int_at {w : World} {p : Nat → Prop} {A : Option Addr} {o : List Int} {j : Nat} {q : Int} (h : SeesP w p A (o.map (Value.int .i64))) (hq : o[j]? = some q) : ∃ b off, A = some ⟨b, off, none⟩ ∧ p b ∧ w.cell? ⟨b, off + j, none⟩ = some (.int .i64 q) := by
  have hj : j < o.length := (List.getElem?_eq_some_iff.1 hq).1
  rcases h with h | ⟨b, off, rfl, hp, hc⟩
  · have := congrArg List.length h
    simp at this
    rw [this] at hj
    simp at hj
  · refine ⟨b, off, rfl, hp, ?_⟩
    rw [hc j (by simpa using hj), List.getElem?_map, hq]
    rfl
theorem chu_drop {l : List Im} {o : List Int} {j : Nat} {q : Int} (h : o[j]? = some q) : chuI l (o.drop j) = if 0 < (newI q zerI l).v then (newI q zerI l, 0) else chuI l (o.drop (j + 1)) := by
  have hj : j < o.length := (List.getElem?_eq_some_iff.1 h).1
  have e : o.drop j = q :: o.drop (j + 1) := by
    rw [List.drop_eq_getElem_cons hj]
    rw [List.getElem?_eq_getElem hj] at h
    injection h with h
    rw [h]
  rw [e]
  rfl
theorem chu_end {l : List Im} {o : List Int} {n : Nat} (h : o.length = n) : chuI l (o.drop n) = (zerI, 16) := by
  rw [List.drop_eq_nil_of_le (by omega)]
  rfl
def ChoIs (l : List Im) (o : List Int) (w : World) (e : Ending) (w' : World) : Prop := e = .returned (.tuple #[.agg (choI l o).1.cs.toArray, .int .i64 (choI l o).2]) ∧ Below w.heap.size w w'
theorem ChoIs.of {l : List Im} {o : List Int} {w w' : World} {z : Im} {r : Int} (h : choI l o = (z, r)) (hb : Below w.heap.size w w') : ChoIs l o w (.returned (.tuple #[.agg z.cs.toArray, .int .i64 r])) w' := ⟨by rw [h], hb⟩
set_option maxHeartbeats 3200000 in
theorem p_choose (l : List Im) (n : Nat) (hn : l.length = n) (hm : n ≤ 140737488351232) (o : List Int) (no : Nat) (hno : o.length = no) (hmo : no ≤ 140737488351232) (A B : Option Addr) (ca cb : Nat) (w : World) (hs : SeesP w (· < w.heap.size) A (Ics l)) (hso : SeesP w (· < w.heap.size) B (o.map (Value.int .i64))) :
    Calls Tryd.prog 23 #[.slice A n ca, .slice B no cb] w (ChoIs l o w) := by
  have HPV := Lib.hid (fun u (hb : Below w.heap.size w u) => p_valid l n hn hm A ca u (SeesP.on2 hs hb))
  have HPN := Lib.hid (fun q u (hb : Below w.heap.size w u) => p_newest l n hn hm q A ca u (SeesP.on2 hs hb))
  have HSO := Lib.hid (show _ ∧ _ from ⟨hso, hno⟩)
  have HB := Lib.hid (Below.refl w.heap.size w)
  obtain ⟨ve, hve⟩ : ∃ z, vaE l = z := ⟨_, rfl⟩
  rw [hve] at HPV
  clear hs hn hm hso hno
  by_cases h0 : ve = 0
  case neg =>
    have d0 : (ve != 0) = true := by simpa using h0
    have HC := Lib.hid (show choI l o = (zerI, ve) from by unfold choI; rw [hve, if_neg h0])
    clear hve h0 HSO HPN hmo
    go_enter Tryd.func23, Tryd.ntmps23
    go_wp2_with (first
      | ((with_reducible refine at_alloc_ (d := 4) ?_); refine wpList_alloc_v (op := ⟨some 4, _, _, _, _, _⟩) rfl 44 rfl zerX info_x ?_; intro g4 w1 hf hr; have H1 := Lib.hid (show _ ∧ _ ∧ _ from ⟨hf.bl HB.out, hr, hf.ge HB.out⟩); clear hf hr)
      | (go_at_call 13; ((with_reducible refine (HPV.out _ H1.out.1).mono ?_); rintro e w2 ⟨rfl, hb⟩); have H2 := Lib.hid (show Below w.heap.size w w2 ∧ RowV w2 g4 zerX ∧ w.heap.size ≤ g4 from ⟨below_on H1.out.1 hb, H1.out.2.1.on hb, H1.out.2.2⟩); clear hb)
      | ((with_reducible refine at_store_ (i := 4) ?_); refine wpList_store_v rfl 44 (.tmp 4) (.tmp 15) rfl g4 zerX zerI.cs rfl rfl H2.out.2.1 rfl (Im.cs_one _) size_x ?_; intro w3 hw hr; have H3 := Lib.hid (show _ ∧ _ from ⟨Wr.bl H2.out.1 hw H2.out.2.2, hr⟩); clear hw hr))
    exact bodyPost_ret (results_v1 (u := 5) rfl _ _ g4 zerI.cs _ rfl H3.out.2 Tryd.underlying44 rfl size_x) rfl (ChoIs.of HC.out H3.out.1)
  case pos =>
  have d0 : (ve != 0) = false := by simpa using h0
  have HCH := Lib.hid (show choI l o = chuI l o from by unfold choI; rw [hve, if_pos h0])
  subst h0
  clear hve
  go_enter Tryd.func23, Tryd.ntmps23
  go_wp2_with (first
    | ((with_reducible refine at_alloc_ (d := 4) ?_); refine wpList_alloc_v (op := ⟨some 4, _, _, _, _, _⟩) rfl 44 rfl zerX info_x ?_; intro g4 w1 hf hr; have H1 := Lib.hid (show _ ∧ _ ∧ _ from ⟨hf.bl HB.out, hr, hf.ge HB.out⟩); clear hf hr)
    | (go_at_call 13; ((with_reducible refine (HPV.out _ H1.out.1).mono ?_); rintro e w2 ⟨rfl, hb⟩); have H2 := Lib.hid (show Below w.heap.size w w2 ∧ RowV w2 g4 zerX ∧ w.heap.size ≤ g4 from ⟨below_on H1.out.1 hb, H1.out.2.1.on hb, H1.out.2.2⟩); clear hb))
  go_loopw [19] (fun i wr => ∃ (j : Nat), j ≤ no ∧ i = .int .i64 (j : Int) ∧ Hid (Below w.heap.size w wr ∧ RowV wr g4 zerX ∧ chuI l o = chuI l (o.drop j))) (fun i _ => no - (intOf i).toNat)
  case atStart => exact ⟨0, by omega, rfl, Lib.hid ⟨H2.out.1, H2.out.2.1, rfl⟩⟩
  case round =>
    obtain ⟨j, hj, rfl, HR⟩ := hrel
    by_cases hlt : j < no
    · have dj : decide ((j : Int) < (no : Int)) = true := by simp; omega
      obtain ⟨q, hq⟩ : ∃ q, o[j]? = some q := ⟨_, List.getElem?_eq_getElem (by rw [HSO.out.2]; exact hlt)⟩
      obtain ⟨b, off, rfl, hb, hc⟩ := int_at HSO.out.1 hq
      have c0 : wr.cell? ⟨b, off + j, none⟩ = some (.int .i64 q) := (HR.out.1.cell hb).trans hc
      have hch := chu_drop (l := l) hq
      have hn1 := HPN.out q
      obtain ⟨z, hz⟩ : ∃ z, newI q zerI l = z := ⟨_, rfl⟩
      rw [hz] at hch hn1
      by_cases hv : 0 < z.v
      · have HQ := Lib.hid (show choI l o = (z, 0) from by rw [HCH.out, HR.out.2.2, hch, if_pos hv])
        rw [decide_eq_true hv] at hn1
        have HN1 := Lib.hid hn1
        clear hq hb hc hch hn1 hz hv
        go_wp2_with (first
          | (go_at_call 42; ((with_reducible refine (HN1.out _ HR.out.1).mono ?_); rintro e w3 ⟨rfl, hb⟩); have H3 := Lib.hid (show Below w.heap.size w w3 ∧ RowV w3 g4 zerX from ⟨below_on HR.out.1 hb, HR.out.2.1.on hb⟩); clear hb)
          | ((with_reducible refine at_alloc_ (d := 9) ?_); refine wpList_alloc_v (op := ⟨some 9, _, _, _, _, _⟩) rfl 44 rfl zerX info_x ?_; intro g9 w4 hf hr; have H4 := Lib.hid (show Below w.heap.size w w4 ∧ RowV w4 g4 zerX ∧ RowV w4 g9 zerX ∧ w.heap.size ≤ g9 ∧ g9 ≠ g4 from ⟨hf.bl H3.out.1, H3.out.2.fresh hf, hr, hf.ge H3.out.1, (H3.out.2.ne hf).symm⟩); clear hf hr)
          | ((with_reducible refine at_store_ (i := 9) ?_); refine wpList_store_v rfl 44 (.tmp 9) (.tmp 27) rfl g9 zerX z.cs rfl rfl H4.out.2.2.1 rfl (Im.cs_one _) size_x ?_; intro w5 hw hr; have H5 := Lib.hid (show Below w.heap.size w w5 ∧ RowV w5 g4 zerX ∧ RowV w5 g9 z.cs from ⟨Wr.bl H4.out.1 hw H4.out.2.2.2.1, H4.out.2.1.wr hw H4.out.2.2.2.2.symm, hr⟩); clear hw hr)
          | ((with_reducible refine at_load_ (d := 30) ?_); refine wpList_load_v rfl 44 (.tmp 9) rfl g9 rfl z.cs _ H5.out.2.2 Tryd.underlying44 rfl (by rw [Im.cs_len]; exact size_x) ?_)
          | ((with_reducible refine at_store_ (i := 4) ?_); refine wpList_store_v rfl 44 (.tmp 4) (.tmp 30) rfl g4 zerX z.cs rfl rfl H5.out.2.1 rfl (Im.cs_one _) size_x ?_; intro w6 hw hr; have H6 := Lib.hid (show _ ∧ _ from ⟨Wr.bl H5.out.1 hw H2.out.2.2, hr⟩); clear hw hr))
        exact bodyPost_ret (results_v1 (u := 5) rfl _ _ g4 z.cs _ rfl H6.out.2 Tryd.underlying44 rfl size_x) rfl (ChoIs.of HQ.out H6.out.1)
      · have HQ := Lib.hid (show chuI l o = chuI l (o.drop (j + 1)) from by rw [HR.out.2.2, hch, if_neg hv])
        rw [decide_eq_false hv] at hn1
        have HN1 := Lib.hid hn1
        clear hq hb hc hch hn1 hz hv
        go_wp2_with (first
          | (go_at_call 42; ((with_reducible refine (HN1.out _ HR.out.1).mono ?_); rintro e w3 ⟨rfl, hb⟩); have H3 := Lib.hid (show Below w.heap.size w w3 ∧ RowV w3 g4 zerX from ⟨below_on HR.out.1 hb, HR.out.2.1.on hb⟩); clear hb)
          | ((with_reducible refine at_alloc_ (d := 9) ?_); refine wpList_alloc_v (op := ⟨some 9, _, _, _, _, _⟩) rfl 44 rfl zerX info_x ?_; intro g9 w4 hf hr; have H4 := Lib.hid (show Below w.heap.size w w4 ∧ RowV w4 g4 zerX ∧ RowV w4 g9 zerX ∧ w.heap.size ≤ g9 ∧ g9 ≠ g4 from ⟨hf.bl H3.out.1, H3.out.2.fresh hf, hr, hf.ge H3.out.1, (H3.out.2.ne hf).symm⟩); clear hf hr)
          | ((with_reducible refine at_store_ (i := 9) ?_); refine wpList_store_v rfl 44 (.tmp 9) (.tmp 27) rfl g9 zerX z.cs rfl rfl H4.out.2.2.1 rfl (Im.cs_one _) size_x ?_; intro w5 hw hr; have H5 := Lib.hid (show Below w.heap.size w w5 ∧ RowV w5 g4 zerX from ⟨Wr.bl H4.out.1 hw H4.out.2.2.2.1, H4.out.2.1.wr hw H4.out.2.2.2.2.symm⟩); clear hw hr))
        go_roundw
        case rel => exact ⟨j + 1, by omega, by first | rfl | go_num, Lib.hid ⟨H5.out.1, H5.out.2, HQ.out⟩⟩
        case measure => simp [intOf]; omega
    · obtain rfl : j = no := by omega
      have dj : decide ((j : Int) < (j : Int)) = false := by simp
      have HQ := Lib.hid (show choI l o = (zerI, 16) from by rw [HCH.out, HR.out.2.2, chu_end HSO.out.2])
      go_wp2_with (first
        | ((with_reducible refine at_store_ (i := 4) ?_); refine wpList_store_v rfl 44 (.tmp 4) (.tmp 32) rfl g4 zerX zerI.cs rfl rfl HR.out.2.1 rfl (Im.cs_one _) size_x ?_; intro w3 hw hr; have H3 := Lib.hid (show _ ∧ _ from ⟨Wr.bl HR.out.1 hw H2.out.2.2, hr⟩); clear hw hr))
      exact bodyPost_ret (results_v1 (u := 5) rfl _ _ g4 zerI.cs _ rfl H3.out.2 Tryd.underlying44 rfl size_x) rfl (ChoIs.of HQ.out H3.out.1)
end Go.Proofs.YtcapbojjceeapaaDoor
