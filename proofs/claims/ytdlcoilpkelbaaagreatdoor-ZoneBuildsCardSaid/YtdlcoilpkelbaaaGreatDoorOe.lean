/-
  What is proved here: a text with one byte in the places of another one, by the program and by the reference; for every text of at most 2^47 bytes.
-/
import Derived.Test.YtdlcoilpkelbaaaGreatDoorRows
import Derived.Test.YtdlcoilpkelbaaaGreatDoorKit
import Derived.Test.YtdlcoilpkelbaaaGreatDoorStr
import Derived.Test.YtdlcoilpkelbaaaGreatDoorOv
import Derived.Laws.IdiomStrings
import Derived.Lib.SmallJoins
namespace Go.Proofs.YtdlcoilpkelbaaaGreatDoor
open Go.RowKit

/-- b in the places of a -/
def exB (a b c : UInt8) : UInt8 := if c = a then b else c
def exL (a b : UInt8) (x : List UInt8) : List UInt8 := x.map (exB a b)
theorem exL_length (a b : UInt8) (x : List UInt8) : (exL a b x).length = x.length := by simp [exL]
/-- the first k places are changed -/
def exTo (a b : UInt8) (x : List UInt8) (k : Nat) : List UInt8 := exL a b (x.take k) ++ x.drop k
theorem exTo_length (a b : UInt8) (x : List UInt8) (k : Nat) (hk : k ≤ x.length) : (exTo a b x k).length = x.length := by simp [exTo, exL]; omega
theorem exTo_zero (a b : UInt8) (x : List UInt8) : exTo a b x 0 = x := by simp [exTo, exL]
theorem exTo_all (a b : UInt8) (x : List UInt8) (k : Nat) (h : x.length ≤ k) : exTo a b x k = exL a b x := by simp [exTo, List.take_of_length_le h, List.drop_eq_nil_of_le h]
theorem exTo_split (a b : UInt8) (x : List UInt8) (k : Nat) (hk : k < x.length) : exTo a b x (k + 1) = exL a b (x.take k) ++ (exB a b x[k] :: x.drop (k + 1)) ∧ exTo a b x k = exL a b (x.take k) ++ (x[k] :: x.drop (k + 1)) := by
  unfold exTo
  refine ⟨?_, by rw [← List.drop_eq_getElem_cons hk]⟩
  have : x.take (k + 1) = x.take k ++ [x[k]] := List.take_succ_eq_append_getElem hk
  rw [this]
  simp only [exL, List.map_append, List.map_cons, List.map_nil, List.append_assoc, List.singleton_append]
theorem exTo_get (a b : UInt8) (x : List UInt8) (k : Nat) (hk : k < x.length) : (exTo a b x k)[k]? = some x[k] := by
  rw [(exTo_split a b x k hk).2, List.getElem?_append_right (by simp [exL]; omega)]
  have : (exL a b (List.take k x)).length = k := by simp [exL]; omega
  rw [this, Nat.sub_self]
  rfl
theorem exTo_keep (a b : UInt8) (x : List UInt8) (k : Nat) (hk : k < x.length) (h : x[k] ≠ a) : exTo a b x (k + 1) = exTo a b x k := by
  rw [(exTo_split a b x k hk).1, (exTo_split a b x k hk).2]
  unfold exB
  rw [if_neg h]
theorem exTo_set (a b : UInt8) (x : List UInt8) (k : Nat) (hk : k < x.length) (h : x[k] = a) : exTo a b x (k + 1) = (exTo a b x k).set k b := by
  rw [(exTo_split a b x k hk).1, (exTo_split a b x k hk).2, List.set_append_right _ _ (by simp [exL]; omega)]
  have : k - (exL a b (List.take k x)).length = 0 := by simp [exL]; omega
  rw [this]
  unfold exB
  rw [if_pos h]
  rfl

/-- a row that holds these bytes, then zeros, and is marked behind its end -/
def ExR (w : World) (g : Nat) (l : List UInt8) (z : Nat) : Prop := ∃ m, l.length ≤ m ∧ w.heap[g]? = some (.cells (Us l ++ List.replicate z (Value.int .u8 0)).toArray 5 (m, m + 1))
theorem ExR.cell {w : World} {g : Nat} {l : List UInt8} {z : Nat} (h : ExR w g l z) {k : Nat} {c : UInt8} (hk : l[k]? = some c) : w.cell? ⟨g, k, none⟩ = some (.int .u8 (c.toNat : Int)) := by
  obtain ⟨m, hm, h⟩ := h
  have hl : k < l.length := (List.getElem?_eq_some_iff.1 hk).1
  rw [cell_of_row w g k _ _ _ h, List.getElem?_toArray, List.getElem?_append_left (by rw [Us_length]; exact hl), Us_get hl]
  rw [(List.getElem?_eq_some_iff.1 hk).2]
theorem ExR.free {w : World} {g : Nat} {l : List UInt8} {z : Nat} (h : ExR w g l z) {k : Nat} (hk : k < l.length) : w.frozen? ⟨g, k, none⟩ = false := by
  obtain ⟨m, hm, h⟩ := h
  unfold World.frozen?
  rw [h]
  simp
  omega
theorem ExR.set {w : World} {g : Nat} {l : List UInt8} {z : Nat} (h : ExR w g l z) {k : Nat} (hk : k < l.length) (c : UInt8) : ExR (w.setCell ⟨g, k, none⟩ (.int .u8 (c.toNat : Int))) g (l.set k c) z := by
  obtain ⟨m, hm, h⟩ := h
  refine ⟨m, by rw [List.length_set]; exact hm, ?_⟩
  rw [Go.Joins.block_setCell h]
  congr 2
  rw [← Us_set]
  simp only [List.setIfInBounds_toArray]
  rw [List.set_append_left _ _ (by rw [Us_length]; exact hk)]
  rfl
theorem ExR.sees {w : World} {g : Nat} {l : List UInt8} {z : Nat} (h : ExR w g l z) : Sees w (g + 1) (some ⟨g, 0, none⟩) (Us l) :=
  .inr ⟨g, 0, rfl, by omega, fun j hj => by
    rw [Us_length] at hj
    rw [Nat.zero_add, h.cell (c := l[j]) (by simp [hj]), Us_get hj]⟩

/-- what '[]byte(s)' lays -/
theorem ex_conv (s : ByteArray) (x : List UInt8) (hx : s = S x) (w : World) : ∃ W cap z, (convert 9 47 (.string s)).run Tryz.prog w = .ok (.slice (some ⟨w.heap.size, 0, none⟩) s.size cap) W ∧ ExR W w.heap.size x z ∧ Below w.heap.size w W ∧ s.size ≤ cap := by
  refine ⟨_, _, grownCap w s.size 0 5 - s.size, run_bytes_of_string w 9 47 5 s Tryz.underlying9 Tryz.underlying47 Tryz.underlying5, ?_, ?_, by have := grownCap_ge w s.size 0 5; omega⟩
  · subst hx
    have e : bytesRow (S x) (grownCap w (S x).size 0 5) = (Us x ++ List.replicate (grownCap w (S x).size 0 5 - (S x).size) (Value.int .u8 0)).toArray := by
      unfold bytesRow
      apply Array.toList_inj.1
      simp only [S, Array.toList_append, Array.toList_map, Array.toList_replicate]; rfl
    rw [e]
    exact ⟨_, by simp [Us], heap_alloc_new w.drew _⟩
  · exact ((below_drewN w.heap.size w 1).alloc (Nat.le_refl _) _)

set_option maxHeartbeats 800000 in
theorem p_exchange (s : ByteArray) (x : List UInt8) (hx : s = S x) (a b : UInt8) (w : World) (hm : s.size ≤ 140737488355328) :
    Calls Tryz.prog 104 #[.string s, .int .u8 (a.toNat : Int), .int .u8 (b.toNat : Int)] w fun e w' => e = .returned (.string (S (exL a b x))) ∧ Below w.heap.size w w' := by
  have hl : s.size = x.length := by rw [hx, S_size]
  obtain ⟨W, cap, z, hcv, hR, hW, hcap⟩ := ex_conv s x hx w
  have HR := Lib.hid hR
  have HB := Lib.hid hW
  have HL := Lib.hid hl
  obtain ⟨g, hg⟩ : ∃ g, g = w.heap.size := ⟨_, rfl⟩
  rw [← hg] at hcv HR HB ⊢
  have HG := Lib.hid hg
  clear hR hW hl hg hx
  go_enter Tryz.func104, Tryz.ntmps104
  go_wp2
  go_loopw [13] (fun i wr => ∃ k : Nat, k ≤ s.size ∧ i = .int .i64 k ∧ Hid (ExR wr g (exTo a b x k) z) ∧ Hid (Below g w wr)) (fun i _ => s.size - (intOf i).toNat)
  case atStart => exact ⟨0, Nat.zero_le _, rfl, Lib.hid (by rw [exTo_zero]; exact HR.out), HB⟩
  case round =>
    obtain ⟨k, hk, rfl, HE, HW⟩ := hrel
    by_cases hlt : k < s.size
    · have hkx : k < x.length := by have := HL.out; omega
      have c0 := HE.out.cell (exTo_get a b x k hkx)
      have f0 := HE.out.free (k := k) (by rw [exTo_length _ _ _ _ (by omega)]; exact hkx)
      clear hcv
      by_cases h : x[k] = a
      · have hi : (x[k].toNat : Int) = ((a : UInt8).toNat : Int) := by rw [h]
        have h2 : Hid (ExR (wr.setCell ⟨g, k, none⟩ (.int .u8 ((b : UInt8).toNat : Int))) g (exTo a b x (k + 1)) z) := Lib.hid (by
          rw [exTo_set _ _ _ _ hkx h]
          exact HE.out.set (by rw [exTo_length _ _ _ _ (by omega)]; exact hkx) _)
        have h3 : Hid (Below g w (wr.setCell ⟨g, k, none⟩ (.int .u8 ((b : UInt8).toNat : Int)))) := Lib.hid (HW.out.setCell (p := ⟨g, k, none⟩) (Nat.le_refl _) _)
        rw [hi] at c0
        clear hi h hkx
        go_wp2
        go_roundw
        case rel => exact ⟨k + 1, by omega, by go_num, h2, h3⟩
        case measure => simp [intOf]; omega
      · have d0 : ((x[k].toNat : Int) == ((a : UInt8).toNat : Int)) = false := by
          simp only [beq_eq_false_iff_ne]
          intro e
          exact h (UInt8.toNat_inj.1 (Int.ofNat_inj.1 e))
        have h2 : Hid (ExR wr g (exTo a b x (k + 1)) z) := Lib.hid (by rw [exTo_keep _ _ _ _ hkx h]; exact HE.out)
        clear h
        go_wp2
        go_roundw
        case rel => exact ⟨k + 1, by omega, by go_num, h2, HW⟩
        case measure => simp [intOf]; omega
    · have hE : ExR wr g (exL a b x) z := by have := HE.out; rwa [exTo_all _ _ _ _ (by have := HL.out; omega)] at this
      have hc := run_conv wr _ _ _ hE.sees s.size cap (by rw [exL_length]; exact HL.out)
      clear hE hcv
      go_wp2
      go_ret
      exact ⟨rfl, HW.out⟩

set_option maxHeartbeats 800000 in
theorem r_fill (s : ByteArray) (x : List UInt8) (hx : s = S x) (w : World) (hm : s.size ≤ 140737488355328) :
    Calls Tryz.prog 79 #[.string s] w fun e w' => e = .returned (.string (S (exL 32 60 x))) ∧ Below w.heap.size w w' := by
  have hl : s.size = x.length := by rw [hx, S_size]
  obtain ⟨W, cap, z, hcv, hR, hW, hcap⟩ := ex_conv s x hx w
  have HR := Lib.hid hR
  have HB := Lib.hid hW
  have HL := Lib.hid hl
  obtain ⟨g, hg⟩ : ∃ g, g = w.heap.size := ⟨_, rfl⟩
  rw [← hg] at hcv HR HB ⊢
  have HG := Lib.hid hg
  clear hR hW hl hg hx
  go_enter Tryz.func79, Tryz.ntmps79
  go_wp2
  go_loopw [4] (fun i wr => ∃ k : Nat, k ≤ s.size ∧ i = .int .i64 k ∧ Hid (ExR wr g (exTo 32 60 x k) z) ∧ Hid (Below g w wr)) (fun i _ => s.size - (intOf i).toNat)
  case atStart => exact ⟨0, Nat.zero_le _, rfl, Lib.hid (by rw [exTo_zero]; exact HR.out), HB⟩
  case round =>
    obtain ⟨k, hk, rfl, HE, HW⟩ := hrel
    by_cases hlt : k < s.size
    · have hkx : k < x.length := by have := HL.out; omega
      have c0 := HE.out.cell (exTo_get 32 60 x k hkx)
      have f0 := HE.out.free (k := k) (by rw [exTo_length _ _ _ _ (by omega)]; exact hkx)
      clear hcv
      by_cases h : x[k] = 32
      · have hi : (x[k].toNat : Int) = ((32 : UInt8).toNat : Int) := by rw [h]
        have h2 : Hid (ExR (wr.setCell ⟨g, k, none⟩ (.int .u8 ((60 : UInt8).toNat : Int))) g (exTo 32 60 x (k + 1)) z) := Lib.hid (by
          rw [exTo_set _ _ _ _ hkx h]
          exact HE.out.set (by rw [exTo_length _ _ _ _ (by omega)]; exact hkx) _)
        have h3 : Hid (Below g w (wr.setCell ⟨g, k, none⟩ (.int .u8 ((60 : UInt8).toNat : Int)))) := Lib.hid (HW.out.setCell (p := ⟨g, k, none⟩) (Nat.le_refl _) _)
        rw [hi] at c0
        clear hi h hkx
        go_wp2
        go_roundw
        case rel => exact ⟨k + 1, by omega, by go_num, h2, h3⟩
        case measure => simp [intOf]; omega
      · have d0 : ((x[k].toNat : Int) == 32) = false := by
          simp only [beq_eq_false_iff_ne]
          intro e
          exact h (UInt8.toNat_inj.1 (Int.ofNat_inj.1 e))
        have h2 : Hid (ExR wr g (exTo 32 60 x (k + 1)) z) := Lib.hid (by rw [exTo_keep _ _ _ _ hkx h]; exact HE.out)
        clear h
        go_wp2
        go_roundw
        case rel => exact ⟨k + 1, by omega, by go_num, h2, HW⟩
        case measure => simp [intOf]; omega
    · have hE : ExR wr g (exL 32 60 x) z := by have := HE.out; rwa [exTo_all _ _ _ _ (by have := HL.out; omega)] at this
      have hc := run_conv wr _ _ _ hE.sees s.size cap (by rw [exL_length]; exact HL.out)
      clear hE hcv
      go_wp2
      go_ret
      exact ⟨rfl, HW.out⟩

end Go.Proofs.YtdlcoilpkelbaaaGreatDoor
