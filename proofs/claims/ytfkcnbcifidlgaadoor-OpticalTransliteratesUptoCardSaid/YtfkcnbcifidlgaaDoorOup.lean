/-
  What is proved here: a text is valid UTF-8 (in the library's words) if and only if the bytes of its runes are the text; plain facts only.
-/
import Derived.Test.YtfkcnbcifidlgaaDoorOtr
import Derived.Stop.FmtQuoteTie
import Derived.Lib.ValidU
import Derived.Lib.MapLaws
namespace Go.Proofs.YtfkcnbcifidlgaaDoor
open Go.RowKit

theorem enc_rune (n : Nat) : (Utf8.encode (n : Int)).data.toList = Lib.encodeRune (n : Int) := by
  unfold Lib.encodeRune
  rw [← Go.Extern.FmtText.encode_eq]
  unfold Go.Extern.FmtText.nums
  rw [List.map_map]
  conv => lhs; rw [← List.map_id (Utf8.encode (n : Int)).data.toList]
  apply List.map_congr_left
  intro a _
  simp

theorem backB_foldl (L : List Int) : ∀ s : ByteArray, (L.foldl (fun r n => r ++ Utf8.encode n) s).data.toList = s.data.toList ++ (L.flatMap fun n => (Utf8.encode n).data.toList) := by
  induction L with
  | nil => intro s; simp
  | cons n L ih => intro s; rw [List.foldl_cons, ih]; simp [ByteArray.data_append]
/-- the bytes of the runes -/
def backL : List Nat → List UInt8
  | [] => []
  | n :: R => Lib.encodeRune (n : Int) ++ backL R
theorem backB_L (R : List Nat) : backB R = S (backL R) := by
  have h : (backB R).data.toList = backL R := by
    unfold backB runesBytes
    rw [backB_foldl]
    induction R with
    | nil => rfl
    | cons n R ih =>
      simp only [List.map_cons, List.flatMap_cons, backL, enc_rune] at ih ⊢
      rw [← ih]
      simp
  rw [← h]; exact S_of _

theorem dec_width (l : List UInt8) (hl : l ≠ []) : (Lib.decodeL l).2 ≤ l.length := by
  have h0 : 0 < l.length := List.length_pos_iff.2 hl
  rw [Lib.decodeL_N]
  rcases Lib.decodeN_shape l.length (l.getD 0 0).toNat (l.getD 1 0).toNat (l.getD 2 0).toNat (l.getD 3 0).toNat with ⟨_, e⟩ | ⟨_, _, _, _, e⟩ | ⟨_, _, _, _, _, _, e⟩ | ⟨_, _, _, _, _, _, _, e⟩ | e
  all_goals rw [e]; dsimp only; omega

theorem back_any (s : ByteArray) : ∀ (f pos : Nat), s.size ≤ pos + f →
    (Lib.validGoD f (s.data.toList.drop pos) = true → backL (rl s f pos) = s.data.toList.drop pos) ∧
    (s.data.toList.drop pos).length ≤ (backL (rl s f pos)).length ∧
    (Lib.validGoD f (s.data.toList.drop pos) = false → (s.data.toList.drop pos).length < (backL (rl s f pos)).length) := by
  have hsl : s.data.toList.length = s.size := (Lib.size_eq s).symm
  intro f
  induction f with
  | zero =>
    intro pos h
    have e : s.data.toList.drop pos = [] := List.drop_of_length_le (by omega)
    rw [e]
    exact ⟨fun _ => rfl, by simp, fun h => by simp [Lib.validGoD] at h⟩
  | succ f ih =>
    intro pos h
    by_cases hp : pos < s.size
    · have hne : s.data.toList.drop pos ≠ [] := by
        intro e
        have := congrArg List.length e
        rw [List.length_drop] at this
        simp only [List.length_nil] at this
        omega
      have hd := Lib.decodeL_drop s pos
      have hw := dec_width _ hne
      have hw1 := width_1 s pos
      rw [hd] at hw
      obtain ⟨i1, i2, i3⟩ := ih (pos + (Utf8.decode s pos).2) (by omega)
      have hdd : (s.data.toList.drop pos).drop (Utf8.decode s pos).2 = s.data.toList.drop (pos + (Utf8.decode s pos).2) := by rw [List.drop_drop]
      have hen := Lib.encode_decode (s.data.toList.drop pos) hne
      rw [hd] at hen
      rw [← hdd] at i1 i2 i3
      unfold rl Lib.validGoD
      rw [if_pos hp, if_neg hne, hd]
      simp only [backL, List.length_append]
      by_cases hb : (Utf8.decode s pos).1 = 65533 ∧ (Utf8.decode s pos).2 = 1
      · rw [if_pos hb]
        have he : (Lib.encodeRune ((Utf8.decode s pos).1 : Int)).length = 3 := by rw [hb.1]; rfl
        rw [he]
        have hl := List.length_drop (i := (Utf8.decode s pos).2) (l := s.data.toList.drop pos)
        refine ⟨fun h => by simp at h, by omega, fun _ => by omega⟩
      · rw [if_neg hb]
        have he := hen hb
        have hel := congrArg List.length he
        rw [List.length_take, Nat.min_eq_left hw] at hel
        have hl := List.length_drop (i := (Utf8.decode s pos).2) (l := s.data.toList.drop pos)
        refine ⟨fun h => ?_, by omega, fun h => by have := i3 h; omega⟩
        rw [he, i1 h, List.take_append_drop]
    · have e : s.data.toList.drop pos = [] := List.drop_of_length_le (by omega)
      unfold rl Lib.validGoD
      rw [if_neg hp, e]
      exact ⟨fun _ => rfl, by simp, fun h => by simp at h⟩

theorem valid_iff (s : ByteArray) : (Lib.validD s.data.toList = true ∧ backB (rl s s.size 0) = s) ∨ (Lib.validD s.data.toList = false ∧ backB (rl s s.size 0) ≠ s) := by
  have hsl : s.data.toList.length = s.size := (Lib.size_eq s).symm
  obtain ⟨h1, _, h3⟩ := back_any s s.size 0 (by omega)
  rw [List.drop_zero] at h1 h3
  unfold Lib.validD
  rw [hsl]
  rcases hv : Lib.validGoD s.size s.data.toList with _ | _
  · refine .inr ⟨rfl, fun e => ?_⟩
    have h4 := h3 hv
    rw [backB_L] at e
    have := congrArg (fun b : ByteArray => b.data.toList.length) e
    simp only [S_data] at this
    omega
  · exact .inl ⟨rfl, by rw [backB_L, h1 hv, ← S_of]⟩

/-- the runes of a valid text are valid -/
theorem runes_valid (s : ByteArray) : ∀ (f pos : Nat), ∀ n, n ∈ rl s f pos → Lib.validRune (n : Int) = true := by
  intro f
  induction f with
  | zero => intro pos n h; cases h
  | succ f ih =>
    intro pos n h
    unfold rl at h
    by_cases hp : pos < s.size
    · rw [if_pos hp] at h
      rcases List.mem_cons.1 h with e | h
      · rw [e, Lib.decode_N]
        have k0 := (s.data.toList.getD pos 0).toNat_lt
        have k1 := (s.data.toList.getD (pos + 1) 0).toNat_lt
        have k2 := (s.data.toList.getD (pos + 2) 0).toNat_lt
        simp only [Lib.validRune, decide_eq_true_eq]
        rcases Lib.decodeN_shape (s.data.toList.length - pos) (s.data.toList.getD pos 0).toNat (s.data.toList.getD (pos + 1) 0).toNat (s.data.toList.getD (pos + 2) 0).toNat (s.data.toList.getD (pos + 3) 0).toNat with ⟨_, e⟩ | ⟨_, _, _, _, e⟩ | ⟨_, _, _, _, _, _, e⟩ | ⟨_, _, _, _, _, _, _, e⟩ | e
        all_goals rw [e]; dsimp only; omega
      · exact ih _ n h
    · rw [if_neg hp] at h; cases h

end Go.Proofs.YtfkcnbcifidlgaaDoor
