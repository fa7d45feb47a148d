/-
  What is proved here: the library's strings.ContainsRune finds a rune in a row of letters of two bytes each if and only if it is one of them.
-/
import Derived.Test.YtfkcnbcifidlgaaDoorOru
import Derived.Test.YtfkcnbcifidlgaaDoorShg
import Derived.Lib.OthersKept
import Derived.Lib.TrimUEq
import Derived.Laws.RangeAny
namespace Go.Proofs.YtfkcnbcifidlgaaDoor
open Go.RowKit

theorem twos_drop (R : List Nat) : ∀ k, (twos R).drop (2 * k) = twos (R.drop k) := by
  induction R with
  | nil => intro k; simp [twos]
  | cons n R ih =>
    intro k
    match k with
    | 0 => rfl
    | k + 1 =>
      rw [show 2 * (k + 1) = 2 * k + 1 + 1 by omega]
      simp only [twos, two, List.cons_append, List.nil_append, List.drop_succ_cons]
      exact ih k
theorem dec_twos (R : List Nat) (hR : ∀ n, n ∈ R → 128 ≤ n ∧ n < 2048) (k : Nat) (hk : k < R.length) : Utf8.decode (S (twos R)) (2 * k) = (R[k], 2) := by
  rw [← Lib.decodeL_drop, S_data, twos_drop, Lib.decodeL_N]
  obtain ⟨n, R', hn⟩ : ∃ n R', R.drop k = n :: R' := ⟨R[k], R.drop (k + 1), List.drop_eq_getElem_cons hk⟩
  have hnk : R[k] = n := by
    have := List.drop_eq_getElem_cons hk
    rw [hn] at this
    exact (List.cons.inj this).1.symm
  have h := hR n (by rw [← hnk]; exact List.getElem_mem hk)
  rw [hn, hnk]
  have a0 : ((twos (n :: R')).getD 0 0).toNat = 192 + n / 64 := by have := two_0 h.2; rw [← twos_0 n R'] at this; unfold cB at this; omega
  have a1 : ((twos (n :: R')).getD 1 0).toNat = 128 + n % 64 := by have := two_1 n; rw [← twos_1 n R'] at this; unfold cB at this; omega
  have hl : 1 < (twos (n :: R')).length := by rw [twos_len]; simp only [List.length_cons]; omega
  rw [a0, a1]
  unfold Lib.decodeN
  rw [if_neg (by omega), if_pos ⟨by omega, hl, by omega⟩, if_pos (by omega)]
  congr 1
  omega
theorem twos_ge (R : List Nat) (hR : ∀ n, n ∈ R → 128 ≤ n ∧ n < 2048) : ∀ b, b ∈ twos R → 128 ≤ b.toNat := by
  induction R with
  | nil => intro b h; cases h
  | cons n R ih =>
    intro b h
    have hn := hR n (by simp)
    simp only [twos, two, List.cons_append, List.nil_append, List.mem_cons] at h
    rcases h with h | h | h
    · subst h; rw [nat_byte (by omega)]; omega
    · subst h; rw [nat_byte (by omega)]; omega
    · exact ih (fun m hm => hR m (by simp [hm])) b h

set_option maxRecDepth 40000 in
set_option maxHeartbeats 4000000 in
theorem p_ixe (R : List Nat) (hR : ∀ n, n ∈ R → 128 ≤ n ∧ n < 2048) (w : World) :
    Calls Tryd.prog 62 #[.string (S (twos R)), .int .i32 65533] w fun e w' => e = .returned (.int .i64 (-1)) ∧ Below w.heap.size w w' := by
  obtain ⟨s, hs⟩ : ∃ s, S (twos R) = s := ⟨_, rfl⟩
  have hsz : s.size = 2 * R.length := by rw [← hs, S_size, twos_len]
  have HD : Hid (∀ k, (hk : k < R.length) → Utf8.decode s (2 * k) = (R[k], 2)) := Lib.hid (fun k hk => by rw [← hs]; exact dec_twos R hR k hk)
  have hit0 := World.iter_heap w s 0
  have HR := Lib.hid hR
  have HS := Lib.hid hsz
  rw [hs]
  clear hs hR hsz
  go_enter Tryd.func62, Tryd.ntmps62
  go_wp2
  go_loopw [6] (fun _ wr => ∃ k : Nat, k ≤ R.length ∧ wr.heap[w.heap.size]? = some (.stringIter s (2 * k)) ∧ Below w.heap.size w wr) (fun _ wr => s.size - wr.iterPos w.heap.size)
  case atStart => exact ⟨0, Nat.zero_le _, hit0, (Below.refl _ w).alloc (Nat.le_refl _) _⟩
  case round =>
    obtain ⟨k, hk, hit, hbw⟩ := hrel
    by_cases hp : k < R.length
    · have hp2 : 2 * k < s.size := by have := HS.out; omega
      have hnx : ∀ ty, (Instr.next (.pointer (some ⟨w.heap.size, 0, none⟩)) true ty).run Tryd.prog wr = _ := fun ty => Lib.run_next_any_at wr w.heap.size s (2 * k) ty hit hp2
      have hit2 := Lib.iterAt_heap wr w.heap.size s (2 * k) (2 * k + (Utf8.decode s (2 * k)).2) hit
      have hbw2 := Lib.below_iterAt hbw (k := w.heap.size) (Nat.le_refl _) s (2 * k + (Utf8.decode s (2 * k)).2)
      rw [HD.out k hp] at hnx hit2 hbw2
      dsimp only at hnx hit2 hbw2
      have hne : ((R[k] : Nat) : Int) ≠ 65533 := by have := HR.out R[k] (List.getElem_mem hp); omega
      have dne : (((R[k] : Nat) : Int) == 65533) = false := by rw [beq_eq_false_iff_ne]; exact hne
      have hmu : wr.iterPos w.heap.size = 2 * k := by simp [World.iterPos, hit]
      have hmu2 : (wr.iterAt w.heap.size s (2 * k + 2)).iterPos w.heap.size = 2 * k + 2 := by simp [World.iterPos, hit2]
      obtain ⟨m, hm⟩ : ∃ m : Nat, R[k] = m := ⟨_, rfl⟩
      rw [hm] at hnx hne dne
      obtain ⟨W1, hW⟩ : ∃ W1, wr.iterAt w.heap.size s (2 * k + 2) = W1 := ⟨_, rfl⟩
      rw [hW] at hnx hit2 hbw2 hmu2
      clear hm hW
      go_wp2
      go_roundw
      case rel => exact ⟨k + 1, by omega, by rw [show 2 * (k + 1) = 2 * k + 2 by omega]; exact hit2, hbw2⟩
      case measure => rw [hmu, hmu2]; omega
    · have hp2 : ¬ 2 * k < s.size := by have := HS.out; omega
      have hnx : ∀ ty, (Instr.next (.pointer (some ⟨w.heap.size, 0, none⟩)) true ty).run Tryd.prog wr = _ := fun ty => Lib.run_next_end_at wr w.heap.size s (2 * k) ty hit hp2
      go_wp2
      go_leave
      go_ret
      exact ⟨rfl, hbw⟩

theorem p_cr (R : List Nat) (hR : ∀ n, n ∈ R → 128 ≤ n ∧ n < 2048) (hlen : (twos R).length ≤ 1000) (hf : fewB (twos R)) (n : Nat) (hv : Lib.validRune (n : Int) = true) (w : World) :
    Calls Tryd.prog 48 #[.string (S (twos R)), .int .i32 n] w fun e w' => e = .returned (.bool (decide (n ∈ R))) ∧ Below w.heap.size w w' := by
  by_cases h1 : n < 128
  · refine (sh_strings_ContainsRune_ascii (S (twos R)) n w (by omega) (by omega)).mono ?_
    rintro e w' ⟨rfl, rfl⟩
    rw [S_data, Int.toNat_natCast, ib_none (by
      intro h
      have := twos_ge R hR _ h
      simp at this
      omega), decide_eq_false (show ¬ n ∈ R from fun h => by have := hR n h; omega)]
    exact ⟨rfl, Below.refl _ _⟩
  · by_cases h2 : n = 65533
    · subst h2
      have hno : decide (65533 ∈ R) = false := decide_eq_false (fun h => by have := hR _ h; omega)
      rw [hno]
      clear hno
      obtain ⟨s, hs⟩ : ∃ s, S (twos R) = s := ⟨_, rfl⟩
      have hc := fun w => p_ixe R hR w
      rw [hs] at hc ⊢
      have HC := Lib.hid hc
      clear hs hc hf hlen hR hv h1
      go_enter Tryd.func48, Tryd.ntmps48
      go_wp2_with (go_at_call 62; refine (HC.out _).mono ?_; rintro e w' ⟨rfl, hw⟩)
      go_ret
      exact ⟨rfl, hw⟩
    · have hy : ∃ (l : Nat) (y : List UInt8), Utf8.encode (n : Int) = S y ∧ y.length = l + 1 ∧ 1 ≤ l ∧ l ≤ 3 ∧ cB y l < 192 ∧ ((∃ j, oc (twos R) y j) ↔ n ∈ R) := by
        by_cases h3 : n < 2048
        · exact ⟨1, two n, enc_two n (by omega) h3, rfl, by omega, by omega, by rw [two_1]; omega, oc_two R hR n (by omega) h3⟩
        · obtain ⟨l, y, e1, e2, e3, e4, e5, e6⟩ := enc_more n (by omega) hv
          refine ⟨l, y, e1, e2, e3, e4, e6, ⟨fun ⟨j, ho⟩ => ?_, fun h => by have := hR n h; omega⟩⟩
          have := ho.2 0 (by omega)
          have h4 := twos_lt R hR (j + 0)
          omega
      obtain ⟨l, y, e1, e2, e3, e4, e5, e6⟩ := hy
      have hc := fun w => p_ixr (S (twos R)) (twos R) rfl n y l e1 e2 e3 e4 (by omega) (by omega) hv hlen hf e5 w
      obtain ⟨s, hs⟩ : ∃ s, S (twos R) = s := ⟨_, rfl⟩
      rw [hs] at hc ⊢
      have HC := Lib.hid hc
      have HE := Lib.hid e6
      clear hs hc hf hlen hR hv e1 e2 e5 e6 h1 h2
      go_enter Tryd.func48, Tryd.ntmps48
      go_wp2_with (go_at_call 62; refine (HC.out _).mono ?_; rintro e w' ⟨v, rfl, hv, k, rfl⟩)
      go_ret
      refine ⟨?_, below_drewN _ _ _⟩
      have : (0 ≤ v) = (n ∈ R) := propext (hv.trans HE.out)
      simp only [this]
      rfl

end Go.Proofs.YtfkcnbcifidlgaaDoor
