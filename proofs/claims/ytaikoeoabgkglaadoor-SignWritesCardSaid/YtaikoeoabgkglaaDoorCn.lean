/-
  What is proved here: what the library's slices.Grow answers for nil, and its slices.Concat for byte slices that lie in memory, fewer than 2 ^ 47 - 3800 bytes in all.
-/
import Derived.Test.YtaikoeoabgkglaaDoorRows
import Derived.Test.YtaikoeoabgkglaaDoorAz
import Derived.Test.YtaikoeoabgkglaaDoorMn
namespace Go.Proofs.YtaikoeoabgkglaaDoor
open Go.RowKit
set_option linter.unusedVariables false

/-- a row of no elements, with room or without -/
def GrowN (w : World) (e : Ending) (w' : World) : Prop := ∃ A c, e = .returned (.slice A 0 c) ∧ w'.ownsRow w.heap.size 5 1 (.slice A 0 c) 0 [] ∧ Below w.heap.size w w'
theorem own_empty {w : World} {base : Nat} {e : TypeId} {A : Option Addr} {n c : Nat} {xs : List Value} (h : w.ownsRow base e 1 (.slice A n c) n xs) : w.ownsRow base e 1 (.slice A 0 c) 0 [] := by
  rcases h.2 with ⟨h1, h2⟩ | ⟨g, cap, cur, h1, h2, h3, h4, h5, h6, h7⟩
  · injection h1 with h1 h3 h4
    subst h1 h4
    exact ⟨rfl, .inl ⟨rfl, rfl⟩⟩
  · injection h1 with h1 _ h8
    subst h1 h8
    exact ⟨rfl, .inr ⟨g, c, cur, rfl, h2, h3, Nat.zero_le _, h5, h6, by simp⟩⟩
theorem info_u8g : (Tryd.prog.info? 5).map (fun i => (i.zero, i.size, i.bytes)) = some (some (.int .u8 0), 1, 1) := by kernel_rfl
theorem grow_nil (N : Nat) (w : World) (hN : N ≤ 140737488351500) :
    Calls Tryd.prog 53 #[.slice none 0 0, .int .i64 (N : Int)] w (GrowN w) := by
  obtain ⟨i0, hi, hz0, hz1, hz2⟩ := info_parts info_u8g
  by_cases h0 : 0 < N
  · go_enter Tryd.func53, Tryd.ntmps53
    go_wp2_with (at_builtin; refine wpList_append_zeros rfl (.tmp 20) (.tmp 21) 22 3 rfl w.heap.size 5 i0 .i64 .i64 Tryd.underlying22 Tryd.underlying3 hi hz0 hz1 hz2 (.slice none 0 0) 0 [] rfl (World.ownsRow_nil _ _ _ _) N rfl h0 (by unfold maxLen; omega) (by omega) (Nat.le_refl _) ?_; intro v1 w1 ho hg; rw [Nat.zero_add] at ho; obtain ⟨B1, c1, rfl⟩ := own_len ho; have H1 := Lib.hid (show _ ∧ Below w.heap.size w w1 from ⟨own_empty ho, (Below.refl _ w).grown hg (Nat.le_refl _) (by simp [Value.ownBlock])⟩); clear ho hg)
    go_ret
    exact ⟨B1, c1, rfl, H1.out.1, H1.out.2⟩
  · obtain rfl : N = 0 := by omega
    go_enter Tryd.func53, Tryd.ntmps53
    go_wp2
    go_ret
    exact ⟨none, 0, rfl, World.ownsRow_nil _ _ _ _, Below.refl _ _⟩

/-- parts: an address, a capacity, bytes -/
abbrev Part := Option Addr × Nat × List UInt8
def lenP (ps : List Part) : Nat := (ps.map (·.2.2.length)).sum
def flatP (ps : List Part) : List UInt8 := (ps.map (·.2.2)).flatten
theorem flatP_len (ps : List Part) : (flatP ps).length = lenP ps := by simp [flatP, lenP, List.length_flatten, List.map_map]; rfl
theorem lenP_snoc (ps : List Part) (k : Nat) (h : k < ps.length) : lenP (ps.take (k + 1)) = lenP (ps.take k) + ps[k].2.2.length := by
  rw [List.take_succ_eq_append_getElem h]; simp only [lenP, List.map_append, List.sum_append, List.map_cons, List.map_nil, List.sum_cons, List.sum_nil, Nat.add_zero]
theorem flatP_snoc (ps : List Part) (k : Nat) (h : k < ps.length) : flatP (ps.take (k + 1)) = flatP (ps.take k) ++ ps[k].2.2 := by
  rw [List.take_succ_eq_append_getElem h]; simp only [flatP, List.map_append, List.flatten_append, List.map_cons, List.map_nil, List.flatten_cons, List.flatten_nil, List.append_nil]
theorem lenP_take (ps : List Part) (k : Nat) : lenP (ps.take k) ≤ lenP ps := by
  have h : lenP ps = lenP (ps.take k) + lenP (ps.drop k) := by
    have e : ps = ps.take k ++ ps.drop k := (List.take_append_drop k ps).symm
    conv => lhs; rw [e]
    simp only [lenP, List.map_append, List.sum_append]
  omega
/-- the parts lie in memory, in a row in the block g -/
def PartsP (w : World) (g : Nat) (ps : List Part) : Prop := g < w.heap.size ∧ ∀ k (h : k < ps.length), w.cell? ⟨g, k, none⟩ = some (.slice ps[k].1 ps[k].2.2.length ps[k].2.1) ∧ (ps[k].1 = none → ps[k].2.1 = 0) ∧ SeesP w (· < w.heap.size) ps[k].1 (Us ps[k].2.2)
theorem PartsP.below {w w' : World} {g : Nat} {ps : List Part} (h : PartsP w g ps) (hb : Below w.heap.size w w') : PartsP w' g ps :=
  ⟨Nat.lt_of_lt_of_le h.1 hb.size, fun k hk => ⟨(hb.cell (p := ⟨g, k, none⟩) h.1).trans (h.2 k hk).1, (h.2 k hk).2.1, (h.2 k hk).2.2.ony hb⟩⟩
/-- what Concat's second loop keeps -/
def CatR (w : World) (ps : List Part) (k N : Nat) (v : Value) (wr : World) : Prop := wr.ownsRow w.heap.size 5 1 v N (Us (flatP (ps.take k))) ∧ N = lenP (ps.take k) ∧ Below w.heap.size w wr
theorem CatR.next {w wr w2 : World} {ps : List Part} {k N m : Nat} {v v' : Value} {x : List UInt8} (h : CatR w ps k N v wr) (hk : k < ps.length) (hx : x = ps[k].2.2) (hm : m = x.length) (ho : w2.ownsRow w.heap.size 5 1 v' (N + m) (Us (flatP (ps.take k)) ++ Us x)) (hg : wr.grownBy w2 v.ownBlock) : CatR w ps (k + 1) (N + m) v' w2 := by
  subst hm hx
  refine ⟨by rw [flatP_snoc _ _ hk, Us_append]; exact ho, by rw [lenP_snoc _ _ hk, h.2.1], below_own h.2.2 h.1 hg⟩
theorem CatR.done {w wr : World} {ps : List Part} {k N : Nat} {A : Option Addr} {c : Nat} (h : CatR w ps k N (.slice A N c) wr) (hk : ps.length ≤ k) : MkN w N (flatP ps) (.returned (.slice A N c)) wr := by
  have h1 := h.1
  have h2 := h.2.1
  rw [List.take_of_length_le hk] at h1 h2
  exact mkN_of (by rw [flatP_len, h2]) (mk_own h1 h.2.2 (by rw [flatP_len, h2]))
set_option maxHeartbeats 1000000 in
theorem concat_ok {w : World} {g n c : Nat} {ps : List Part} (hn : ps.length = n) (hn1 : n ≤ 1000000) (hP : PartsP w g ps) (hlen : lenP ps ≤ 140737488351500) :
    Calls Tryd.prog 41 #[.slice (some ⟨g, 0, none⟩) n c] w (MkN w (lenP ps) (flatP ps)) := by
  obtain ⟨i0, hi, hz0, hz1, hz2⟩ := info_parts info_u8g
  have H := Lib.hid (show _ ∧ _ ∧ _ from ⟨hn, hP, fun k => lenP_take ps k⟩)
  have HT := Lib.hid (show lenP (ps.take n) = lenP ps from by rw [← hn, List.take_length])
  clear hn hP
  go_enter Tryd.func41, Tryd.ntmps41
  go_wp2
  go_loop [3, 11] (fun s i => ∃ k q : Nat, k ≤ n ∧ i = .int .i64 (k : Int) ∧ s = .int .i64 (q : Int) ∧ Hid (q = lenP (ps.take k))) (fun _ i => n - (intOf i).toNat)
  case atStart => exact ⟨0, 0, Nat.zero_le _, rfl, rfl, Lib.hid rfl⟩
  case round =>
    obtain ⟨k, q, hk, rfl, rfl, HQ⟩ := hrel
    by_cases hlt : k < n
    · have hkp : k < ps.length := by rw [H.out.1]; exact hlt
      obtain ⟨A1, c1, x1, hx1⟩ : ∃ A1 c1 x1, ps[k] = (A1, c1, x1) := ⟨_, _, _, rfl⟩
      have hc1 := (H.out.2.1.2 k hkp).1
      rw [hx1] at hc1
      simp only at hc1
      obtain ⟨m, hm⟩ : ∃ m, x1.length = m := ⟨_, rfl⟩
      rw [hm] at hc1
      have hs : lenP (ps.take (k + 1)) = q + m := by rw [lenP_snoc _ _ hkp, ← HQ.out, hx1, ← hm]
      have hb := H.out.2.2 (k + 1)
      rw [hs] at hb
      have HS := Lib.hid hs
      clear hs hx1 hm
      go_wp2
      go_round
      case rel => exact ⟨k + 1, q + m, by omega, by go_num, by go_num, Lib.hid HS.out.symm⟩
      case measure => simp [intOf]; omega
    · obtain rfl : k = n := by omega
      have HQ2 := Lib.hid (show q = lenP ps from HQ.out.trans HT.out)
      have hq : q ≤ 140737488351500 := by rw [HQ2.out]; exact hlen
      clear HQ hlt hk
      go_wp2_with (go_at_call 53; ((with_reducible refine (grow_nil q _ hq).mono ?_); rintro e w1 ⟨A1, c1, rfl, ho, hb⟩); have H1 := Lib.hid (show CatR w ps 0 0 (.slice A1 0 c1) w1 from ⟨by simpa [flatP, Us] using ho, by simp [lenP], hb⟩); clear ho hb)
      go_loopw [6, 27] (fun v i wr => ∃ (j N : Nat), j ≤ k ∧ i = .int .i64 (j : Int) ∧ Hid (CatR w ps j N v wr)) (fun _ i _ => k - (intOf i).toNat)
      case atStart => exact ⟨0, 0, Nat.zero_le _, rfl, H1⟩
      case round =>
        obtain ⟨j, N, hj, rfl, HR⟩ := hrel
        obtain ⟨B, cB, rfl⟩ := own_len HR.out.1
        by_cases hlt : j < k
        · have hkp : j < ps.length := by rw [H.out.1]; exact hlt
          obtain ⟨A2, c2, x2, hx2⟩ : ∃ A2 c2 x2, ps[j] = (A2, c2, x2) := ⟨_, _, _, rfl⟩
          have hp := (H.out.2.1.below HR.out.2.2).2 j hkp
          rw [hx2] at hp
          simp only at hp
          obtain ⟨m, hm⟩ : ∃ m, x2.length = m := ⟨_, rfl⟩
          rw [hm] at hp
          have hs : lenP (ps.take (j + 1)) = N + m := by rw [lenP_snoc _ _ hkp, ← HR.out.2.1, hx2, ← hm]
          have hb := H.out.2.2 (j + 1)
          rw [hs] at hb
          obtain ⟨hc2, hp2⟩ := hp
          have HP := Lib.hid (show _ ∧ _ ∧ _ from ⟨hp2, hm, show x2 = ps[j].2.2 by rw [hx2]⟩)
          clear hs hx2 hm hp2
          go_wp2_with (at_builtin; refine app_bytes rfl (.tmp 31) (.tmp 32) 22 rfl w.heap.size 5 i0 (.int .u8 0) Tryd.underlying22 hi hz0 hz1 hz2 rfl (.slice B N cB) N _ rfl HR.out.1 A2 c2 x2 _ (by rw [HP.out.2.1]; rfl) HP.out.1.1 HP.out.1.2 (by unfold maxLen; rw [HP.out.2.1]; omega) (by rw [HP.out.2.1]; omega) HR.out.2.2.size ?_; rw [HP.out.2.1]; intro v3 w3 ho hg; have H3 := Lib.hid (HR.out.next hkp HP.out.2.2 HP.out.2.1.symm ho hg); clear ho hg)
          go_roundw
          case rel => exact ⟨j + 1, N + m, by omega, by go_num, H3⟩
          case measure => simp [intOf]; omega
        · obtain rfl : j = k := by omega
          have HF := Lib.hid (HR.out.done (by rw [H.out.1]; exact Nat.le_refl _))
          have HN := Lib.hid (show N = lenP ps from HR.out.2.1.trans HT.out)
          clear HR hlt hj
          go_wp2_with fail
          go_ret
          rw [← HN.out]
          exact HF.out
end Go.Proofs.YtaikoeoabgkglaaDoor
