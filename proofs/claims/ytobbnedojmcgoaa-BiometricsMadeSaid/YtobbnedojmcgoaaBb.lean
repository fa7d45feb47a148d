/-
  What is proved here: the makers' dice and what they stand on (parts of texts of earlier layers).
-/
import Derived.Test.YtobbnedojmcgoaaRows
import Derived.Test.YtobbnedojmcgoaaKit
import Derived.Test.YtobbnedojmcgoaaStr
import Derived.Test.YtobbnedojmcgoaaFo
import Derived.Test.YtobbnedojmcgoaaRv
import Derived.Test.YtobbnedojmcgoaaRs2
import Derived.Test.YtobbnedojmcgoaaQb
import Derived.Test.YtobbnedojmcgoaaN4
import Derived.Test.YtobbnedojmcgoaaRsb
import Derived.Test.YtobbnedojmcgoaaLists
import Derived.Test.YtobbnedojmcgoaaChk
import Derived.BigQuiet
import Derived.Lib.Strings
import Derived.Lib.Slices
import Derived.Lib.Small
import Derived.Lib.Walk
import Derived.Lib.BitFns
import Derived.Deep.RegionWith
import Derived.Laws.ResultCell
import Derived.Laws.Rows
import Derived.ProofKit
import Derived.OpenShut
import Derived.ShutString
import Derived.ChangeOld
import Derived.SizedLaws
import Derived.Deep.CutRange
import Derived.Laws.AppendOwnNone
import Derived.Deep.RegionLaw
import Derived.Deep.AppendLies
import Derived.Lib.AppendZerosOnto
namespace Go.Proofs.Ytobbnedojmcgoaa
section
open Go.RowKit
set_option linter.unusedVariables false
/-- the conversion of bytes to a string, in a world that was drawn from -/
theorem conv_drew {w : World} {p : Nat → Prop} {A : Option Addr} {x : List UInt8} (h : SeesP w p A (Us x)) (c : Nat) (q : Nat) : (convert 25 9 (.slice A x.length c)).run Try.prog (w.drewN q) = .ok (.string (S x)) (w.drewN q) := by
  rcases h with h | ⟨b, off, e, hp, hc⟩
  · exact run_conv (w.drewN q) 0 A x (.inl h) x.length c rfl
  · exact run_conv (w.drewN q) (b + 1) A x (.inr ⟨b, off, e, by omega, hc⟩) x.length c rfl

set_option maxHeartbeats 2000000 in
theorem same_yes (n : Nat) (hn : n ≤ 1125899906842624) : ∀ (f : F) (A1 A2 : Option Addr) (c1 c2 : Nat) (w : World) (p1 p2 : Nat → Prop), f.size < n → f.ok → SeesF w p1 A1 f → SeesF w p2 A2 f →
    Calls Try.prog 15 #[.slice A1 f.len c1, .slice A2 f.len c2] w fun e w' => e = .returned (.bool true) ∧ ∃ q, w' = w.drewN q := by
  induction n with
  | zero => intro f A1 A2 c1 c2 w p1 p2 h; omega
  | succ n ih =>
    intro f A1 A2 c1 c2 w p1 p2 hsz hok hs1 hs2
    obtain ⟨cs1, s1, k1⟩ := hs1
    obtain ⟨cs2, s2, k2⟩ := hs2
    have hlen := f.len_le_size
    have IH := Lib.hid (ih (by omega))
    have H0 := Lib.hid (show f.ok ∧ HoldsP w p1 f cs1 ∧ HoldsP w p2 f cs2 from ⟨hok, k1, k2⟩)
    have HS := Lib.hid (show SeesP w p1 A1 cs1 ∧ SeesP w p2 A2 cs2 from ⟨s1, s2⟩)
    have hne : ((f.len : Int) != (f.len : Int)) = false := by simp
    clear hok k1 k2 s1 s2 ih
    go_enter Try.func15, Try.ntmps15
    go_wp2_with fail
    go_loopw [5] (fun i wr => ∃ (j d : Nat) (g : F), j + g.len = f.len ∧ i = .int .i64 j ∧ wr = w.drewN d ∧ Hid (g.ok ∧ g.size ≤ f.size ∧ HoldsP w p1 g (cs1.drop (3 * j)) ∧ HoldsP w p2 g (cs2.drop (3 * j)))) (fun i _ => f.len - (intOf i).toNat)
    case atStart => exact ⟨0, 0, f, by omega, rfl, rfl, Lib.hid ⟨H0.out.1, Nat.le_refl _, H0.out.2.1, H0.out.2.2⟩⟩
    case round =>
      clear H0
      obtain ⟨j, d, g, hj, rfl, hw, HG⟩ := hrel
      have HW := Lib.hid hw
      cases g with
      | nil =>
        have hj2 : j = f.len := hj
        clear hj HG hw
        go_wp2_with fail
        go_ret
        exact ⟨rfl, d, HW.out⟩
      | cons t v kk r =>
        have hj1 : j + r.len + 1 = f.len := hj
        have hgs : kk.size + r.size + 1 ≤ f.size := HG.out.2.1
        obtain ⟨b1, o1, Av1, cv1, Ak1, ck1, rfl, hp1, x0, x1, x2, sv1, sk1, r1, _⟩ := node_at HS.out.1 HG.out.2.2.1
        obtain ⟨b2, o2, Av2, cv2, Ak2, ck2, rfl, hp2, y0, y1, y2, sv2, sk2, r2, _⟩ := node_at HS.out.2 HG.out.2.2.2
        have HR := Lib.hid (show r.ok ∧ HoldsP w p1 r (cs1.drop (3 * (j + 1))) ∧ HoldsP w p2 r (cs2.drop (3 * (j + 1))) from ⟨HG.out.1.2.2.2, r1, r2⟩)
        have HSv := Lib.hid (show SeesP w p1 Av1 (Us v) ∧ SeesP w p2 Av2 (Us v) from ⟨sv1, sv2⟩)
        have HI := Lib.hid (fun q => IH.out kk Ak1 Ak2 ck1 ck2 (w.drewN q) p1 p2 (by omega) HG.out.1.2.2.1 (sk1.keep fun _ _ => rfl) (sk2.keep fun _ _ => rfl))
        have hlt : j < f.len := by omega
        have q0 : wr.cell? ⟨b1, o1 + j * 3, none⟩ = some (.int .i64 t) := by rw [hw]; exact x0
        have q1 : wr.cell? ⟨b1, o1 + j * 3 + 1, none⟩ = some (.slice Av1 v.length cv1) := by rw [hw]; exact x1
        have q2 : wr.cell? ⟨b1, o1 + j * 3 + 2, none⟩ = some (.slice Ak1 kk.len ck1) := by rw [hw]; exact x2
        have z0 : wr.cell? ⟨b2, o2 + j * 3, none⟩ = some (.int .i64 t) := by rw [hw]; exact y0
        have z1 : wr.cell? ⟨b2, o2 + j * 3 + 1, none⟩ = some (.slice Av2 v.length cv2) := by rw [hw]; exact y1
        have z2 : wr.cell? ⟨b2, o2 + j * 3 + 2, none⟩ = some (.slice Ak2 kk.len ck2) := by rw [hw]; exact y2
        obtain ⟨sx, hsx⟩ : ∃ sx, sx = S v := ⟨_, rfl⟩
        have v1 : ∀ q, (convert 25 9 (.slice Av1 v.length cv1)).run Try.prog (wr.drewN q) = .ok (.string sx) (wr.drewN q) := fun q => by rw [hw, hsx, World.drewN_drewN]; exact conv_drew HSv.out.1 cv1 _
        have v2 : ∀ q, (convert 25 9 (.slice Av2 v.length cv2)).run Try.prog (wr.drewN q) = .ok (.string sx) (wr.drewN q) := fun q => by rw [hw, hsx, World.drewN_drewN]; exact conv_drew HSv.out.2 cv2 _
        have HC := Lib.hid (show ∀ q, Calls Try.prog 15 #[.slice Ak1 kk.len ck1, .slice Ak2 kk.len ck2] (wr.drewN q) fun e w' => e = .returned (.bool true) ∧ ∃ q2, w' = (wr.drewN q).drewN q2 from fun q => by rw [hw, World.drewN_drewN]; exact HI.out _)
        have e1 : (t != t) = false := by simp
        have e2 : (sx.toList != sx.toList) = false := by simp
        clear hj HG x0 x1 x2 y0 y1 y2 sv1 sv2 sk1 sk2 r1 r2 hw hsx HI
        go_wp2_with fail
        go_quiet ((go_at_call 15; exact Calls.quiet_of (HC.out _)))
        go_wp2_with fail
        go_roundw
        case rel => exact ⟨j + 1, d + nq, r, by omega, by go_num, by rw [HW.out, World.drewN_drewN], Lib.hid ⟨HR.out.1, by omega, HR.out.2.1, HR.out.2.2⟩⟩
        case measure => simp [intOf]; omega

end
section
open Go.RowKit
def dayB (n : Int) : Bool := decide (0 ≤ n) && decide (n ≤ 73048)
theorem dayB_yes {n : Int} (h : dayB n = true) : 0 ≤ n ∧ n ≤ 73048 := by simpa [dayB] using h
theorem dayB_no {n : Int} (h : dayB n = false) : n < 0 ∨ 73048 < n := by
  by_cases h0 : 0 ≤ n
  · right; simpa [dayB, h0] using h
  · left; omega
theorem dayB_mk {n : Int} (a : 0 ≤ n) (b : n ≤ 73048) : dayB n = true := by simp [dayB, a, b]
theorem day_valid (n : Int) (w : World) : Calls Try.prog 28 #[.int .i64 n] w fun e w' => e = .returned (.bool (dayB n)) ∧ w' = w := by
  by_cases h : 0 ≤ n
  · have d : decide (0 ≤ n) = true := by simpa using h
    have hv : dayB n = decide (n ≤ 73048) := by unfold dayB; rw [d, Bool.true_and]
    rw [hv]; clear h hv
    go_enter Try.func28, Try.ntmps28
    go_wp2
    go_ret
    exact ⟨rfl, rfl⟩
  · have d : decide (0 ≤ n) = false := by simpa using h
    have hv : dayB n = false := by unfold dayB; rw [d, Bool.false_and]
    rw [hv]; clear h hv
    go_enter Try.func28, Try.ntmps28
    go_wp2
    go_ret
    exact ⟨rfl, rfl⟩

end
section
open Go.RowKit
theorem rd_valid (n : Int) (w : World) : Calls Try.prog 29 #[.int .i64 n] w fun e w' => e = .returned (.bool (dayB n)) ∧ w' = w := by
  by_cases h : 0 ≤ n
  · have d : decide (0 ≤ n) = true := by simpa using h
    have hv : dayB n = decide (n ≤ 73048) := by unfold dayB; rw [d, Bool.true_and]
    rw [hv]; clear h hv
    go_enter Try.func29, Try.ntmps29
    go_wp2
    go_ret
    exact ⟨rfl, rfl⟩
  · have d : decide (0 ≤ n) = false := by simpa using h
    have hv : dayB n = false := by unfold dayB; rw [d, Bool.false_and]
    rw [hv]; clear h hv
    go_enter Try.func29, Try.ntmps29
    go_wp2
    go_ret
    exact ⟨rfl, rfl⟩

end
section
open Go.RowKit
end
section
open Go.RowKit
end
section
open Go.RowKit
theorem info_u8b : (Try.prog.info? 5).map (fun i => (i.zero, i.size, i.bytes)) = some (some (.int .u8 0), 1, 1) := by kernel_rfl

theorem one_cell1 (z : Int) : ∀ u ∈ [Value.int .u8 z], u.oneCell' = true := by
  intro u hu
  simp only [List.mem_singleton] at hu
  subst hu
  rfl
theorem grown_trans {a b c : World} {g : Nat} (h : a.grownBy b (some g)) (k : b.grownBy c (some g)) : a.grownBy c (some g) := by
  obtain ⟨h1, h2, h3, h4, h5⟩ := h
  obtain ⟨k1, k2, k3, k4, k5⟩ := k
  exact ⟨k1.trans h1, k2.trans h2, k3.trans h3, Nat.le_trans h4 k4, fun i hi hn => (k5 i (Nat.lt_of_lt_of_le hi h4) hn).trans (h5 i hi hn)⟩
theorem grown_below {a b : World} {row : Option Nat} (h : Below a.heap.size a b) : a.grownBy b row :=
  ⟨h.os, h.tape, h.output, h.size, fun i hi _ => h.block i hi⟩
theorem grown_alloc (a : World) (o : Obj) (row : Option Nat) : a.grownBy (a.alloc o) row := grown_below ((Below.refl _ _).alloc (Nat.le_refl _) o)

end
section
open Go.RowKit
theorem grown_cell {a b : World} {g : Nat} (h : a.grownBy b (some g)) {p : Addr} (h1 : p.block < a.heap.size) (h2 : p.block ≠ g) : b.cell? p = a.cell? p :=
  by
  obtain ⟨_, _, _, _, h5⟩ := h
  exact World.cell?_of_block (w := a) (h5 p.block h1 (by simpa using fun e => h2 e))

section
variable {w0 w w' : World} {B g k k' cap N : Nat} {l l' : List UInt8} {a b c : Value}
end
end
section
open Go.RowKit
end
section
open Go.RowKit
theorem block_set {w : World} {b i : Nat} {cs : Array Value} {t : TypeId} (h : w.heap[b]? = some (.cells cs t (0, 0))) (u : Value) : (w.setCell ⟨b, i, none⟩ u).heap[b]? = some (.cells (cs.setIfInBounds i u) t (0, 0)) := by
  have hlt := lt_of_block h
  have h' : w.heap[b] = .cells cs t (0, 0) := by simpa [Array.getElem?_eq_getElem hlt] using h
  show (w.heap.modify b _)[b]? = _
  rw [Array.getElem?_eq_getElem (by simpa using hlt), Array.getElem_modify_self, h']
  rfl
theorem block_alloc {w : World} {b : Nat} {o : Obj} (h : w.heap[b]? = some o) (o2 : Obj) : (w.alloc o2).heap[b]? = some o := by
  rw [Below.heap_alloc w o2 b (lt_of_block h)]; exact h
theorem block_next (w : World) (o o2 : Obj) : ((w.alloc o).alloc o2).heap[w.heap.size + 1]? = some o2 := by
  have := heap_alloc_new (w.alloc o) o2
  simpa using this

end
section
open Go.RowKit
end
section
open Go.RowKit
def newB (w w' : World) (b : Nat) : Prop := w.heap.size ≤ b ∧ b < w'.heap.size
end
section
open Go.RowKit
theorem info_node : (Try.prog.info? 53).map (fun i => (i.zero, i.size, i.bytes)) = some (some (.agg #[.int .i64 0, .slice none 0 0, .slice none 0 0]), 3, 56) := by kernel_rfl

/-- the row v (of objects) holds the objects f; what they point to lies in blocks since w, not in the row's own -/
def Held (w wr : World) (v : Value) (f : F) : Prop := ∃ cs, wr.ownsRow w.heap.size 53 3 v f.len cs ∧ HoldsP wr (fun b => newB w wr b ∧ v.ownBlock ≠ some b) f cs
theorem Held.start (w wr : World) : Held w wr (.slice none 0 0) .nil := ⟨[], ⟨rfl, .inl ⟨rfl, rfl⟩⟩, rfl⟩
theorem own_size3 {w : World} {base : Nat} {e : TypeId} {v : Value} {n : Nat} {xs : List Value} (h : w.ownsRow base e 3 v n xs) : v.ownBlock = none ∨ ∃ g, v.ownBlock = some g ∧ base ≤ g ∧ g < w.heap.size := by
  rcases h.2 with ⟨rfl, _⟩ | ⟨g, cap, cur, rfl, hb, hh, _⟩
  · left; rfl
  · right; exact ⟨g, rfl, hb, lt_of_block hh⟩
theorem Held.grown {w wr w' : World} {R : Nat} {v : Value} {f : F} (h : Held w wr v f) (hR : R < w.heap.size) (hg : wr.grownBy w' (some R)) : Held w w' v f := by
  obtain ⟨cs, h1, h2⟩ := h
  refine ⟨cs, own_far h1 hg ?_, ?_⟩
  · rcases own_size3 h1 with e | ⟨g, e, hb, _⟩
    · rw [e]; simp
    · rw [e]; intro h; injection h with h; omega
  · refine HoldsP.imp (fun _ hb => ⟨⟨hb.1.1, Nat.lt_of_lt_of_le hb.1.2 hg.size⟩, hb.2⟩) (HoldsP.keep (fun _ hq => grown_cell hg hq.1.2 (by have := hq.1.1; omega)) h2)
theorem Held.slice {w wr : World} {v : Value} {f : F} (h : Held w wr v f) : ∃ A c, v = .slice A f.len c ∧ SeesF wr (newB w wr) A f := by
  obtain ⟨cs, h1, h2⟩ := h
  rcases h1.2 with ⟨rfl, h0⟩ | ⟨g, cap, cur, rfl, hb, hh, hn, hm, hs, ht⟩
  · have : f = .nil := F.len_zero h0
    subst this
    exact ⟨none, 0, rfl, SeesF.nil_⟩
  · refine ⟨_, cap, rfl, cs, .inr ⟨g, 0, rfl, ⟨hb, lt_of_block hh⟩, fun j hj => ?_⟩, HoldsP.imp (fun _ hb => hb.1) h2⟩
    have hl := h1.1
    rw [Nat.zero_add, cell_of_row wr g j cur _ (0, 0) hh, ← ht, List.getElem?_take, if_pos (by omega), Array.getElem?_toList]
theorem Held.carry {w wr w' : World} {R : Nat} {v : Value} {f : F} {cs : List Value} (hR : R < w.heap.size) (hg : wr.grownBy w' (some R)) (h1 : wr.ownsRow w.heap.size 53 3 v f.len cs) (h2 : HoldsP wr (fun b => newB w wr b ∧ v.ownBlock ≠ some b) f cs) :
    w'.ownsRow w.heap.size 53 3 v f.len cs ∧ HoldsP w' (fun b => newB w wr b ∧ v.ownBlock ≠ some b) f cs := by
  refine ⟨own_far h1 hg ?_, HoldsP.keep (fun _ hq => grown_cell hg hq.1.2 (by have := hq.1.1; omega)) h2⟩
  rcases own_size3 h1 with e | ⟨g, e, hb, _⟩
  · rw [e]; simp
  · rw [e]; intro h; injection h with h; omega
/-- one object more -/
theorem Held.snoc {w wr w1 wa w2 : World} {v : Value} {f : F} {t : Int} {x : List UInt8} {k : F} {Av Ak : Option Addr} {cv ck g cap : Nat} (h01 : wr.heap.size ≤ w1.heap.size) (ha : Below w1.heap.size w1 wa)
    (hn0 : Av = none → cv = 0) (hv : SeesP w1 (newB wr w1) Av (Us x)) (hk : SeesF w1 (newB wr w1) Ak k) (hww : w.heap.size ≤ wr.heap.size)
    (hold : v.ownBlock = none ∨ ∃ g, v.ownBlock = some g ∧ w.heap.size ≤ g ∧ g < wr.heap.size) (cs : List Value) (hc2 : HoldsP w1 (fun b => newB w wr b ∧ v.ownBlock ≠ some b) f cs)
    (ho : w2.ownsRow w.heap.size 53 3 (.slice (some ⟨g, 0, none⟩) (f.len + 1) cap) (f.len + 1) (cs ++ [.int .i64 t, .slice Av x.length cv, .slice Ak k.len ck])) (hg : wa.grownBy w2 v.ownBlock)
    (hl : v.ownBlock = some g ∨ g = wa.heap.size) : Held w w2 (.slice (some ⟨g, 0, none⟩) (f.len + 1) cap) (f.app (.cons t x k .nil)) := by
  have keep : ∀ q : Addr, q.block < w1.heap.size → v.ownBlock ≠ some q.block → w2.cell? q = w1.cell? q := fun q h1 h2 =>
    (World.cell?_of_block (w := wa) (hg.block q.block (Nat.lt_of_lt_of_le h1 ha.size) (fun e => h2 e.symm))).trans (ha.cell h1)
  have hsz : w1.heap.size ≤ w2.heap.size := Nat.le_trans ha.size hg.size
  have hwa := ha.size
  refine ⟨_, by rw [F.len_app]; exact ho, HoldsP.app ?_ ?_⟩
  · refine HoldsP.imp ?_ (HoldsP.keep (w' := w2) (fun q hq => keep q (Nat.lt_of_lt_of_le hq.1.2 h01) hq.2) hc2)
    intro b hb
    have h4 := hb.1.2
    refine ⟨⟨hb.1.1, by omega⟩, ?_⟩
    intro e
    injection e with e
    simp only at e
    rcases hl with h3 | h3
    · exact hb.2 (h3.trans (by rw [e]))
    · omega
  · have hp : ∀ b, newB wr w1 b → newB w w2 b ∧ (Value.slice (some ⟨g, 0, none⟩) (f.len + 1) cap).ownBlock ≠ some b := by
      intro b hb
      have h5 := hb.1
      have h6 := hb.2
      refine ⟨⟨by omega, by omega⟩, ?_⟩
      intro e
      injection e with e
      simp only at e
      rcases hl with h3 | h3
      · rcases hold with h4 | ⟨g2, h4, _, h7⟩
        · rw [h4] at h3; cases h3
        · rw [h4] at h3; injection h3 with h3; omega
      · omega
    have kp : ∀ q : Addr, newB wr w1 q.block → w2.cell? q = w1.cell? q := by
      intro q hq
      refine keep q hq.2 ?_
      have h5 := hq.1
      rcases hold with h4 | ⟨g2, h4, _, h7⟩
      · rw [h4]; simp
      · rw [h4]; intro e; injection e with e; omega
    obtain ⟨ks, hk1, hk2⟩ := hk
    exact ⟨Av, cv, Ak, ck, ks, [], rfl, hn0, (hv.keep kp).imp hp, (hk1.keep kp).imp hp, HoldsP.imp hp (HoldsP.keep kp hk2), rfl⟩

theorem node_cells (t : Int) (Av : Option Addr) (lv cv : Nat) (Ak : Option Addr) (lk ck : Nat) : ∀ u ∈ [Value.int .i64 t, .slice Av lv cv, .slice Ak lk ck], u.oneCell' = true := by
  intro u hu
  simp only [List.mem_cons, List.not_mem_nil, or_false] at hu
  rcases hu with rfl | rfl | rfl <;> rfl

end
section
open Go.RowKit
set_option linter.unusedVariables false
theorem made_mod (n m : Int) (lo : -9223372036854775808 ≤ n) (hi : n ≤ 9223372036854775807) (hm : 0 < m) (hm2 : m ≤ 4611686018427387903) (w : World) :
    Calls Try.prog 41 #[.int .i64 n, .int .i64 m] w fun e w' => e = .returned (.int .i64 (n % m)) ∧ w' = w := by
  have hne : m ≠ 0 := by omega
  have ht := Int.tmod_eq_emod (a := n) (b := m)
  have hr0 := Int.emod_nonneg n hne
  have hr1 := Int.emod_lt_of_pos n hm
  by_cases h : n.tmod m < 0
  · have e : n.tmod m + m = n % m := by
      split at ht
      · omega
      · have : ((m.natAbs : Int)) = m := by omega
        omega
    have lt : -m ≤ n.tmod m := by rw [← e] at hr0; omega
    have E := Lib.hid e
    have HM := Lib.hid hm2
    clear ht e
    go_enter Try.func41, Try.ntmps41
    go_wp2_with fail
    go_ret
    exact ⟨by rw [← E.out]; rfl, rfl⟩
  · have e : n.tmod m = n % m := by
      split at ht
      · omega
      · have : ((m.natAbs : Int)) = m := by omega
        omega
    have E := Lib.hid e
    clear ht e
    go_enter Try.func41, Try.ntmps41
    go_wp2_with fail
    go_ret
    exact ⟨by rw [← E.out]; rfl, rfl⟩

end
section
open Go.RowKit
set_option linter.unusedVariables false
/-- dice at block D -/
def DiceOk (w : World) (D : Nat) : Prop := ∃ (AL : Option Addr) (cL k : Nat) (ls : List Int), w.heap[D]? = some (.cells #[.slice AL ls.length cL, .int .i64 (k : Int)] 66 (0, 0)) ∧
  k ≤ ls.length ∧ ls.length ≤ 140737488351232 ∧ (∀ x ∈ ls, -9223372036854775808 ≤ x ∧ x ≤ 9223372036854775807) ∧ SeesP w (· < D) AL (ls.map (Value.int .i64))
theorem DiceOk.lt {w : World} {D : Nat} (h : DiceOk w D) : D < w.heap.size := by
  obtain ⟨_, _, _, _, h1, _⟩ := h
  exact lt_of_block h1
/-- carried over whatever leaves the blocks up to D as they were -/
theorem DiceOk.keep {w w' : World} {D : Nat} (h : DiceOk w D) (hk : ∀ k, k ≤ D → w'.heap[k]? = w.heap[k]?) : DiceOk w' D := by
  obtain ⟨AL, cL, k, ls, h1, h2, h3, h4, h5⟩ := h
  exact ⟨AL, cL, k, ls, (hk D (Nat.le_refl _)).trans h1, h2, h3, h4, h5.keep fun q hq => World.cell?_of_block (hk _ (Nat.le_of_lt hq))⟩
theorem DiceOk.below {w w' : World} {D : Nat} (h : DiceOk w D) (hb : Below w.heap.size w w') : DiceOk w' D :=
  h.keep fun k hk => hb.block k (Nat.lt_of_le_of_lt hk h.lt)
theorem DiceOk.grown {w w' : World} {D : Nat} {row : Option Nat} (h : DiceOk w D) (hg : w.grownBy w' row) (hr : ∀ g, row = some g → D < g) : DiceOk w' D :=
  h.keep fun k hk => hg.block k (Nat.lt_of_le_of_lt hk h.lt) (by intro e; have := hr k e.symm; omega)

/-- a number below n -/
def NextIs (w : World) (D n : Nat) (e : Ending) (w' : World) : Prop := ∃ r : Nat, r < n ∧ e = .returned (.int .i64 (r : Int)) ∧ w.grownBy w' (some D) ∧ DiceOk w' D

set_option maxHeartbeats 1000000 in
theorem dice_next (D n : Nat) (w : World) (hn : 0 < n) (hn2 : n ≤ 4611686018427387903) (h : DiceOk w D) :
    Calls Try.prog 23 #[.pointer (some ⟨D, 0, none⟩), .int .i64 (n : Int)] w (NextIs w D n) := by
  obtain ⟨AL, cL, k, ls, h1, h2, h3, h4, h5⟩ := h
  have c0 := cell_of_row w D 0 _ _ _ h1
  have c1 := cell_of_row w D 1 _ _ _ h1
  have f1 := frozen_of_row w D 1 _ _ h1
  simp only [List.getElem?_toArray, List.getElem?_cons_succ, List.getElem?_cons_zero] at c0 c1
  by_cases hlt : k < ls.length
  · obtain ⟨x, hx⟩ : ∃ x, x = ls[k] := ⟨_, rfl⟩
    have hxr := h4 x (by rw [hx]; exact List.getElem_mem hlt)
    obtain ⟨b, o, hA, hb, hc⟩ : ∃ b o, AL = some ⟨b, o, none⟩ ∧ b < D ∧ w.cell? ⟨b, o + k, none⟩ = some (.int .i64 x) := by
      rcases h5 with h | ⟨b, o, e, hb, hc⟩
      · have : ls = [] := by simpa using h
        subst this; simp at hlt
      · exact ⟨b, o, e, hb, (hc k (by simpa using hlt)).trans (by simp [hlt, hx])⟩
    have hne : b ≠ D := by omega
    have HS := Lib.hid h5
    subst hA
    obtain ⟨r, hr⟩ : ∃ r : Nat, x % (n : Int) = (r : Int) := ⟨(x % (n : Int)).toNat, by have := Int.emod_nonneg x (show (n : Int) ≠ 0 by omega); omega⟩
    have hrn : r < n := by have := Int.emod_lt_of_pos x (show (0 : Int) < n by omega); omega
    have hM : ∀ u, Calls Try.prog 41 #[.int .i64 x, .int .i64 (n : Int)] u fun e w' => e = .returned (.int .i64 (r : Int)) ∧ ∃ q, w' = u.drewN q := fun u => by
      have := made_mod x (n : Int) hxr.1 hxr.2 (by omega) (by omega) u
      rw [hr] at this
      exact this.mono fun e w' ⟨h1, h2⟩ => ⟨h1, 0, h2⟩
    have HM := Lib.hid hM
    have H1 := Lib.hid (show _ ∧ (∀ x ∈ ls, -9223372036854775808 ≤ x ∧ x ≤ 9223372036854775807) from ⟨h1, h4⟩)
    clear hM hx hr h1 h4 h5 hxr
    go_enter Try.func23, Try.ntmps23
    go_wp2_with fail
    go_quiet (fail)
    go_wp2_with fail
    obtain ⟨W, hW⟩ : ∃ W, W = (w.drewN nq).setCell ⟨D, 1, none⟩ (.int .i64 ((k : Int) + 1)) := ⟨_, rfl⟩
    have e0 : W.cell? ⟨D, 0, none⟩ = some (.slice (some ⟨b, o, none⟩) ls.length cL) := by rw [hW, cell_of_row _ D 0 _ _ _ (block_set (w := w.drewN nq) (i := 1) H1.out.1 _)]; rfl
    have e1 : W.cell? ⟨D, 1, none⟩ = some (.int .i64 ((k : Int) + 1)) := by rw [hW, cell_of_row _ D 1 _ _ _ (block_set (w := w.drewN nq) (i := 1) H1.out.1 _)]; rfl
    have e2 : W.cell? ⟨b, o + k, none⟩ = some (.int .i64 x) := by rw [hW]; exact (World.cell?_of_block (Below.heap_setCell _ _ _ b hne)).trans hc
    have hg : w.grownBy W (some D) := by
      rw [hW]
      exact ⟨rfl, rfl, rfl, Nat.le_of_eq (by simp), fun j _ hj => Below.heap_setCell (w.drewN nq) _ _ j (by simpa using fun e => hj (by rw [e]))⟩
    have hd : DiceOk W D := ⟨some ⟨b, o, none⟩, cL, k + 1, ls, by rw [hW]; exact block_set (w := w.drewN nq) (i := 1) H1.out.1 _, by omega, h3, H1.out.2, HS.out.keep fun q hq => grown_cell hg (Nat.lt_trans hq (lt_of_block H1.out.1)) (Nat.ne_of_lt hq)⟩
    have HF := Lib.hid (show ∀ q, NextIs w D n (.returned (.int .i64 (r : Int))) (W.drewN q) from fun q => ⟨r, hrn, rfl, ⟨hg.os, hg.tape, hg.output, hg.size, hg.block⟩, hd.keep fun _ _ => rfl⟩)
    rw [← hW]
    clear hW hg hd c0 c1 f1 hc HS H1
    go_quiet ((go_at_call 41; exact Calls.quiet_of (HM.out _)))
    go_wp2_with fail
    go_ret
    exact HF.out _
  · have HF := Lib.hid (show DiceOk w D from ⟨AL, cL, k, ls, h1, h2, h3, h4, h5⟩)
    clear h1 h4 h5
    go_enter Try.func23, Try.ntmps23
    go_wp2_with fail
    go_quiet (fail)
    go_wp2_with fail
    go_ret
    exact ⟨0, hn, rfl, ⟨rfl, rfl, rfl, Nat.le_refl _, fun _ _ _ => rfl⟩, HF.out.keep fun _ _ => rfl⟩

def OneIs (w : World) (D : Nat) (e : Ending) (w' : World) : Prop := ∃ q : Bool, e = .returned (.bool q) ∧ w.grownBy w' (some D) ∧ DiceOk w' D
theorem dice_one (D n : Nat) (w : World) (hn : 0 < n) (hn2 : n ≤ 4611686018427387903) (h : DiceOk w D) :
    Calls Try.prog 24 #[.pointer (some ⟨D, 0, none⟩), .int .i64 (n : Int)] w (OneIs w D) := by
  have HN := Lib.hid (dice_next D n w hn hn2 h)
  clear h
  go_enter Try.func24, Try.ntmps24
  go_wp2_with fail
  refine HN.out.mono ?_
  rintro e w1 ⟨r, hr, rfl, hg, hd⟩
  have HF := Lib.hid (show _ ∧ _ from ⟨hg, hd⟩)
  clear hg hd
  go_wp2_with fail
  go_ret
  exact ⟨_, rfl, HF.out.1, HF.out.2⟩

end
section
open Go.RowKit
set_option linter.unusedVariables false
/-- a row that was made since: all else but the dice is as it was -/
theorem grown_row {w a b : World} {D : Nat} {row : Option Nat} (h : w.grownBy a (some D)) (hg : a.grownBy b row) (hr : ∀ g, row = some g → w.heap.size ≤ g) : w.grownBy b (some D) := by
  refine ⟨hg.os.trans h.os, hg.tape.trans h.tape, hg.output.trans h.output, Nat.le_trans h.size hg.size, fun k hk hk2 => ?_⟩
  refine (hg.block k (Nat.lt_of_lt_of_le hk h.size) ?_).trans (h.block k hk hk2)
  intro e
  have := hr k e.symm
  omega

def BytesIs (w : World) (D most : Nat) (e : Ending) (w' : World) : Prop := ∃ (v : List UInt8) (A : Option Addr) (c : Nat), e = .returned (.slice A v.length c) ∧ v.length ≤ most ∧ (A = none → c = 0) ∧ v.length ≤ c ∧ SeesP w' (newB w w') A (Us v) ∧ w.grownBy w' (some D) ∧ DiceOk w' D
/-- what Bytes' loop keeps -/
def BRel (w : World) (D : Nat) (a : Value) (k : Nat) (wr : World) : Prop := (∃ l : List UInt8, l.length = k ∧ wr.ownsRow w.heap.size 5 1 a k (Us l)) ∧ w.grownBy wr (some D) ∧ DiceOk wr D
theorem byte_of_mod (r : Nat) (h : r < 256) : Value.int .u8 (r : Int) = U (UInt8.ofNat r) := by
  unfold U
  rw [UInt8.toNat_ofNat']
  congr 1
  omega

set_option maxHeartbeats 1000000 in
theorem dice_bytes (D most : Nat) (w : World) (hm : most ≤ 1000) (h : DiceOk w D) :
    Calls Try.prog 48 #[.pointer (some ⟨D, 0, none⟩), .int .i64 (most : Int)] w (BytesIs w D most) := by
  obtain ⟨i0, hi, hz0, hz1, hz2⟩ := info_parts info_u8b
  have hDw := h.lt
  have hN := dice_next D (most + 1) w (by omega) (by omega) h
  have ec : ((most + 1 : Nat) : Int) = (most : Int) + 1 := by omega
  rw [ec] at hN
  have HN := Lib.hid hN
  clear hN ec h
  go_enter Try.func48, Try.ntmps48
  go_wp2_with fail
  refine HN.out.mono ?_
  rintro e w1 ⟨r, hr, rfl, hg, hd⟩
  have H1 := Lib.hid (show BRel w D (.slice none 0 0) 0 w1 from ⟨⟨[], rfl, ⟨rfl, .inl ⟨rfl, rfl⟩⟩⟩, hg, hd⟩)
  clear HN hg hd
  go_wp2_with fail
  go_loopw [5, 6] (fun a i wr => ∃ k : Nat, k ≤ r ∧ i = .int .i64 ((r : Int) - (k : Int)) ∧ Hid (BRel w D a k wr)) (fun _ i _ => (intOf i).toNat)
  case atStart => exact ⟨0, Nat.zero_le _, by go_num, H1⟩
  case round =>
    clear H1
    obtain ⟨k, hk, rfl, HB⟩ := hrel
    by_cases hlt : k < r
    · have d1 : decide ((0 : Int) < (r : Int) - (k : Int)) = true := by simp; omega
      have HN := Lib.hid (dice_next D 256 wr (by decide) (by decide) HB.out.2.2)
      go_wp2_with fail
      refine HN.out.mono ?_
      rintro e w2 ⟨x, hx, rfl, hg, hd⟩
      obtain ⟨l, hl, hown⟩ := HB.out.1
      have hown2 : w2.ownsRow w.heap.size 5 1 u5 k (Us l) := own_far hown hg (by
        rcases hown.2 with ⟨e, _⟩ | ⟨g, cap, cur, e, hb, _⟩
        · rw [e]; simp [Value.ownBlock]
        · rw [e]; simp [Value.ownBlock]; omega)
      have HG := Lib.hid (show _ ∧ _ ∧ _ from ⟨grown_trans HB.out.2.1 hg, hd, hl⟩)
      clear hown hg hd HN hl
      go_wp2_with (at_builtin; refine wpList_append_own _ rfl (.tmp 15) (.tmp 19) 25 rfl w.heap.size 5 i0 (.int .u8 0) 1 1 Try.underlying25 hi hz0 hz1 hz2 rfl (by decide) u5 k _ rfl (hown2.alloc _) ⟨w2.heap.size, 0, none⟩ 1 1 [_] rfl rfl (news_of_one _ _ _) (one_cell1 _) (by unfold maxLen; omega) (by omega) (by have := HG.out.1.size; simp; omega) ?_; intro v3 w3 ho hg3 _)
      have hrow : w3.ownsRow w.heap.size 5 1 v3 (k + 1) (Us (l ++ [UInt8.ofNat x])) := by
        rw [Us_append]
        have : Us [UInt8.ofNat x] = [Value.int .u8 (x : Int)] := by rw [byte_of_mod x hx]; rfl
        rw [this]
        exact ho
      have hgw := grown_row (grown_trans HG.out.1 (grown_alloc w2 (.cells #[.int .u8 (x : Int)] 5) (some D))) hg3 (fun g e => (hown2.lt g e).1)
      have hdd : DiceOk w3 D := (HG.out.2.1.below ((Below.refl _ _).alloc (Nat.le_refl _) (.cells #[.int .u8 (x : Int)] 5))).grown hg3 (fun g e => by have := (hown2.lt g e).1; omega)
      have HF := Lib.hid (show BRel w D v3 (k + 1) w3 from ⟨⟨_, by rw [List.length_append, HG.out.2.2]; rfl, hrow⟩, hgw, hdd⟩)
      clear hrow hgw hdd ho hg3 hown2
      go_roundw
      case rel => exact ⟨k + 1, by omega, by go_num, HF⟩
      case measure => simp [intOf]; omega
    · obtain rfl : k = r := by omega
      have d1 : decide ((0 : Int) < (k : Int) - (k : Int)) = false := by simp
      obtain ⟨l, hl, hown⟩ := HB.out.1
      have hb : BytesIs w D most (.returned u5) wr := by
        rcases hown.2 with ⟨e, h0⟩ | ⟨g, cap, cur, e, hb, hh, hn, hmx, hs, ht⟩
        · have : l = [] := List.eq_nil_of_length_eq_zero (by omega)
          subst this
          exact ⟨[], none, 0, by rw [e]; rfl, by simp, fun _ => rfl, by simp, .inl rfl, HB.out.2.1, HB.out.2.2⟩
        · refine ⟨l, some ⟨g, 0, none⟩, cap, by rw [e, hl], by omega, (fun e2 => by cases e2), by omega, Or.inr ⟨g, 0, rfl, ⟨hb, lt_of_block hh⟩, fun j hj => ?_⟩, HB.out.2.1, HB.out.2.2⟩
          rw [Us_length] at hj
          rw [Nat.zero_add, cell_of_row wr g j cur _ (0, 0) hh, ← ht, List.getElem?_take, if_pos (by omega), Array.getElem?_toList]
      have HF := Lib.hid hb
      clear hb hown HB
      go_wp2_with fail
      go_ret
      exact HF.out

end
section
open Go.RowKit
set_option linter.unusedVariables false
/-- dice that lie at the end of what was there: what they turn is new -/
theorem below_row {w a b : World} (h : Below w.heap.size w a) (hg : a.grownBy b (some w.heap.size)) : Below w.heap.size w b :=
  h.grown hg h.size (fun k e => by injection e with e; omega)
theorem made_light (A : Option Addr) (n c : Nat) (w : World) (hn : n ≤ 140737488351232) :
    Calls Try.prog 20 #[.slice A n c] w fun e w' => e = .returned (.bool (decide (n ≤ 400))) ∧ w' = w := by
  by_cases h : n ≤ 400
  · have d : decide ((n : Int) ≤ 400) = true := by simp; omega
    rw [decide_eq_true h]
    clear h
    go_enter Try.func20, Try.ntmps20
    go_wp2
    go_ret
    exact ⟨rfl, rfl⟩
  · have d : decide ((n : Int) ≤ 400) = false := by simp; omega
    rw [decide_eq_false h]
    clear h
    go_enter Try.func20, Try.ntmps20
    go_wp2
    go_ret
    exact ⟨rfl, rfl⟩

theorem made_roll (A : Option Addr) (c : Nat) (ls : List Int) (w : World) (hl : ls.length ≤ 140737488351232) (hr : ∀ x ∈ ls, -9223372036854775808 ≤ x ∧ x ≤ 9223372036854775807) (hs : SeesP w (· < w.heap.size) A (ls.map (Value.int .i64))) :
    Calls Try.prog 21 #[.slice A ls.length c] w fun e w' => e = .returned (.pointer (some ⟨w.heap.size, 0, none⟩)) ∧ DiceOk w' w.heap.size ∧ Below w.heap.size w w' := by
  have hd : DiceOk (w.alloc (.cells #[.slice A ls.length c, .int .i64 0] 66)) w.heap.size :=
    ⟨A, c, 0, ls, heap_alloc_new w _, Nat.zero_le _, hl, hr, hs.keep fun q hq => World.cell?_alloc_lt w _ q hq⟩
  have HD := Lib.hid hd
  clear hd hs hr
  go_enter Try.func21, Try.ntmps21
  go_wp2
  go_ret
  exact ⟨rfl, HD.out, (Below.refl _ _).alloc (Nat.le_refl _) _⟩

end
section
open Go.ChangeShapes Go.WideShapes Go.ChangeAt Go.RowKit
theorem own : ownKnob Try.prog.godebug = none := by kernel_rfl
theorem laidOut : laidOutB Try.prog = true := by kernel_rfl
theorem cells_u8 : Try.prog.cellsOf 5 = 1 := by kernel_rfl
theorem bytes_u8 : Try.prog.bytesOf 5 = 1 := by kernel_rfl

theorem byte_of {n : Int} (h : (Lit.int .u8 n).wf = true) : Value.int .u8 n = U (UInt8.ofNat n.toNat) := by
  have hx : 0 ≤ n ∧ n ≤ 255 := by simpa [Lit.wf, IntKind.min, IntKind.max, IntKind.signed, IntKind.bits] using h
  unfold U
  rw [UInt8.toNat_ofNat']
  congr 1
  omega

variable {H : Type} {enc : TypeId × Value → H} {W : World}
theorem open_u8s {A : Option Addr} {len cap : Nat} {d : DataW H} {p : List MemPlace} (hf : DataW.Trod enc Try.prog W 0 (fun _ => true) true 25 (.slice A len cap) d p)
    (lt : ∀ q ∈ p, q.block < W.heap.size) :
    ∃ x : List UInt8, len = x.length ∧ Sees W W.heap.size A (Us x) ∧ len ≤ cap ∧ (A = none → cap = 0) ∧ (cap = 0 ∨ ∃ es sp, d = .slice es sp ∧ es.length + sp.length = cap) := by
  obtain ⟨fuel, hf⟩ := hf
  rcases open_ints Try.underlying25 Try.underlying5 cells_u8 hf with ⟨hcs, _⟩ | ⟨a, l, c, zs, hcs, _, hl, hm, hz, hx, hcell, hwz⟩
  · simp [Value.cells] at hcs
    obtain ⟨rfl, rfl, rfl⟩ := hcs
    exact ⟨[], rfl, .inl rfl, Nat.le_refl _, fun _ => rfl, .inl rfl⟩
  · simp [Value.cells] at hcs
    obtain ⟨rfl, rfl, rfl⟩ := hcs
    simp only [Prod.mk.injEq] at hx
    obtain ⟨rfl, rfl⟩ := hx
    simp only [if_true] at hz
    refine ⟨(zs.take len).map fun n => UInt8.ofNat n.toNat, by simp; omega, ?_, hl, (fun e => by cases e), .inr ⟨_, _, rfl, by simp [lits]; omega⟩⟩
    rcases Nat.eq_zero_or_pos len with h0 | h0
    · subst h0; exact .inl (by simp [Us])
    · obtain ⟨b, off, spot⟩ := a
      have hspot : spot = none := by simpa [Addr.add] using World.cell?_spot (hcell 0 (by omega))
      subst hspot
      have hb : b < W.heap.size := lt (.cell b off) (MemPlace.mem_row.2 ⟨0, by omega, by simp⟩)
      refine .inr ⟨b, off, rfl, hb, fun j hj => ?_⟩
      have hj' : j < len := by simp [Us] at hj; omega
      have hjz : j < zs.length := by omega
      have hadd : (⟨b, off, none⟩ : Addr).add j = ⟨b, off + j, none⟩ := by unfold Addr.add; split <;> simp_all
      rw [← hadd, hcell j hjz]
      have hg : zs.getD j 0 = zs[j] := by simp [List.getD, hjz]
      rw [hg, byte_of (hwz _ (List.getElem_mem hjz))]
      simp [Us, hj', hjz]

theorem reach_u8s {ts : List TypeId} {ds : List (DataW H)} (h : (DataW.weightsEach Try.prog ts ds).all (· ≤ reachBytes) = true) {j : Nat} {d : DataW H} (ht : ts[j]? = some 25) (hd : ds[j]? = some d)
    {len cap : Nat} (hl : len ≤ cap) (hc : cap = 0 ∨ ∃ es sp, d = .slice es sp ∧ es.length + sp.length = cap) : len ≤ 140737488351232 := by
  rcases hc with rfl | ⟨es, sp, rfl, rfl⟩
  · omega
  · have := sized_slice h ht hd Try.underlying25
    rw [bytes_u8] at this
    simp only [reachBytes] at this
    omega
end
section
open Go.ChangeShapes Go.WideShapes Go.ChangeAt Go.RowKit
variable {H : Type} {enc : TypeId × Value → H} {W : World}
end
section
open Go.ChangeShapes Go.WideShapes Go.ChangeAt Go.RowKit
theorem cells_int : Try.prog.cellsOf 3 = 1 := by kernel_rfl
theorem bytes_int : Try.prog.bytesOf 3 = 8 := by kernel_rfl

variable {H : Type} {enc : TypeId × Value → H} {W : World}
theorem open_i64s {A : Option Addr} {len cap : Nat} {d : DataW H} {p : List MemPlace} (hf : DataW.Trod enc Try.prog W 0 (fun _ => true) true 30 (.slice A len cap) d p)
    (lt : ∀ q ∈ p, q.block < W.heap.size) :
    ∃ x : List Int, len = x.length ∧ SeesP W (· < W.heap.size) A (x.map (Value.int .i64)) ∧ (∀ y ∈ x, -9223372036854775808 ≤ y ∧ y ≤ 9223372036854775807) ∧ len ≤ cap ∧ (cap = 0 ∨ ∃ es sp, d = .slice es sp ∧ es.length + sp.length = cap) := by
  obtain ⟨fuel, hf⟩ := hf
  rcases open_ints Try.underlying30 Try.underlying3 cells_int hf with ⟨hcs, _⟩ | ⟨a, l, c, zs, hcs, _, hl, hm, hz, hx, hcell, hwz⟩
  · simp [Value.cells] at hcs
    obtain ⟨rfl, rfl, rfl⟩ := hcs
    exact ⟨[], rfl, .inl rfl, by simp, Nat.le_refl _, .inl rfl⟩
  · simp [Value.cells] at hcs
    obtain ⟨rfl, rfl, rfl⟩ := hcs
    simp only [Prod.mk.injEq] at hx
    obtain ⟨rfl, rfl⟩ := hx
    simp only [if_true] at hz
    refine ⟨zs.take len, by simp; omega, ?_, ?_, hl, .inr ⟨_, _, rfl, by simp [lits]; omega⟩⟩
    · rcases Nat.eq_zero_or_pos len with h0 | h0
      · subst h0; exact .inl (by simp)
      · obtain ⟨b, off, spot⟩ := a
        have hspot : spot = none := by simpa [Addr.add] using World.cell?_spot (hcell 0 (by omega))
        subst hspot
        have hb : b < W.heap.size := lt (.cell b off) (MemPlace.mem_row.2 ⟨0, by omega, by simp⟩)
        refine .inr ⟨b, off, rfl, hb, fun j hj => ?_⟩
        have hj' : j < len := by simp at hj; omega
        have hjz : j < zs.length := by omega
        have hadd : (⟨b, off, none⟩ : Addr).add j = ⟨b, off + j, none⟩ := by unfold Addr.add; split <;> simp_all
        rw [← hadd, hcell j hjz]
        have hg : zs.getD j 0 = zs[j] := by simp [List.getD, hjz]
        rw [hg]
        simp [hj', hjz]
    · intro y hy
      have := hwz y (List.mem_of_mem_take hy)
      simpa [Lit.wf, IntKind.min, IntKind.max, IntKind.signed, IntKind.bits] using this

theorem reach_i64s {ts : List TypeId} {ds : List (DataW H)} (h : (DataW.weightsEach Try.prog ts ds).all (· ≤ reachBytes) = true) {j : Nat} {d : DataW H} (ht : ts[j]? = some 30) (hd : ds[j]? = some d)
    {len cap : Nat} (hl : len ≤ cap) (hc : cap = 0 ∨ ∃ es sp, d = .slice es sp ∧ es.length + sp.length = cap) : len ≤ 140737488351232 := by
  rcases hc with rfl | ⟨es, sp, rfl, rfl⟩
  · omega
  · have := sized_slice h ht hd Try.underlying30
    rw [bytes_int] at this
    simp only [reachBytes] at this
    omega

end
section
open Go.RowKit
end
section
open Go.RowKit
set_option linter.unusedVariables false
end
section
open Go.RowKit
set_option linter.unusedVariables false
theorem grown_set {w : World} {g : Nat} (k : Nat) (u : Value) : w.grownBy (w.setCell ⟨g, k, none⟩ u) (some g) :=
  ⟨rfl, rfl, rfl, Nat.le_of_eq (by simp), fun j _ hj => Below.heap_setCell w _ _ j (by simpa using fun e => hj (by rw [e]))⟩

end
section
open Go.RowKit
set_option linter.unusedVariables false
/-- an append of bytes that lie apart, or of none, onto a row of the call's own -/
theorem app_bytes {P : Program} {w : World} {ops : Array Oper} {rest : List Oper} {o : Oper} {a : Act} {Q : Exit → Act → World → Prop} (hgd : o.guard = none) (s x : Operand) (t : TypeId)
    (ho : o.op = .call { callee := .builtin .append, args := #[s, x], argTypes := #[t, t] })
    (base : Nat) (e : TypeId) (i : TypeInfo) (z : Value) (ht : P.underlying t = some (.slice e)) (hi : P.info? e = some i) (hz : i.zero = some z)
    (hsize : i.size = 1) (hby : i.bytes = 1) (hzs : z.cells.size = 1)
    (v : Value) (n : Nat) (xs : List Value) (hs : a.eval s = v) (hown : w.ownsRow base e 1 v n xs)
    (A : Option Addr) (c : Nat) (cb : List UInt8) (p : Nat → Prop) (hx : a.eval x = .slice A cb.length c) (hn : A = none → c = 0) (hc : SeesP w p A (Us cb))
    (h63 : n + cb.length ≤ maxLen) (hbytes : n + cb.length ≤ 140737488355328) (hbase : base ≤ w.heap.size)
    (h : ∀ v' w', w'.ownsRow base e 1 v' (n + cb.length) (xs ++ Us cb) → w.grownBy w' v.ownBlock → wpList P ops Q rest (a.put o.dst v') w') : wpList P ops Q (o :: rest) a w := by
  cases A with
  | none =>
    have h1 : cb = [] := by have := congrArg List.length hc.none_nil; rw [Us_length] at this; exact List.eq_nil_of_length_eq_zero this
    have h2 := hn rfl
    subst h1 h2
    exact wpList_append_own_none hgd s x t ho base e i 1 ht hi v n xs hs hown hx (h v w (by simpa [Us] using hown) (World.grownBy.refl _ _))
  | some ad =>
    exact wpList_append_own w hgd s x t ho base e i z 1 1 ht hi hz hsize hby hzs (by decide) v n xs hs hown ad cb.length c (Us cb) hx (by rw [Us_length]; omega) (hc.src ad rfl) (Us_one _) h63 (by omega) hbase fun v' w' h1 h2 _ => h v' w' h1 h2
theorem own_len {w : World} {base n : Nat} {e : TypeId} {v : Value} {xs : List Value} (h : w.ownsRow base e 1 v n xs) : ∃ A c, v = .slice A n c := by
  rcases h.2 with ⟨rfl, rfl⟩ | ⟨g, cap, cur, rfl, _⟩
  · exact ⟨none, 0, rfl⟩
  · exact ⟨_, cap, rfl⟩
end
section
open Go.RowKit
set_option linter.unusedVariables false
theorem own_on {a b : World} {base n : Nat} {e : TypeId} {v : Value} {xs : List Value} (h : a.ownsRow base e 1 v n xs) (hb : Below a.heap.size a b) : b.ownsRow base e 1 v n xs := by
  obtain ⟨hl, h⟩ := h
  refine ⟨hl, ?_⟩
  rcases h with h | ⟨g, cap, cur, h1, h2, h3, h4⟩
  · exact .inl h
  · exact .inr ⟨g, cap, cur, h1, h2, (hb.block g (Array.getElem?_eq_some_iff.1 h3).1).trans h3, h4⟩
end
section
open Go.RowKit
set_option linter.unusedVariables false
theorem zero_cells (k : Nat) : Builtin.zeroCells #[Value.int .u8 0] k = (List.replicate k (Value.int .u8 0)).toArray := by
  apply Array.ext'
  apply List.ext_getElem
  · simp [Builtin.zeroCells]
  · intro i h1 h2
    simp [Builtin.zeroCells] at h1 ⊢
    rw [show i % 1 = 0 by omega]
    rfl
theorem run_append_own_zeros {P : Program} (w : World) (base : Nat) (t tn ty e : TypeId) (i : TypeInfo) (kq kn : IntKind) (ht : P.underlying t = some (.slice e)) (htn : P.underlying tn = some (.int kn)) (hi : P.info? e = some i) (hz : i.zero = some (.int .u8 0))
    (hsize : i.size = 1) (hby : i.bytes = 1) (v : Value) (n : Nat) (xs : List Value) (hown : w.ownsRow base e 1 v n xs) (m : Nat) (h0 : 0 < m)
    (h63 : n + m ≤ maxLen) (hbytes : n + m ≤ 140737488355328) (hbase : base ≤ w.heap.size) :
    ∃ v' w', (Builtin.append_ #[t, tn] ty #[v, .int kq m]).run P w = .ok v' w' ∧ w'.ownsRow base e 1 v' (n + m) (xs ++ List.replicate m (.int .u8 0)) ∧ w.grownBy w' v.ownBlock := by
  have hsmall : n + m ≤ 9223372036854775807 := by simp only [maxLen] at h63; omega
  have hzc : (Value.int .u8 0).cells = #[Value.int .u8 0] := rfl
  have hlen : (xs ++ List.replicate m (Value.int .u8 0)).length = (n + m) * 1 := by rw [List.length_append, hown.1, List.length_replicate]; omega
  have grown : ∀ (old : Nat), old < n + m → ∀ (row : Option Nat),
      (w.drew.alloc (.cells (xs.toArray ++ Builtin.zeroCells (Value.int .u8 0).cells m ++ Builtin.zeroCells (Value.int .u8 0).cells (grownCap w (n + m) old e - (n + m))) e)).ownsRow base e 1
        (.slice (some ⟨w.heap.size, 0, none⟩) (n + m) (grownCap w (n + m) old e)) (n + m) (xs ++ List.replicate m (.int .u8 0)) ∧
      w.grownBy (w.drew.alloc (.cells (xs.toArray ++ Builtin.zeroCells (Value.int .u8 0).cells m ++ Builtin.zeroCells (Value.int .u8 0).cells (grownCap w (n + m) old e - (n + m))) e)) row := by
    intro old ho row
    have hge := grownCap_ge w (n + m) old e
    have hcm : grownCap w (n + m) old e ≤ maxLen := grownCap_le_maxLen w (n + m) old e h63
    refine ⟨⟨hlen, .inr ⟨w.heap.size, _, _, rfl, hbase, heap_alloc_new w.drew _, hge, hcm, ?_, ?_⟩⟩, ⟨rfl, rfl, rfl, by simp, fun k hk _ => Below.heap_alloc w.drew _ k hk⟩⟩
    · simp only [Array.size_append, List.size_toArray, size_zeroCells, hzc, hown.1]
      simp
      omega
    · rw [hzc, zero_cells, zero_cells]
      simp only [Array.toList_append, List.append_assoc]
      rw [← List.append_assoc, ← hlen]
      exact List.take_left
  rcases hown.2 with ⟨rfl, rfl⟩ | ⟨g, cap, cur, rfl, hbg, hg, hnc, hcm, hcs, htake⟩
  · have hx : xs = [] := List.eq_nil_of_length_eq_zero (by simpa using hown.1)
    subst hx
    have hr := Lib.run_append_nil_zeros (P := P) w t tn ty e i (.int .u8 0) kq kn ht htn hi hz m h0 (by omega) (by omega) (by rw [hby]; omega)
    have hgr := grown 0 (by omega) (Value.ownBlock (.slice none 0 0))
    simp only [Nat.zero_add, List.nil_append, Array.empty_append] at hgr ⊢
    exact ⟨_, _, hr, hgr.1, hgr.2⟩
  · by_cases hroom : n + m ≤ cap
    · have hfit : n * 1 + (List.replicate m (Value.int .u8 0)).length ≤ cur.size := by rw [List.length_replicate, hcs]; omega
      have hst := run_storeCells_at P g (n * 1) e (List.replicate m (Value.int .u8 0)) 0 cur w hg (by simpa using hfit) (fun u hu => by rw [(List.mem_replicate.1 hu).2]; rfl)
      have hw : IntKind.i64.wrap (m : Int) = m := by rw [IntKind.wrap_i64]; omega
      have hneg : ¬ ((m : Int) < 0) := by omega
      have hm0 : m ≠ 0 := by omega
      have h48i : ¬ (281474976710656 < (m : Int)) := by omega
      have hr : (Builtin.append_ #[t, tn] ty #[.slice (some ⟨g, 0, none⟩) n cap, .int kq m]).run P w = .ok (.slice (some ⟨g, 0, none⟩) (n + m) cap) (w.setRow g (cur.toList.take n ++ List.replicate m (Value.int .u8 0) ++ cur.toList.drop (n + (List.replicate m (Value.int .u8 0)).length)).toArray) := by
        simp only [Nat.mul_one, Nat.add_zero] at hst
        simp [Builtin.append_, run_underlying ht, run_underlying htn, sizeOf, typeInfo, zeroValue, hi, hz, hsize, hby, asInt, asIntOf, hw, hneg, hm0, h48i, hroom, hzc, zero_cells, Addr.add_lit]
        rw [show (storeCells ⟨g, n, none⟩ (List.replicate m (Value.int .u8 0))).run P w = _ from hst]
        simp [Result.andThen]
      refine ⟨_, _, hr, ⟨hlen, .inr ⟨g, cap, _, rfl, hbg, setRow_heap w g cur _ e _ hg, hroom, hcm, ?_, ?_⟩⟩, ⟨rfl, rfl, rfl, by simp, fun k _ hk => setRow_other w g k _ (fun e => hk (by simp [Value.ownBlock, e]))⟩⟩
      · simp only [List.size_toArray, List.length_append, List.length_take, List.length_drop, Array.length_toList, List.length_replicate] at hfit ⊢
        omega
      · rw [Nat.mul_one] at htake
        rw [htake, ← hlen]
        exact List.take_left
    · have holds : ∀ j u, xs[j]? = some u → w.drew.cell? ((⟨g, 0, none⟩ : Addr).add j) = some u := hown.cells (g := g) rfl
      have hold := run_firstCells_some (P := P) w.drew i.size n ⟨g, 0, none⟩ n cap xs (by rw [hsize]; exact hown.1) holds
      have hr := Lib.run_append_grow_zeros (P := P) w t tn ty e i (.int .u8 0) kq kn ht htn hi hz (some ⟨g, 0, none⟩) n cap xs hold m h0 (by omega) (by omega) (by omega) (by rw [hby]; omega) (growslice_fits (by omega) (by rw [hby]; omega))
      have hgr := grown cap (by omega) (Value.ownBlock (.slice (some ⟨g, 0, none⟩) n cap))
      exact ⟨_, _, hr, hgr.1, hgr.2⟩
theorem wpList_append_zeros {P : Program} {w : World} {ops : Array Oper} {rest : List Oper} {o : Oper} {a : Act} {Q : Exit → Act → World → Prop} (hgd : o.guard = none) (s x : Operand) (t tn : TypeId)
    (ho : o.op = .call { callee := .builtin .append, args := #[s, x], argTypes := #[t, tn] })
    (base : Nat) (e : TypeId) (i : TypeInfo) (kq kn : IntKind) (ht : P.underlying t = some (.slice e)) (htn : P.underlying tn = some (.int kn)) (hi : P.info? e = some i) (hz : i.zero = some (.int .u8 0))
    (hsize : i.size = 1) (hby : i.bytes = 1) (v : Value) (n : Nat) (xs : List Value) (hs : a.eval s = v) (hown : w.ownsRow base e 1 v n xs) (m : Nat) (hx : a.eval x = .int kq m) (h0 : 0 < m)
    (h63 : n + m ≤ maxLen) (hbytes : n + m ≤ 140737488355328) (hbase : base ≤ w.heap.size)
    (h : ∀ v' w', w'.ownsRow base e 1 v' (n + m) (xs ++ List.replicate m (.int .u8 0)) → w.grownBy w' v.ownBlock → wpList P ops Q rest (a.put o.dst v') w') : wpList P ops Q (o :: rest) a w := by
  obtain ⟨v', w', hr, h1, h2⟩ := run_append_own_zeros (P := P) w base t tn o.type e i kq kn ht htn hi hz hsize hby v n xs hown m h0 h63 hbytes hbase
  exact Lib.wpList_append_run w hgd s x t tn ho v (.int kq m) hs hx v' w' hr (h v' w' h1 h2)

end
end Go.Proofs.Ytobbnedojmcgoaa
