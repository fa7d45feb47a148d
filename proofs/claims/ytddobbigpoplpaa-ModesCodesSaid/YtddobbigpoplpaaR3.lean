/-
  What is proved here: what the reference's expand answers.
-/
import Derived.Test.YtddobbigpoplpaaR2
import Derived.Test.YtddobbigpoplpaaFl
import Derived.Test.YtddobbigpoplpaaP10
import Derived.Test.YtddobbigpoplpaaSx
import Derived.Deep.RegionHeld3
namespace Go.Proofs.Ytddobbigpoplpaa
open Go.RowKit
set_option linter.unusedVariables false

def ReR (w : World) (g cap : Nat) (k : List UInt8) (n : Nat) (wr : World) : Prop := Below w.heap.size w wr ∧ wr.ownsRow w.heap.size 5 1 (.slice (some ⟨g, 0, none⟩) n cap) n (Us (flL k n))
theorem ReR.cell {w wr : World} {g cap n m : Nat} {k : List UInt8} (h : ReR w g cap k n wr) (hm : m < n) : wr.cell? ⟨g, m, none⟩ = some (.int .u8 ((fl k m).toNat : Int)) := by
  have h2 := h.2.cells (g := g) rfl m _ (List.getElem?_eq_getElem (by rw [Us_length, flL_length]; exact hm))
  have hadd : (⟨g, 0, none⟩ : Addr).add m = ⟨g, m, none⟩ := by unfold Addr.add; split <;> simp_all
  rw [hadd] at h2
  rw [h2]
  congr 1
  have e : (flL k n)[m]'(by rw [flL_length]; exact hm) = fl k m := by simp [flL]
  simp only [Us, List.getElem_map, U, e]
theorem ReR.lt {w wr : World} {g cap n : Nat} {k : List UInt8} (h : ReR w g cap k n wr) : w.heap.size ≤ g ∧ g < wr.heap.size := h.2.lt g rfl

theorem run_append_keep {P : Program} (w : World) (base : Nat) (t ty e : TypeId) (i : TypeInfo) (z : Value) (ht : P.underlying t = some (.slice e)) (hi : P.info? e = some i) (hz : i.zero = some z)
    (hsize : i.size = 1) (hby : i.bytes = 1) (hzs : z.cells.size = 1) (g n cap : Nat) (xs : List Value) (hown : w.ownsRow base e 1 (.slice (some ⟨g, 0, none⟩) n cap) n xs)
    (a : Addr) (m c : Nat) (news : List Value) (hl : news.length = m) (hnews : ∀ j u, news[j]? = some u → w.cell? (a.add j) = some u) (h1 : ∀ u ∈ news, u.oneCell' = true)
    (h63 : n + m ≤ maxLen) (hbytes : n + m ≤ 140737488355328) (hbase : base ≤ w.heap.size) :
    ∃ v' w', (Builtin.append_ #[t, t] ty #[.slice (some ⟨g, 0, none⟩) n cap, .slice (some a) m c]).run P w = .ok v' w' ∧ w'.ownsRow base e 1 v' (n + m) (xs ++ news) ∧ w.grownBy w' (some g) ∧
      w'.ownsRow base e 1 (.slice (some ⟨g, 0, none⟩) n cap) n xs ∧ ∃ g2 c2, v' = .slice (some ⟨g2, 0, none⟩) (n + m) c2 ∧ (g2 = g ∨ w.heap.size ≤ g2) := by
  obtain ⟨v', w', hr, q1, q2, _⟩ := run_append_own (P := P) w base t ty e i z 1 1 ht hi hz hsize hby hzs (by decide) (.slice (some ⟨g, 0, none⟩) n cap) n xs hown a m c news (by omega) hnews h1 h63 (by omega) hbase
  refine ⟨v', w', hr, q1, q2, ?_⟩
  have hown0 := hown
  rcases hown.2 with ⟨h, _⟩ | ⟨g2, cap2, cur, e2, hbg, hg, hnc, hcm, hcs, htake⟩
  · cases h
  · injection e2 with e3 _ e4
    injection e3 with e3
    injection e3 with e3
    subst e3 e4
    by_cases hroom : n + m ≤ cap
    · have hr2 := run_append_room (P := P) w t ty e i ht hi g n cap cur hg a m c news (by rw [hsize]; omega) hnews h1 hroom (by rw [hsize, hl, hcs]; omega)
      rw [hr] at hr2
      injection hr2 with hv hw
      subst hw
      refine ⟨?_, g, cap, hv, .inl rfl⟩
      refine ⟨hown.1, .inr ⟨g, cap, _, rfl, hbg, setRow_heap w g cur _ e _ hg, hnc, hcm, ?_, ?_⟩⟩
      · simp only [List.size_toArray, List.length_append, List.length_take, List.length_drop, Array.length_toList, hsize]
        omega
      · have hln : (cur.toList.take (n * i.size)).length = n * 1 := by rw [List.length_take, Array.length_toList, hsize]; omega
        show (cur.toList.take (n * i.size) ++ news ++ cur.toList.drop (n * i.size + news.length)).take (n * 1) = xs
        rw [List.append_assoc, List.take_left' hln, hsize]
        exact htake
    · have holds : ∀ j u, xs[j]? = some u → w.cell? ((⟨g, 0, none⟩ : Addr).add j) = some u := hown.cells (g := g) rfl
      have hr2 := run_append_grow (P := P) w t ty e i z ht hi hz ⟨g, 0, none⟩ n cap xs (by rw [hsize]; exact hown.1) holds a m c news (by rw [hsize]; omega) hnews (by omega) (by simp only [maxLen] at h63; omega) (growslice_fits (by omega) (by rw [hby]; omega))
      rw [hr] at hr2
      injection hr2 with hv hw
      subst hw
      exact ⟨World.ownsRow.alloc (show w.drew.ownsRow base e 1 (.slice (some ⟨g, 0, none⟩) n cap) n xs from hown0) _, _, _, hv, .inr (Nat.le_refl _)⟩
theorem wp_append_keep {P : Program} {w : World} {o : Oper} {a : Act} {K : Act → World → Prop} {Q : Exit → Act → World → Prop} (s x : Operand) (t : TypeId)
    (ho : o.op = .call { callee := .builtin .append, args := #[s, x], argTypes := #[t, t] }) (base : Nat) (e : TypeId) (i : TypeInfo) (z : Value) (ht : P.underlying t = some (.slice e)) (hi : P.info? e = some i) (hz : i.zero = some z)
    (hsize : i.size = 1) (hby : i.bytes = 1) (hzs : z.cells.size = 1) (g n cap : Nat) (xs : List Value) (hs : a.eval s = .slice (some ⟨g, 0, none⟩) n cap) (hown : w.ownsRow base e 1 (.slice (some ⟨g, 0, none⟩) n cap) n xs)
    (ad : Addr) (m c : Nat) (news : List Value) (hx : a.eval x = .slice (some ad) m c) (hl : news.length = m) (hnews : ∀ j u, news[j]? = some u → w.cell? (ad.add j) = some u) (h1 : ∀ u ∈ news, u.oneCell' = true)
    (h63 : n + m ≤ maxLen) (hbytes : n + m ≤ 140737488355328) (hbase : base ≤ w.heap.size)
    (h : ∀ v' w', w'.ownsRow base e 1 v' (n + m) (xs ++ news) → w.grownBy w' (some g) → w'.ownsRow base e 1 (.slice (some ⟨g, 0, none⟩) n cap) n xs → (∃ g2 c2, v' = .slice (some ⟨g2, 0, none⟩) (n + m) c2 ∧ (g2 = g ∨ w.heap.size ≤ g2)) → K (a.put o.dst v') w') : o.wp P a w K Q := by
  obtain ⟨v', w', hr, h2, h3, h4, h5⟩ := run_append_keep (P := P) w base t o.type e i z ht hi hz hsize hby hzs g n cap xs hown ad m c news hl hnews h1 h63 hbytes hbase
  unfold Oper.wp execOp
  simp only [ho, resolve, invoke, builtin, Sem.run_bind, Sem.run_pure, Result.andThen_ok, List.map_toArray, List.map_cons, List.map_nil, hs, hx, hr]
  exact h v' w' h2 h3 h4 h5
def RgS (base g cap : Nat) (k : List UInt8) (n gx : Nat) (xs : List UInt8) (w : World) : Prop := w.ownsRow base 5 1 (.slice (some ⟨g, 0, none⟩) n cap) n (Us (flL k n)) ∧ RowB w gx xs
theorem own_cell {w : World} {base g cap n m : Nat} {k : List UInt8} (h : w.ownsRow base 5 1 (.slice (some ⟨g, 0, none⟩) n cap) n (Us (flL k n))) (hm : m < n) : w.cell? ⟨g, m, none⟩ = some (.int .u8 ((fl k m).toNat : Int)) := by
  have h2 := h.cells (g := g) rfl m _ (List.getElem?_eq_getElem (by rw [Us_length, flL_length]; exact hm))
  have hadd : (⟨g, 0, none⟩ : Addr).add m = ⟨g, m, none⟩ := by unfold Addr.add; split <;> simp_all
  rw [hadd] at h2
  rw [h2]
  congr 1
  have e : (flL k n)[m]'(by rw [flL_length]; exact hm) = fl k m := by simp [flL]
  simp only [Us, List.getElem_map, U, e]
theorem times_2 (n : Nat) (w : World) : Calls Try.prog 45 #[.int .i64 ((rc n).toNat : Int), .int .i64 2] w fun e w' => e = .returned (.int .i64 ((rc (n + 1)).toNat : Int)) ∧ w' = w := by
  have h := ref_times (rc n) 2 w
  rw [gm_two] at h
  exact h
theorem xL_four (k : List UInt8) (j : Nat) (h0 : j % 4 = 0) : xL k j = [sb.getD (fl k (4 * j + 13)).toNat 0 ^^^ rc (j / 4), sb.getD (fl k (4 * j + 14)).toNat 0, sb.getD (fl k (4 * j + 15)).toNat 0, sb.getD (fl k (4 * j + 12)).toNat 0] := by unfold xL; rw [if_pos h0]
theorem xL_else (k : List UInt8) (j : Nat) (h0 : ¬ j % 4 = 0) : xL k j = [fl k (4 * j + 12), fl k (4 * j + 13), fl k (4 * j + 14), fl k (4 * j + 15)] := by unfold xL; rw [if_neg h0]
theorem sz_w {l : List UInt8} (h : l.length = 4) : (Try.prog.info? 71).map (·.size) = some l.length := by rw [h]; kernel_rfl
def RxR (w : World) (g cap gx : Nat) (k : List UInt8) (j q : Nat) (wr : World) : Prop := w.heap.size ≤ gx ∧ gx ≠ g ∧ ReR w g cap k (4 * j + 16 + q) wr ∧ RowB wr gx (xL k j)
theorem info_sl : (Try.prog.info? 26).map (fun i => (i.zero, i.size, i.bytes)) = some (some (.slice none 0 0), 1, 24) := by kernel_rfl
theorem slice_w (g cap n : Nat) (hn : n < 11) (hc : 176 ≤ cap) (w : World) : (Instr.slice 26 (.slice (some ⟨g, 0, none⟩) 176 cap) (some (.int .i64 (16 * (n : Int)))) (some (.int .i64 (16 * (n : Int) + 16))) none).run Try.prog w = .ok (.slice (some ⟨g, 16 * n, none⟩) 16 (cap - 16 * n)) w := by
  have h := run_slice_lh (P := Try.prog) w 26 (some ⟨g, 0, none⟩) 176 cap Try.underlying26 .i64 .i64 (16 * (n : Int)) (16 * (n : Int) + 16) (by omega) (by omega) (by omega)
  have e2 : (sizeOf (Try.prog.elem 26)).run Try.prog w = .ok 1 w := by kernel_rfl
  rw [h, e2]
  simp only [Result.andThen, sliced]
  have e3 : (16 * (n : Int)).toNat = 16 * n := by omega
  have e4 : (16 * (n : Int) + 16).toNat = 16 * n + 16 := by omega
  rw [e3, e4, if_neg (by omega), show 16 * n + 16 - 16 * n = 16 by omega]
  congr 3
  simp only [Option.map_some, Option.some.injEq]
  unfold Addr.add; split <;> simp_all
/-- what the last loop keeps: the keys so far, and the row of all bytes -/
def KyR (w : World) (g cap : Nat) (k : List UInt8) (n : Nat) (v : Value) (wr : World) : Prop :=
  (∃ vs, wr.ownsRow w.heap.size 26 1 v n vs ∧ Owned wr w.heap.size 5 vs ((keysL k).take n)) ∧ Below w.heap.size w wr ∧ wr.ownsRow w.heap.size 5 1 (.slice (some ⟨g, 0, none⟩) 176 cap) 176 (Us (flL k 176))
theorem KyR.step {k : List UInt8} {n g g2 cap m c : Nat} {v v' : Value} {vs : List Value} {w wr w1 w3 : World} {o : Obj} (hk : k.length = 16) (hn : n < 11) (hv : wr.ownsRow w.heap.size 26 1 v n vs) (ow : Owned wr w.heap.size 5 vs ((keysL k).take n)) (hb : Below w.heap.size w wr)
    (hw : wr.ownsRow w.heap.size 5 1 (.slice (some ⟨g, 0, none⟩) 176 cap) 176 (Us (flL k 176)))
    (hg1 : wr.grownBy w1 none) (hp : w1.ownsRow w.heap.size 5 1 (.slice (some ⟨g2, 0, none⟩) m c) m (Us (rk k n)))
    (hv3 : w3.ownsRow w.heap.size 26 1 v' (n + 1) (vs ++ [.slice (some ⟨g2, 0, none⟩) m c])) (hg3 : (w1.alloc o).grownBy w3 v.ownBlock) : KyR w g cap k (n + 1) v' w3 := by
  have hm : m = (rk k n).length := by have := hp.1; rw [Us_length] at this; omega
  have hs1 := hb.size
  have hv1 := own_new hv hg1
  have ow1 := (ow.new hg1).alloc o
  have hw1 := own_new hw hg1
  subst hm
  have ow3 := (ow1.snoc (hp.alloc o)).kept (hv1.alloc o) (by decide) hg3
  have ht : (keysL k).take (n + 1) = (keysL k).take n ++ [rk k n] := by
    rw [List.take_succ_eq_append_getElem (by rw [keysL_length]; exact hn)]
    congr 2
    simp [keysL]
  refine ⟨⟨_, hv3, by rw [ht]; exact ow3⟩, ?_, (hw1.alloc o).kept hg3 (own_apart (hw1.alloc o) (hv1.alloc o) (by decide))⟩
  have b1 := hb.grown hg1 hs1 (by simp)
  exact (b1.alloc b1.size o).grown hg3 (by have := b1.size; simp; omega) (fun q hq => (hv.lt q hq).1)
theorem KyR.done {k : List UInt8} {g cap : Nat} {v : Value} {w wr : World} (h : KyR w g cap k 11 v wr) : ∃ A2 c2, Ending.returned v = .returned (.slice A2 11 c2) ∧ SeesL wr wr.heap.size A2 (keysL k) ∧ Below w.heap.size w wr := by
  obtain ⟨⟨vs, hv, ow⟩, hb, _⟩ := h
  obtain ⟨A, c, rfl⟩ := own_form hv
  rw [List.take_of_length_le (by rw [keysL_length]; exact Nat.le_refl _)] at ow
  exact ⟨A, c, rfl, ⟨vs, Sees.of_own hv, ow.lists⟩, hb⟩
set_option maxRecDepth 100000 in
set_option maxHeartbeats 1500000 in
theorem ref_exp (k : List UInt8) (gt : Nat) (A : Option Addr) (c : Nat) (w : World) (hk : k.length = 16) (hs : Sees w w.heap.size A (Us k)) (ht : TabAt w gt 0 sb) :
    Calls Try.prog 48 #[.slice A 16 c, .pointer (some ⟨gt, 0, none⟩)] w fun e w' => ∃ A2 c2, e = .returned (.slice A2 11 c2) ∧ SeesL w' w'.heap.size A2 (keysL k) ∧ Below w.heap.size w w' := by
  obtain ⟨i0, hi, hz0, hz1, hz2⟩ := info_parts info_u8p
  obtain ⟨b0, o0, rfl, _, _⟩ := sees_range hs hk
  have HL := Lib.hid (show _ ∧ _ ∧ _ from ⟨hk, hs, ht⟩)
  clear hk hs ht
  have HA := Lib.hid (show Us k = Us (flL k 16) by rw [flL_16 k HL.out.1])
  go_enter Try.func48, Try.ntmps48
  go_wp2_with (at_builtin; refine app_bytes rfl (.const (.slice none 0 0)) (.tmp 12) 26 rfl w.heap.size 5 i0 (.int .u8 0) Try.underlying26 hi hz0 hz1 hz2 rfl (.slice none 0 0) 0 [] rfl (World.ownsRow_nil _ _ _ _) (some ⟨b0, o0, none⟩) c k _ (by rw [HL.out.1]; rfl) (fun e => by cases e) (SeesP.iff_sees.2 HL.out.2.1) (by rw [HL.out.1]; decide) (by rw [HL.out.1]; decide) (Nat.le_refl _) ?_; intro v1 w1 ho1 hg1; rw [Nat.zero_add, List.nil_append, HL.out.1] at ho1; have H1 := Lib.hid (And.intro ho1 ((Below.refl w.heap.size w).grown hg1 (Nat.le_refl _) (fun k e => by cases e))); clear ho1 hg1)
  obtain ⟨g, cap, rfl⟩ : ∃ g cap, v1 = .slice (some ⟨g, 0, none⟩) 16 cap := by
    rcases H1.out.1.2 with ⟨_, h⟩ | ⟨g, cap, _, rfl, _⟩
    · cases h
    · exact ⟨g, cap, rfl⟩
  have HI := Lib.hid (show ReR w g cap k 16 w1 from ⟨H1.out.2, by rw [← HA.out]; exact H1.out.1⟩)
  clear H1
  go_loopw [5, 6, 7, 8, 9] (fun v r i _ _ wr => ∃ j g cap : Nat, j ≤ 40 ∧ i = .int .i64 ((j : Int) + 4) ∧ v = .slice (some ⟨g, 0, none⟩) (4 * j + 16) cap ∧ r = .int .i64 ((rc ((j + 3) / 4)).toNat : Int) ∧ Hid (ReR w g cap k (4 * j + 16) wr)) (fun _ _ i _ _ _ => 44 - (intOf i).toNat)
  case atStart => exact ⟨0, g, cap, by decide, rfl, rfl, rfl, HI⟩
  case round =>
    clear HI
    obtain ⟨j, g, cap, hj, rfl, rfl, rfl, HS⟩ := hrel
    by_cases h40 : j < 40
    · obtain ⟨x0, hx0⟩ : ∃ x, x = fl k (4 * j + 12) := ⟨_, rfl⟩
      obtain ⟨x1, hx1⟩ : ∃ x, x = fl k (4 * j + 13) := ⟨_, rfl⟩
      obtain ⟨x2, hx2⟩ : ∃ x, x = fl k (4 * j + 14) := ⟨_, rfl⟩
      obtain ⟨x3, hx3⟩ : ∃ x, x = fl k (4 * j + 15) := ⟨_, rfl⟩
      have y0 : wr.cell? ⟨g, 4 * j + 12, none⟩ = some (.int .u8 (x0.toNat : Int)) := by rw [hx0]; exact HS.out.cell (by omega)
      have y1 : wr.cell? ⟨g, 4 * j + 13, none⟩ = some (.int .u8 (x1.toNat : Int)) := by rw [hx1]; exact HS.out.cell (by omega)
      have y2 : wr.cell? ⟨g, 4 * j + 14, none⟩ = some (.int .u8 (x2.toNat : Int)) := by rw [hx2]; exact HS.out.cell (by omega)
      have y3 : wr.cell? ⟨g, 4 * j + 15, none⟩ = some (.int .u8 (x3.toNat : Int)) := by rw [hx3]; exact HS.out.cell (by omega)
      have HX := Lib.hid (show _ ∧ _ ∧ _ ∧ _ from ⟨hx0, hx1, hx2, hx3⟩)
      have hgl : g < wr.heap.size := HS.out.lt.2
      clear hx0 hx1 hx2 hx3
      go_wp2_with fail
      have q0 : IntKind.i64.wrap (4 * ((j : Int) + 4)) = 4 * (j : Int) + 16 := by rw [IntKind.wrap_i64]; omega
      have q1 : IntKind.i64.wrap (4 * (j : Int) + 16 - 4) = 4 * (j : Int) + 12 := by rw [IntKind.wrap_i64]; omega
      have q2 : IntKind.i64.wrap (4 * (j : Int) + 16 - 3) = 4 * (j : Int) + 13 := by rw [IntKind.wrap_i64]; omega
      have q3 : IntKind.i64.wrap (4 * (j : Int) + 16 - 2) = 4 * (j : Int) + 14 := by rw [IntKind.wrap_i64]; omega
      have q4 : IntKind.i64.wrap (4 * (j : Int) + 16 - 1) = 4 * (j : Int) + 15 := by rw [IntKind.wrap_i64]; omega
      have r1 : (0 : Int) ≤ 4 * (j : Int) + 12 ∧ 4 * (j : Int) + 12 < ((4 * j + 16 : Nat) : Int) := by omega
      have r2 : (0 : Int) ≤ 4 * (j : Int) + 13 ∧ 4 * (j : Int) + 13 < ((4 * j + 16 : Nat) : Int) := by omega
      have r3 : (0 : Int) ≤ 4 * (j : Int) + 14 ∧ 4 * (j : Int) + 14 < ((4 * j + 16 : Nat) : Int) := by omega
      have r4 : (0 : Int) ≤ 4 * (j : Int) + 15 ∧ 4 * (j : Int) + 15 < ((4 * j + 16 : Nat) : Int) := by omega
      have n1 : (4 * (j : Int) + 12).toNat = 4 * j + 12 := by omega
      have n2 : (4 * (j : Int) + 13).toNat = 4 * j + 13 := by omega
      have n3 : (4 * (j : Int) + 14).toNat = 4 * j + 14 := by omega
      have n4 : (4 * (j : Int) + 15).toNat = 4 * j + 15 := by omega
      have ne0 := World.new_ne wr ⟨g, 4 * j + 12, none⟩ y0
      have ne1 := World.new_ne wr ⟨g, 4 * j + 13, none⟩ y1
      have ne2 := World.new_ne wr ⟨g, 4 * j + 14, none⟩ y2
      have ne3 := World.new_ne wr ⟨g, 4 * j + 15, none⟩ y3
      go_region_held3 (fun w' => w'.cell? ⟨g, 4 * j + 12, none⟩ = some (.int .u8 (x0.toNat : Int)) ∧ w'.cell? ⟨g, 4 * j + 13, none⟩ = some (.int .u8 (x1.toNat : Int)) ∧ w'.cell? ⟨g, 4 * j + 14, none⟩ = some (.int .u8 (x2.toNat : Int)) ∧ w'.cell? ⟨g, 4 * j + 15, none⟩ = some (.int .u8 (x3.toNat : Int))) (go_keep) (fail)
      clear q0 q1 q2 q3 q4 r1 r2 r3 r4 n1 n2 n3 n4 ne0 ne1 ne2 ne3
      by_cases h0 : j % 4 = 0
      · have d0 : ((j : Int) % 4 == 0) = true := by simp; omega
        obtain ⟨gx, hgx⟩ : ∃ gx, gx = wr.heap.size := ⟨_, rfl⟩
        have HRe := Lib.hid (show w.heap.size ≤ gx ∧ gx ≠ g ∧ ReR w g cap k (4 * j + 16) ((wr.alloc (.cells #[.int .u8 (x0.toNat : Int), .int .u8 (x1.toNat : Int), .int .u8 (x2.toNat : Int), .int .u8 (x3.toNat : Int)] 71)).drew) ∧ RowB ((wr.alloc (.cells #[.int .u8 (x0.toNat : Int), .int .u8 (x1.toNat : Int), .int .u8 (x2.toNat : Int), .int .u8 (x3.toNat : Int)] 71)).drew) gx [x0, x1, x2, x3] from ⟨by rw [hgx]; exact HS.out.1.size, by omega, ⟨(HS.out.1.alloc HS.out.1.size _).drew, (HS.out.2.alloc _).drew⟩, by
          rw [hgx]
          exact RowB.new (by rfl)⟩)
        rw [← hgx]
        clear hgx
        generalize ((wr.alloc (.cells #[.int .u8 (x0.toNat : Int), .int .u8 (x1.toNat : Int), .int .u8 (x2.toNat : Int), .int .u8 (x3.toNat : Int)] 71)).drew) = w2 at *
        obtain ⟨t0, ht0⟩ : ∃ t, t = sb.getD x0.toNat 0 := ⟨_, rfl⟩
        obtain ⟨t1, ht1⟩ : ∃ t, t = sb.getD x1.toNat 0 := ⟨_, rfl⟩
        obtain ⟨t2, ht2⟩ : ∃ t, t = sb.getD x2.toNat 0 := ⟨_, rfl⟩
        obtain ⟨t3, ht3⟩ : ∃ t, t = sb.getD x3.toNat 0 := ⟨_, rfl⟩
        obtain ⟨r, hr⟩ : ∃ r, r = rc ((j + 3) / 4) := ⟨_, rfl⟩
        obtain ⟨r2, hr2⟩ : ∃ r, r = rc ((j + 3) / 4 + 1) := ⟨_, rfl⟩
        obtain ⟨u, hu⟩ : ∃ u, u = t1 ^^^ r := ⟨_, rfl⟩
        have HC := Lib.hid (fun (w : World) => (show Calls Try.prog 45 #[.int .i64 (r.toNat : Int), .int .i64 2] w fun e w' => e = .returned (.int .i64 (r2.toNat : Int)) ∧ w' = w by rw [hr, hr2]; exact times_2 _ w))
        have HXL := Lib.hid (show [u, t2, t3, t0] = xL k j by rw [xL_four k j h0, hu, ht0, ht1, ht2, ht3, HX.out.1, HX.out.2.1, HX.out.2.2.1, HX.out.2.2.2, hr, show (j + 3) / 4 = j / 4 by omega])
        have HR2 := Lib.hid hr2
        have hTW := HL.out.2.2.on HRe.out.2.2.1.1
        have a0 : w2.cell? ⟨gt, x0.toNat, none⟩ = some (.int .u8 (t0.toNat : Int)) := by rw [ht0]; have := hTW.2 x0.toNat x0.toNat_lt; rwa [Nat.zero_add] at this
        have a1 : w2.cell? ⟨gt, x1.toNat, none⟩ = some (.int .u8 (t1.toNat : Int)) := by rw [ht1]; have := hTW.2 x1.toNat x1.toNat_lt; rwa [Nat.zero_add] at this
        have a2 : w2.cell? ⟨gt, x2.toNat, none⟩ = some (.int .u8 (t2.toNat : Int)) := by rw [ht2]; have := hTW.2 x2.toNat x2.toNat_lt; rwa [Nat.zero_add] at this
        have a3 : w2.cell? ⟨gt, x3.toNat, none⟩ = some (.int .u8 (t3.toNat : Int)) := by rw [ht3]; have := hTW.2 x3.toNat x3.toNat_lt; rwa [Nat.zero_add] at this
        have z0 : w2.cell? ⟨gx, 0, none⟩ = some (.int .u8 (x0.toNat : Int)) := HRe.out.2.2.2.cell (k := 0) (by simp)
        have z1 : w2.cell? ⟨gx, 1, none⟩ = some (.int .u8 (x1.toNat : Int)) := HRe.out.2.2.2.cell (k := 1) (by simp)
        have z2 : w2.cell? ⟨gx, 2, none⟩ = some (.int .u8 (x2.toNat : Int)) := HRe.out.2.2.2.cell (k := 2) (by simp)
        have z3 : w2.cell? ⟨gx, 3, none⟩ = some (.int .u8 (x3.toNat : Int)) := HRe.out.2.2.2.cell (k := 3) (by simp)
        have b0 : (x0.toNat : Int) < 256 := by have := x0.toNat_lt; omega
        have b1 : (x1.toNat : Int) < 256 := by have := x1.toNat_lt; omega
        have b2 : (x2.toNat : Int) < 256 := by have := x2.toNat_lt; omega
        have b3 : (x3.toNat : Int) < 256 := by have := x3.toNat_lt; omega
        have hrl := r.toNat_lt
        have hxr : bits .xor .u8 (t1.toNat : Int) (r.toNat : Int) = (u.toNat : Int) := by rw [b_xor, hu]
        rw [← hr]
        clear hTW ht0 ht1 ht2 ht3 hr hr2 hu y0 y1 y2 y3
        go_wp2_with fail
        have e1 : (r.toNat : Int) % 256 = (r.toNat : Int) := by omega
        have e2 : IntKind.u8.wrap (r.toNat : Int) = (r.toNat : Int) := by rw [IntKind.wrap_u8]; omega
        go_still_tail 28, (by kernel_rfl)
        change wpList _ _ _ _ _ w2.drew
        have HRf := Lib.hid (show w.heap.size ≤ gx ∧ gx ≠ g ∧ ReR w g cap k (4 * j + 16) w2.drew ∧ RowB w2.drew gx [x0, x1, x2, x3] from ⟨HRe.out.1, HRe.out.2.1, ⟨HRe.out.2.2.1.1.drew, HRe.out.2.2.1.2⟩, HRe.out.2.2.2⟩)
        have HRr := Lib.hid HRf.out.2.2.2
        have hl4 : [u, t2, t3, t0].length = [x0, x1, x2, x3].length := rfl
        have hs4 : (Try.prog.info? 71).map (·.size) = some [u, t2, t3, t0].length := sz_w rfl
        clear a0 a1 a2 a3 z0 z1 z2 z3 b0 b1 b2 b3 e1 e2 hxr HRe
        generalize w2.drew = w3 at *
        go_wp2_with (first
          | ((with_reducible refine wpList_store_all (ty := 71) (x := .tmp 8) (y := .tmp 73) (g := gx) (l := [x0, x1, x2, x3]) (l2 := [u, t2, t3, t0]) rfl rfl ?hx ?hy HRr.out hl4 hs4 ?_); (case hx => go_simp); (case hy => (go_simp; first | done | rfl)); intro w4 hw hr; have HXR := Lib.hid (show RxR w g cap gx k j 0 w4 from ⟨HRf.out.1, HRf.out.2.1, ⟨hw.bl HRf.out.2.2.1.1 HRf.out.1, HRf.out.2.2.1.2.kept ⟨hw.1, hw.2.1, hw.2.2.1, by rw [hw.2.2.2.1]; exact Nat.le_refl _, fun m _ hm => hw.2.2.2.2 m (fun e => hm (by rw [e]))⟩ (.inr (fun e => HRf.out.2.1 (Option.some.inj e).symm))⟩, by rw [← HXL.out]; exact hr⟩); clear hw hr)
          | (go_at_call 45; ((with_reducible refine (HC.out _).mono ?_); rintro e w5 ⟨rfl, rfl⟩)))
        try rw [show ((j : Int) + 4) % 4 = (j : Int) % 4 from by omega]
        go_loopw [5, 9] (fun v i wr => ∃ q g cap : Nat, q ≤ 4 ∧ i = .int .i64 (q : Int) ∧ v = .slice (some ⟨g, 0, none⟩) (4 * j + 16 + q) cap ∧ Hid (RxR w g cap gx k j q wr)) (fun _ i _ => 4 - (intOf i).toNat)
        case atStart => exact ⟨0, g, cap, by decide, rfl, rfl, HXR⟩
        case round =>
          clear HXR
          obtain ⟨q, g, cap, hq, rfl, rfl, HS⟩ := hrel
          by_cases hq4 : q < 4
          · obtain ⟨x, hx⟩ : ∃ x, x = fl k (4 * j + q) := ⟨_, rfl⟩
            obtain ⟨y, hy⟩ : ∃ y, y = (xL k j).getD q 0 := ⟨_, rfl⟩
            obtain ⟨z, hz⟩ : ∃ z, z = x ^^^ y := ⟨_, rfl⟩
            have HZ := Lib.hid (show z = fl k (4 * j + 16 + q) by rw [hz, hx, hy, fl_word k HL.out.1 j q hq4])
            have HC1 := Lib.hid (fun (w' : World) (h : RgS w.heap.size g cap k (4 * j + 16 + q) gx (xL k j) w') => (show w'.cell? ⟨g, 4 * j + q, none⟩ = some (.int .u8 (x.toNat : Int)) by rw [hx]; exact own_cell h.1 (by omega)))
            have HC2 := Lib.hid (fun (w' : World) (h : RgS w.heap.size g cap k (4 * j + 16 + q) gx (xL k j) w') => (show w'.cell? ⟨gx, q, none⟩ = some (.int .u8 (y.toNat : Int)) by rw [hy]; exact h.2.cell (by rw [xL_length]; exact hq4)))
            have HZ2 := Lib.hid hz
            clear hx hy hz
            go_wp2_with fail
            have q0 : IntKind.i64.wrap (4 * ((j : Int) + 4)) = 4 * (j : Int) + 16 := by rw [IntKind.wrap_i64]; omega
            have q5 : IntKind.i64.wrap (4 * (j : Int) + 16 - 16) = 4 * (j : Int) := by rw [IntKind.wrap_i64]; omega
            have q7 : IntKind.i64.wrap (4 * (j : Int)) = 4 * (j : Int) := by rw [IntKind.wrap_i64]; omega
            have q6 : IntKind.i64.wrap (4 * (j : Int) + (q : Int)) = 4 * (j : Int) + (q : Int) := by rw [IntKind.wrap_i64]; omega
            have r5 : (0 : Int) ≤ 4 * (j : Int) + (q : Int) ∧ 4 * (j : Int) + (q : Int) < ((4 * j + 16 + q : Nat) : Int) := by omega
            have r6 : (q : Int) < 4 := by omega
            have hxy : bits .xor .u8 (x.toNat : Int) (y.toNat : Int) = (z.toNat : Int) := by rw [b_xor, HZ2.out]
            have r7 : 4 * (j : Int) < 4 * (j : Int) + 16 := by omega
            have n5 : (4 * (j : Int) + (q : Int)).toNat = 4 * j + q := by omega
            have HSd := Lib.hid (show RgS w.heap.size g cap k (4 * j + 16 + q) gx (xL k j) wr.drew from ⟨HS.out.2.2.1.2, HS.out.2.2.2⟩)
            have HBd := Lib.hid (show Below w.heap.size w wr.drew from HS.out.2.2.1.1.drew)
            refine wp_region_noPanic ?_
            refine wp_region_held_drew (S := RgS w.heap.size g cap k (4 * j + 16 + q) gx (xL k j)) (by kernel_rfl) HSd.out (fun hHeld => ?_)
            refine wpAnyH_take (i := 0) (v := _) rfl (by kernel_rfl) (by kernel_rfl) (by kernel_rfl) (fun _ _ _ h => h) (Or.inl ⟨by rfl, (by intro w hSw; go_simp; first | done | with_reducible rfl)⟩) hHeld ?_
            simp only [Act.put]
            refine wpAnyH_take (i := 1) (v := _) rfl (by kernel_rfl) (by kernel_rfl) (by kernel_rfl) (fun _ _ _ h => h) (Or.inl ⟨by rfl, (by intro w hSw; go_simp; first | done | with_reducible rfl)⟩) hHeld ?_
            simp only [Act.put]
            refine wpAnyH_take (i := 2) (v := _) rfl (by kernel_rfl) (by kernel_rfl) (by kernel_rfl) (fun _ _ _ h => h) (Or.inl ⟨by rfl, (by intro w hSw; go_simp; first | done | with_reducible rfl)⟩) hHeld ?_
            simp only [Act.put]
            refine wpAnyH_take (i := 3) (v := _) rfl (by kernel_rfl) (by kernel_rfl) (by kernel_rfl) (fun _ _ _ h => h) (Or.inl ⟨by rfl, (by intro w hSw; go_simp; first | done | with_reducible rfl)⟩) hHeld ?_
            simp only [Act.put]
            refine wpAnyH_take (i := 4) (v := _) rfl (by kernel_rfl) (by kernel_rfl) (by kernel_rfl) (fun _ _ _ h => h) (Or.inl ⟨by rfl, (by intro w hSw; go_simp; first | done | with_reducible rfl)⟩) hHeld ?_
            simp only [Act.put]
            refine wpAnyH_take (i := 5) (v := _) rfl (by kernel_rfl) (by kernel_rfl) (by kernel_rfl) (fun _ _ _ h => h) (Or.inl ⟨by rfl, (by intro w hSw; go_simp; first | done | with_reducible rfl)⟩) hHeld ?_
            simp only [Act.put]
            refine wpAnyH_take (i := 6) (v := _) rfl (by kernel_rfl) (by kernel_rfl) (by kernel_rfl) (fun _ _ _ h => h) (Or.inl ⟨by rfl, (by intro w hSw; go_simp; first | done | with_reducible rfl)⟩) hHeld ?_
            simp only [Act.put]
            refine wpAnyH_take (i := 7) (v := _) rfl (by kernel_rfl) (by kernel_rfl) (by kernel_rfl) (fun _ _ _ h => h) (Or.inl ⟨by rfl, (by intro w hSw; go_simp; first | done | with_reducible rfl)⟩) hHeld ?_
            simp only [Act.put]
            refine wpAnyH_take (i := 8) (v := _) rfl (by kernel_rfl) (by kernel_rfl) (by kernel_rfl) (fun _ _ _ h => h) (Or.inl ⟨by rfl, (by intro w hSw; have c1 := HC1.out w hSw; go_simp; first | done | with_reducible rfl)⟩) hHeld ?_
            simp only [Act.put]
            refine wpAnyH_take (i := 9) (v := _) rfl (by kernel_rfl) (by kernel_rfl) (by kernel_rfl) (fun _ _ _ h => h) (Or.inl ⟨by rfl, (by intro w hSw; go_simp; first | done | with_reducible rfl)⟩) hHeld ?_
            simp only [Act.put]
            refine wpAnyH_take (i := 10) (v := _) rfl (by kernel_rfl) (by kernel_rfl) (by kernel_rfl) (fun _ _ _ h => h) (Or.inl ⟨by rfl, (by intro w hSw; go_simp; first | done | with_reducible rfl)⟩) hHeld ?_
            simp only [Act.put]
            refine wpAnyH_take (i := 11) (v := _) rfl (by kernel_rfl) (by kernel_rfl) (by kernel_rfl) (fun _ _ _ h => h) (Or.inl ⟨by rfl, (by intro w hSw; have c2 := HC2.out w hSw; go_simp; first | done | with_reducible rfl)⟩) hHeld ?_
            simp only [Act.put]
            refine wpAnyH_take (i := 12) (v := _) rfl (by kernel_rfl) (by kernel_rfl) (by kernel_rfl) (fun _ _ _ h => h) (Or.inl ⟨by rfl, (by intro w hSw; go_simp; first | done | with_reducible rfl)⟩) hHeld ?_
            simp only [Act.put]
            clear q0 q5 q6 q7 r5 r6 r7 n5 hxy
            refine wpAnyH_ready (rs := [13]) (by kernel_rfl) (by simp) ?_
            refine AllReadyH.cons rfl (fun K hK => ?_) AllReadyH.nil
            go_simp
            refine hK.out _ _ ⟨World.ownsRow.alloc hHeld.1 _, hHeld.2.fresh ⟨rfl, _, rfl⟩⟩ (fun hHeld => ?_)
            clear hK K
            have HN5 := Lib.hid (show ∀ j u, [Value.int .u8 (z.toNat : Int)][j]? = some u → ((wr.alloc (.cells #[Value.int .u8 (z.toNat : Int)] 5)).drew).cell? ((⟨wr.heap.size, 0, none⟩ : Addr).add j) = some u from news_of_one wr _ 5)
            have HB5 := Lib.hid (show Below w.heap.size w ((wr.alloc (.cells #[Value.int .u8 (z.toNat : Int)] 5)).drew) from (HS.out.2.2.1.1.alloc HS.out.2.2.1.1.size _).drew)
            have HG := Lib.hid (And.intro HS.out.1 (And.intro HS.out.2.1 HS.out.2.2.1.lt.1))
            have h63 : 4 * j + 16 + q + 1 ≤ maxLen := by unfold maxLen; omega
            have h64 : 4 * j + 16 + q + 1 ≤ 140737488355328 := by omega
            have hzs : (Value.int .u8 0).cells.size = 1 := rfl
            have hS5 := Lib.hid hHeld
            have hS51 := Lib.hid hHeld.1
            have hone : ∀ u ∈ [Value.int .u8 (z.toNat : Int)], u.oneCell' = true := fun u hu => by rw [List.mem_singleton.1 hu]; rfl
            clear hHeld HS
            generalize ((wr.alloc (.cells #[Value.int .u8 (z.toNat : Int)] 5)).drew) = w5 at *
            refine wpAnyH_ready (rs := [14]) (by kernel_rfl) (by simp) ?_
            refine AllReadyH.cons rfl (fun K hK => ?_) AllReadyH.nil
            rw [if_pos (by rfl)]
            with_reducible refine wp_append_keep (s := .tmp 80) (x := .tmp 93) (t := 26) rfl w.heap.size 5 i0 (.int .u8 0) Try.underlying26 hi hz0 hz1 hz2 hzs g (4 * j + 16 + q) cap (Us (flL k (4 * j + 16 + q))) ?hs hS51.out ⟨wr.heap.size, 0, none⟩ 1 1 [.int .u8 (z.toNat : Int)] ?hx ?hl HN5.out hone h63 h64 HB5.out.size ?_
            case hs => go_simp
            case hx => go_simp
            case hl => rfl
            intro v' w6 ho6 hg6 hkeep hform
            obtain ⟨g2, c2, rfl, hg2⟩ := hform
            have HR6 := Lib.hid (show RowB w6 gx (xL k j) from hS5.out.2.same (hg6.block gx hS5.out.2.lt (fun e => HG.out.2.1 (Option.some.inj e))))
            have HN := Lib.hid (show RxR w g2 c2 gx k j (q + 1) w6 from ⟨HG.out.1, by
              rcases hg2 with e | e
              · rw [e]; exact HG.out.2.1
              · have := hS5.out.2.lt; omega, ⟨HB5.out.grown hg6 HB5.out.size (fun m e => by rw [← Option.some.inj e]; exact HG.out.2.2), by
              rw [← Nat.add_assoc, flL_succ, Us_append, ← HZ.out]
              exact ho6⟩, HR6.out⟩)
            refine hK.out _ _ ⟨hkeep, HR6.out⟩ (fun hHeld => ?_)
            clear hK K ho6 hg6 hkeep hg2 HR6 HN5 HB5 HG hS5 hS51 h63 h64 hone
            refine wpAnyH_ready (rs := [15]) (by kernel_rfl) (by simp) ?_
            refine AllReadyH.cons rfl (fun K hK => ?_) AllReadyH.nil
            go_simp
            refine hK.out _ _ hHeld (fun hHeld => ?_)
            clear hK K hHeld
            refine wpAnyH_done (by kernel_rfl) ?_ _
            refine NoPanic.normal ?_
            go_wp2_with fail
            go_roundw
            case rel => exact ⟨q + 1, g2, c2, by omega, by go_num, rfl, HN⟩
            case measure => simp [intOf]; omega
          · obtain rfl : q = 4 := by omega
            go_wp2_with fail
            go_roundw
            case rel => exact ⟨j + 1, g, cap, by omega, by go_num, by rw [show 4 * (j + 1) + 16 = 4 * j + 16 + 4 by omega], by rw [HR2.out, show (j + 1 + 3) / 4 = (j + 3) / 4 + 1 by omega], Lib.hid (by rw [show 4 * (j + 1) + 16 = 4 * j + 16 + 4 by omega]; exact HS.out.2.2.1)⟩
            case measure => simp [intOf]; omega
      · have d0 : ((j : Int) % 4 == 0) = false := by simp; omega
        obtain ⟨gx, hgx⟩ : ∃ gx, gx = wr.heap.size := ⟨_, rfl⟩
        have HXR := Lib.hid (show RxR w g cap gx k j 0 ((wr.alloc (.cells #[.int .u8 (x0.toNat : Int), .int .u8 (x1.toNat : Int), .int .u8 (x2.toNat : Int), .int .u8 (x3.toNat : Int)] 71)).drew) from ⟨by rw [hgx]; exact HS.out.1.size, by omega, ⟨(HS.out.1.alloc HS.out.1.size _).drew, (HS.out.2.alloc _).drew⟩, by
          rw [hgx, xL_else k j h0, ← HX.out.1, ← HX.out.2.1, ← HX.out.2.2.1, ← HX.out.2.2.2]
          exact RowB.new (by rfl)⟩)
        rw [← hgx]
        clear hgx
        generalize ((wr.alloc (.cells #[.int .u8 (x0.toNat : Int), .int .u8 (x1.toNat : Int), .int .u8 (x2.toNat : Int), .int .u8 (x3.toNat : Int)] 71)).drew) = w2 at *
        go_wp2_with fail
        try rw [show ((j : Int) + 4) % 4 = (j : Int) % 4 from by omega]
        go_loopw [5, 9] (fun v i wr => ∃ q g cap : Nat, q ≤ 4 ∧ i = .int .i64 (q : Int) ∧ v = .slice (some ⟨g, 0, none⟩) (4 * j + 16 + q) cap ∧ Hid (RxR w g cap gx k j q wr)) (fun _ i _ => 4 - (intOf i).toNat)
        case atStart => exact ⟨0, g, cap, by decide, rfl, rfl, HXR⟩
        case round =>
          clear HXR
          obtain ⟨q, g, cap, hq, rfl, rfl, HS⟩ := hrel
          by_cases hq4 : q < 4
          · obtain ⟨x, hx⟩ : ∃ x, x = fl k (4 * j + q) := ⟨_, rfl⟩
            obtain ⟨y, hy⟩ : ∃ y, y = (xL k j).getD q 0 := ⟨_, rfl⟩
            obtain ⟨z, hz⟩ : ∃ z, z = x ^^^ y := ⟨_, rfl⟩
            have HZ := Lib.hid (show z = fl k (4 * j + 16 + q) by rw [hz, hx, hy, fl_word k HL.out.1 j q hq4])
            have HC1 := Lib.hid (fun (w' : World) (h : RgS w.heap.size g cap k (4 * j + 16 + q) gx (xL k j) w') => (show w'.cell? ⟨g, 4 * j + q, none⟩ = some (.int .u8 (x.toNat : Int)) by rw [hx]; exact own_cell h.1 (by omega)))
            have HC2 := Lib.hid (fun (w' : World) (h : RgS w.heap.size g cap k (4 * j + 16 + q) gx (xL k j) w') => (show w'.cell? ⟨gx, q, none⟩ = some (.int .u8 (y.toNat : Int)) by rw [hy]; exact h.2.cell (by rw [xL_length]; exact hq4)))
            have HZ2 := Lib.hid hz
            clear hx hy hz
            go_wp2_with fail
            have q0 : IntKind.i64.wrap (4 * ((j : Int) + 4)) = 4 * (j : Int) + 16 := by rw [IntKind.wrap_i64]; omega
            have q5 : IntKind.i64.wrap (4 * (j : Int) + 16 - 16) = 4 * (j : Int) := by rw [IntKind.wrap_i64]; omega
            have q7 : IntKind.i64.wrap (4 * (j : Int)) = 4 * (j : Int) := by rw [IntKind.wrap_i64]; omega
            have q6 : IntKind.i64.wrap (4 * (j : Int) + (q : Int)) = 4 * (j : Int) + (q : Int) := by rw [IntKind.wrap_i64]; omega
            have r5 : (0 : Int) ≤ 4 * (j : Int) + (q : Int) ∧ 4 * (j : Int) + (q : Int) < ((4 * j + 16 + q : Nat) : Int) := by omega
            have r6 : (q : Int) < 4 := by omega
            have hxy : bits .xor .u8 (x.toNat : Int) (y.toNat : Int) = (z.toNat : Int) := by rw [b_xor, HZ2.out]
            have r7 : 4 * (j : Int) < 4 * (j : Int) + 16 := by omega
            have n5 : (4 * (j : Int) + (q : Int)).toNat = 4 * j + q := by omega
            have HSd := Lib.hid (show RgS w.heap.size g cap k (4 * j + 16 + q) gx (xL k j) wr.drew from ⟨HS.out.2.2.1.2, HS.out.2.2.2⟩)
            have HBd := Lib.hid (show Below w.heap.size w wr.drew from HS.out.2.2.1.1.drew)
            refine wp_region_noPanic ?_
            refine wp_region_held_drew (S := RgS w.heap.size g cap k (4 * j + 16 + q) gx (xL k j)) (by kernel_rfl) HSd.out (fun hHeld => ?_)
            refine wpAnyH_take (i := 0) (v := _) rfl (by kernel_rfl) (by kernel_rfl) (by kernel_rfl) (fun _ _ _ h => h) (Or.inl ⟨by rfl, (by intro w hSw; go_simp; first | done | with_reducible rfl)⟩) hHeld ?_
            simp only [Act.put]
            refine wpAnyH_take (i := 1) (v := _) rfl (by kernel_rfl) (by kernel_rfl) (by kernel_rfl) (fun _ _ _ h => h) (Or.inl ⟨by rfl, (by intro w hSw; go_simp; first | done | with_reducible rfl)⟩) hHeld ?_
            simp only [Act.put]
            refine wpAnyH_take (i := 2) (v := _) rfl (by kernel_rfl) (by kernel_rfl) (by kernel_rfl) (fun _ _ _ h => h) (Or.inl ⟨by rfl, (by intro w hSw; go_simp; first | done | with_reducible rfl)⟩) hHeld ?_
            simp only [Act.put]
            refine wpAnyH_take (i := 3) (v := _) rfl (by kernel_rfl) (by kernel_rfl) (by kernel_rfl) (fun _ _ _ h => h) (Or.inl ⟨by rfl, (by intro w hSw; go_simp; first | done | with_reducible rfl)⟩) hHeld ?_
            simp only [Act.put]
            refine wpAnyH_take (i := 4) (v := _) rfl (by kernel_rfl) (by kernel_rfl) (by kernel_rfl) (fun _ _ _ h => h) (Or.inl ⟨by rfl, (by intro w hSw; go_simp; first | done | with_reducible rfl)⟩) hHeld ?_
            simp only [Act.put]
            refine wpAnyH_take (i := 5) (v := _) rfl (by kernel_rfl) (by kernel_rfl) (by kernel_rfl) (fun _ _ _ h => h) (Or.inl ⟨by rfl, (by intro w hSw; go_simp; first | done | with_reducible rfl)⟩) hHeld ?_
            simp only [Act.put]
            refine wpAnyH_take (i := 6) (v := _) rfl (by kernel_rfl) (by kernel_rfl) (by kernel_rfl) (fun _ _ _ h => h) (Or.inl ⟨by rfl, (by intro w hSw; go_simp; first | done | with_reducible rfl)⟩) hHeld ?_
            simp only [Act.put]
            refine wpAnyH_take (i := 7) (v := _) rfl (by kernel_rfl) (by kernel_rfl) (by kernel_rfl) (fun _ _ _ h => h) (Or.inl ⟨by rfl, (by intro w hSw; go_simp; first | done | with_reducible rfl)⟩) hHeld ?_
            simp only [Act.put]
            refine wpAnyH_take (i := 8) (v := _) rfl (by kernel_rfl) (by kernel_rfl) (by kernel_rfl) (fun _ _ _ h => h) (Or.inl ⟨by rfl, (by intro w hSw; have c1 := HC1.out w hSw; go_simp; first | done | with_reducible rfl)⟩) hHeld ?_
            simp only [Act.put]
            refine wpAnyH_take (i := 9) (v := _) rfl (by kernel_rfl) (by kernel_rfl) (by kernel_rfl) (fun _ _ _ h => h) (Or.inl ⟨by rfl, (by intro w hSw; go_simp; first | done | with_reducible rfl)⟩) hHeld ?_
            simp only [Act.put]
            refine wpAnyH_take (i := 10) (v := _) rfl (by kernel_rfl) (by kernel_rfl) (by kernel_rfl) (fun _ _ _ h => h) (Or.inl ⟨by rfl, (by intro w hSw; go_simp; first | done | with_reducible rfl)⟩) hHeld ?_
            simp only [Act.put]
            refine wpAnyH_take (i := 11) (v := _) rfl (by kernel_rfl) (by kernel_rfl) (by kernel_rfl) (fun _ _ _ h => h) (Or.inl ⟨by rfl, (by intro w hSw; have c2 := HC2.out w hSw; go_simp; first | done | with_reducible rfl)⟩) hHeld ?_
            simp only [Act.put]
            refine wpAnyH_take (i := 12) (v := _) rfl (by kernel_rfl) (by kernel_rfl) (by kernel_rfl) (fun _ _ _ h => h) (Or.inl ⟨by rfl, (by intro w hSw; go_simp; first | done | with_reducible rfl)⟩) hHeld ?_
            simp only [Act.put]
            clear q0 q5 q6 q7 r5 r6 r7 n5 hxy
            refine wpAnyH_ready (rs := [13]) (by kernel_rfl) (by simp) ?_
            refine AllReadyH.cons rfl (fun K hK => ?_) AllReadyH.nil
            go_simp
            refine hK.out _ _ ⟨World.ownsRow.alloc hHeld.1 _, hHeld.2.fresh ⟨rfl, _, rfl⟩⟩ (fun hHeld => ?_)
            clear hK K
            have HN5 := Lib.hid (show ∀ j u, [Value.int .u8 (z.toNat : Int)][j]? = some u → ((wr.alloc (.cells #[Value.int .u8 (z.toNat : Int)] 5)).drew).cell? ((⟨wr.heap.size, 0, none⟩ : Addr).add j) = some u from news_of_one wr _ 5)
            have HB5 := Lib.hid (show Below w.heap.size w ((wr.alloc (.cells #[Value.int .u8 (z.toNat : Int)] 5)).drew) from (HS.out.2.2.1.1.alloc HS.out.2.2.1.1.size _).drew)
            have HG := Lib.hid (And.intro HS.out.1 (And.intro HS.out.2.1 HS.out.2.2.1.lt.1))
            have h63 : 4 * j + 16 + q + 1 ≤ maxLen := by unfold maxLen; omega
            have h64 : 4 * j + 16 + q + 1 ≤ 140737488355328 := by omega
            have hzs : (Value.int .u8 0).cells.size = 1 := rfl
            have hS5 := Lib.hid hHeld
            have hS51 := Lib.hid hHeld.1
            have hone : ∀ u ∈ [Value.int .u8 (z.toNat : Int)], u.oneCell' = true := fun u hu => by rw [List.mem_singleton.1 hu]; rfl
            clear hHeld HS
            generalize ((wr.alloc (.cells #[Value.int .u8 (z.toNat : Int)] 5)).drew) = w5 at *
            refine wpAnyH_ready (rs := [14]) (by kernel_rfl) (by simp) ?_
            refine AllReadyH.cons rfl (fun K hK => ?_) AllReadyH.nil
            rw [if_pos (by rfl)]
            with_reducible refine wp_append_keep (s := .tmp 80) (x := .tmp 93) (t := 26) rfl w.heap.size 5 i0 (.int .u8 0) Try.underlying26 hi hz0 hz1 hz2 hzs g (4 * j + 16 + q) cap (Us (flL k (4 * j + 16 + q))) ?hs hS51.out ⟨wr.heap.size, 0, none⟩ 1 1 [.int .u8 (z.toNat : Int)] ?hx ?hl HN5.out hone h63 h64 HB5.out.size ?_
            case hs => go_simp
            case hx => go_simp
            case hl => rfl
            intro v' w6 ho6 hg6 hkeep hform
            obtain ⟨g2, c2, rfl, hg2⟩ := hform
            have HR6 := Lib.hid (show RowB w6 gx (xL k j) from hS5.out.2.same (hg6.block gx hS5.out.2.lt (fun e => HG.out.2.1 (Option.some.inj e))))
            have HN := Lib.hid (show RxR w g2 c2 gx k j (q + 1) w6 from ⟨HG.out.1, by
              rcases hg2 with e | e
              · rw [e]; exact HG.out.2.1
              · have := hS5.out.2.lt; omega, ⟨HB5.out.grown hg6 HB5.out.size (fun m e => by rw [← Option.some.inj e]; exact HG.out.2.2), by
              rw [← Nat.add_assoc, flL_succ, Us_append, ← HZ.out]
              exact ho6⟩, HR6.out⟩)
            refine hK.out _ _ ⟨hkeep, HR6.out⟩ (fun hHeld => ?_)
            clear hK K ho6 hg6 hkeep hg2 HR6 HN5 HB5 HG hS5 hS51 h63 h64 hone
            refine wpAnyH_ready (rs := [15]) (by kernel_rfl) (by simp) ?_
            refine AllReadyH.cons rfl (fun K hK => ?_) AllReadyH.nil
            go_simp
            refine hK.out _ _ hHeld (fun hHeld => ?_)
            clear hK K hHeld
            refine wpAnyH_done (by kernel_rfl) ?_ _
            refine NoPanic.normal ?_
            go_wp2_with fail
            go_roundw
            case rel => exact ⟨q + 1, g2, c2, by omega, by go_num, rfl, HN⟩
            case measure => simp [intOf]; omega
          · obtain rfl : q = 4 := by omega
            go_wp2_with fail
            go_roundw
            case rel => exact ⟨j + 1, g, cap, by omega, by go_num, by rw [show 4 * (j + 1) + 16 = 4 * j + 16 + 4 by omega], by rw [show (j + 1 + 3) / 4 = (j + 3) / 4 by omega], Lib.hid (by rw [show 4 * (j + 1) + 16 = 4 * j + 16 + 4 by omega]; exact HS.out.2.2.1)⟩
            case measure => simp [intOf]; omega
    · obtain rfl : j = 40 := by omega
      have HKy := Lib.hid (show KyR w g cap k 0 (.slice none 0 0) wr from ⟨⟨[], World.ownsRow_nil _ _ _ _, Owned.nil_⟩, HS.out.1, HS.out.2⟩)
      have hcap : 176 ≤ cap := own_cap HS.out.2
      have hcap2 : (176 : Int) ≤ (cap : Int) := by omega
      clear h40 hj HS HA
      obtain ⟨i1, hj1, hy0, hy1, hy2⟩ := info_parts info_sl
      rw [show 4 * 40 + 16 = 176 from rfl, show (40 + 3) / 4 = 10 from rfl, show ((40 : Nat) : Int) + 4 = 44 from rfl]
      go_wp2_with fail
      go_loopw [10, 11] (fun v i wr => ∃ n : Nat, n ≤ 11 ∧ i = .int .i64 (n : Int) ∧ Hid (KyR w g cap k n v wr)) (fun _ i _ => 11 - (intOf i).toNat)
      case atStart => exact ⟨0, by decide, rfl, HKy⟩
      case round =>
        clear HKy
        obtain ⟨n, hn, rfl, HS⟩ := hrel
        by_cases h11 : n < 11
        · obtain ⟨⟨vs, hv, ow⟩, hb, hw⟩ := HS.out
          have HV := Lib.hid hv
          have HO := Lib.hid ow
          have HB := Lib.hid hb
          have HW := Lib.hid hw
          obtain ⟨A6, c6, rfl⟩ := own_form hv
          have hsl := slice_w g cap n h11 hcap
          have HSr := Lib.hid (show SeesP wr (· < wr.heap.size) (some ⟨g, 16 * n, none⟩) (Us (rk k n)) from by
            have h2 : w.heap.size ≤ g ∧ g < wr.heap.size := hw.lt g rfl
            refine .inr ⟨g, 16 * n, rfl, h2.2, fun q hq => ?_⟩
            rw [Us_length, rk_len16 k HL.out.1] at hq
            rw [own_cell hw (by omega), fl_at k n q hq, Us_get (by rw [rk_len16 k HL.out.1]; exact hq), List.getD, List.getElem?_eq_getElem (by rw [rk_len16 k HL.out.1]; exact hq)]
            rfl)
          have hkl := rk_len16 k HL.out.1 n
          have HKl := Lib.hid hkl
          clear hv ow hb hw HS hkl
          go_wp2_with (first
            | (at_builtin; refine app_bytes rfl (.const (.slice none 0 0)) (.tmp 106) 26 rfl w.heap.size 5 i0 (.int .u8 0) Try.underlying26 hi hz0 hz1 hz2 rfl (.slice none 0 0) 0 [] rfl (World.ownsRow_nil _ _ _ _) (some ⟨g, 16 * n, none⟩) (cap - 16 * n) (rk k n) _ (by rw [HKl.out]; rfl) (fun e => by cases e) HSr.out (by rw [HKl.out]; decide) (by rw [HKl.out]; decide) HB.out.size ?_; intro v1 w1 ho1 hg1; rw [Nat.zero_add, List.nil_append, HKl.out] at ho1; obtain ⟨g3, c3, rfl⟩ : ∃ g3 c3, v1 = .slice (some ⟨g3, 0, none⟩) 16 c3 := (by rcases ho1.2 with ⟨_, h⟩ | ⟨g3, c3, _, rfl, _⟩; cases h; exact ⟨g3, c3, rfl⟩); have H1 := Lib.hid (show w1.ownsRow w.heap.size 5 1 (.slice (some ⟨g3, 0, none⟩) 16 c3) 16 (Us (rk k n)) ∧ wr.grownBy w1 none from ⟨ho1, hg1⟩); have HV1 := Lib.hid (own_new HV.out hg1); have hz1s := hg1.size; clear ho1 hg1)
            | (at_builtin; refine wpList_append_own _ rfl (.tmp 99) (.tmp 108) 27 rfl w.heap.size 26 i1 (.slice none 0 0) 1 24 Try.underlying27 hj1 hy0 hy1 hy2 rfl (by decide) _ _ _ rfl (HV1.out.alloc _) ⟨w1.heap.size, 0, none⟩ 1 1 [.slice (some ⟨g3, 0, none⟩) 16 c3] rfl rfl (news_of_one _ _ _) (by simp [Value.oneCell']) (by unfold maxLen; omega) (by omega) (by have := HB.out.size; simp; omega) ?_; intro v' w3 hv3 hg3 _; have HN := Lib.hid (KyR.step HL.out.1 h11 HV.out HO.out HB.out HW.out H1.out.2 H1.out.1 hv3 hg3); clear hv3 hg3))
          go_roundw
          case rel => exact ⟨n + 1, by omega, by go_num, HN⟩
          case measure => simp [intOf]; omega
        · obtain rfl : n = 11 := by omega
          go_wp2_with fail
          go_ret
          exact HS.out.done

end Go.Proofs.Ytddobbigpoplpaa
