/-
  What is proved here: what the reference's method Encrypt answers for a ready cipher.
-/
import Derived.Test.YtddobbigpoplpaaR8
import Derived.Test.YtddobbigpoplpaaR4
import Derived.Test.YtddobbigpoplpaaSx
namespace Go.Proofs.Ytddobbigpoplpaa
open Go.RowKit
set_option linter.unusedVariables false

def cpL (b : List UInt8) : Nat → List UInt8
  | 0 => List.replicate 16 0
  | n + 1 => (cpL b n).set n (b.getD n 0)
theorem cpL_length (b : List UInt8) : ∀ n, (cpL b n).length = 16
  | 0 => by simp [cpL]
  | n + 1 => by simp [cpL, cpL_length b n]
theorem cp_all {b : List UInt8} (hb : b.length = 16) : cpL b 16 = b := by
  obtain ⟨b0, b1, b2, b3, b4, b5, b6, b7, b8, b9, b10, b11, b12, b13, b14, b15, rfl⟩ := lit16 hb
  rfl
theorem keys_at {w : World} {A : Option Addr} {k : List UInt8} (h : SeesL w w.heap.size A (keysL k)) (hk : k.length = 16) : ∃ b off, A = some ⟨b, off, none⟩ ∧ b < w.heap.size ∧
    ∀ i, i < 11 → ∃ gk ok ck, w.cell? ⟨b, off + i, none⟩ = some (.slice (some ⟨gk, ok, none⟩) 16 ck) ∧ gk < w.heap.size ∧ w.rangeAt gk ok (Us (rk k i)) := by
  obtain ⟨vs, h1, h2⟩ := h
  have hlt : 0 < vs.length := by rw [h2.1, keysL_length]; decide
  obtain ⟨b, off, e, hB, hc⟩ := h1.at_ hlt
  refine ⟨b, off, e, hB, fun i hi => ?_⟩
  have hi2 : i < (keysL k).length := by rw [keysL_length]; exact hi
  have hv : (keysL k)[i]? = some (rk k i) := by simp [keysL, hi]
  obtain ⟨A2, c2, hv2, hs⟩ := h2.2 i _ hv
  obtain ⟨gk, ok, rfl, h3, h4⟩ := sees_range hs (rk_len16 k hk i)
  exact ⟨gk, ok, c2, by rw [hc i (by rw [h2.1]; exact hi2), hv2, rk_len16 k hk i], h3, h4⟩
/-- a block of the call's own that holds x -/
def ChR (w : World) (g : Nat) (x : List UInt8) (wr : World) : Prop := w.heap.size ≤ g ∧ Below w.heap.size w wr ∧ RowB wr g x
def ChB (w : World) (g g8 : Nat) (x y : List UInt8) (wr : World) : Prop := ChR w g x wr ∧ w.heap.size ≤ g8 ∧ g ≠ g8 ∧ RowB wr g8 y
section
variable {w wr w2 : World} {g g8 : Nat} {x y : List UInt8} {e : Ending}
theorem ChR.turn (h : ChR w g x wr) (ht : Wr wr w2 g ∧ RowB w2 g y) : ChR w g y w2 := ⟨h.1, ht.1.bl h.2.1 h.1, ht.2⟩
theorem ChR.turnB (h : ChR w g x wr) (ht : Only wr w2 g ∧ RowB w2 g y) : ChR w g y w2 :=
  ⟨h.1, h.2.1.trans ⟨ht.1.1, ht.1.2.1, ht.1.2.2.1, ht.1.2.2.2.1, fun k hk => ht.1.2.2.2.2 k (by have := h.2.1.size; omega) (by have := h.1; omega)⟩, ht.2⟩
theorem ChR.set (h : ChR w g x wr) (i : Nat) (v : UInt8) : ChR w g (x.set i v) (wr.setCell ⟨g, i, none⟩ (.int .u8 (v.toNat : Int))) := ⟨h.1, h.2.1.setCell h.1 _, h.2.2.set i v⟩
theorem ChR.new (h : ChR w g x wr) (hf : Fresh wr w2 g8) (hr : RowB w2 g8 y) : ChB w g g8 x y w2 := ⟨⟨h.1, hf.bl h.2.1, h.2.2.fresh hf⟩, hf.ge h.2.1, h.2.2.ne hf, hr⟩
theorem ChB.drew (h : ChB w g g8 x y wr) : ChB w g g8 x y wr.drew := ⟨⟨h.1.1, h.1.2.1.drew, h.1.2.2⟩, h.2⟩
theorem ChB.set (h : ChB w g g8 x y wr) (i : Nat) (v : UInt8) : ChB w g g8 x (y.set i v) (wr.setCell ⟨g8, i, none⟩ (.int .u8 (v.toNat : Int))) :=
  ⟨⟨h.1.1, h.1.2.1.setCell h.2.1 _, h.1.2.2.far h.2.2.1 _⟩, h.2.1, h.2.2.1, h.2.2.2.set i v⟩
end
/-- after n rounds -/
def eE (k b : List UInt8) (n : Nat) : List UInt8 := if n = 10 then encL k b else eR k b n
theorem ref_mixE (b : List UInt8) (g : Nat) (w : World) (hb : b.length = 16) (hr : RowB w g b) :
    Calls Try.prog 71 #[.pointer (some ⟨g, 0, none⟩), .agg #[.int .i64 2, .int .i64 3, .int .i64 1, .int .i64 1]] w (TurnB w g (mixL b 16)) := by
  have h := ref_mix b [2, 3, 1, 1] g w hb rfl hr
  rw [mx_enc hb] at h
  exact h
theorem eE_length (k b : List UInt8) (hb : b.length = 16) (n : Nat) : (eE k b n).length = 16 := by
  unfold eE
  split
  · exact encL_length k b
  · exact eR_length k b hb n
theorem eE_mid (k b : List UInt8) (n : Nat) (h : n + 1 < 10) : addL (mixL (rotL (subL sb (eE k b n) 16) 1 16) 16) (rk k (n + 1)) 16 = eE k b (n + 1) := by
  unfold eE
  rw [if_neg (by omega), if_neg (by omega), eR]
theorem eE_end (k b : List UInt8) : addL (rotL (subL sb (eE k b 9) 16) 1 16) (rk k 10) 16 = eE k b 10 := by
  unfold eE
  rw [if_neg (by decide), if_pos rfl, encL]
theorem eE_end2 (k b : List UInt8) (n : Nat) (h : n = 9) : eE k b (n + 1) = addL (rotL (subL sb (eE k b n) 16) 1 16) (rk k (n + 1)) 16 := by
  subst h
  exact (eE_end k b).symm
/-- what a ready cipher holds, in every world that keeps the first one -/
theorem key_on {w wr : World} {gc bk okk i gk ok ck cK : Nat} {k : List UInt8} (h : Below w.heap.size w wr) (hgc : gc < w.heap.size) (hbk : bk < w.heap.size) (hK : w.cell? ⟨gc, 512, none⟩ = some (.slice (some ⟨bk, okk, none⟩) 11 cK))
    (z1 : w.cell? ⟨bk, okk + i, none⟩ = some (.slice (some ⟨gk, ok, none⟩) 16 ck)) (z2 : gk < w.heap.size) (z3 : w.rangeAt gk ok (Us (rk k i))) :
    wr.cell? ⟨gc, 512, none⟩ = some (.slice (some ⟨bk, okk, none⟩) 11 cK) ∧ wr.cell? ⟨bk, okk + i, none⟩ = some (.slice (some ⟨gk, ok, none⟩) 16 ck) ∧ wr.rangeAt gk ok (Us (rk k i)) :=
  ⟨(World.cell?_of_block (w := w) (h.block gc hgc)).trans hK, (World.cell?_of_block (w := w) (h.block bk hbk)).trans z1, fun j v hv => (World.cell?_of_block (w := w) (h.block gk z2)).trans (z3 j v hv)⟩
/-- a call that hands back 16 bytes of its own -/
def MkN (w : World) (l : List UInt8) (e : Ending) (w' : World) : Prop := ∃ A c, e = .returned (.slice A 16 c) ∧ SeesP w' (fun b => w.heap.size ≤ b ∧ b < w'.heap.size) A (Us l) ∧ Below w.heap.size w w'
theorem MkN.old {w w' : World} {l : List UInt8} {e : Ending} (h : MkN w l e w') : Mk16 w l e w' := by
  obtain ⟨A, c, he, hs, hb⟩ := h
  exact ⟨A, c, he, SeesP.iff_sees.1 (hs.imp fun q hq => hq.2), hb⟩
theorem own_new16 {w : World} {base : Nat} {v : Value} {l : List UInt8} (h : w.ownsRow base 5 1 v 16 (Us l)) (hl : l.length = 16) : ∃ A c, v = .slice A 16 c ∧ SeesP w (fun b => base ≤ b ∧ b < w.heap.size) A (Us l) := by
  rcases h.2 with ⟨e, h0⟩ | ⟨g, cap, cur, e, hb2, hh, hn, hmx, hs, ht⟩
  · cases h0
  · refine ⟨some ⟨g, 0, none⟩, cap, e, Or.inr ⟨g, 0, rfl, ⟨hb2, (Array.getElem?_eq_some_iff.1 hh).1⟩, fun j hj => ?_⟩⟩
    rw [Us_length, hl] at hj
    rw [Nat.zero_add, cell_of_row w g j cur _ (0, 0) hh, ← ht, List.getElem?_take, if_pos (by omega), Array.getElem?_toList]
theorem own_sees16 {w : World} {base : Nat} {v : Value} {l : List UInt8} (h : w.ownsRow base 5 1 v 16 (Us l)) (hl : l.length = 16) : ∃ A c, v = .slice A 16 c ∧ Sees w w.heap.size A (Us l) := by
  obtain ⟨A, c, rfl⟩ := own_form h
  exact ⟨A, c, rfl, Sees.of_own h⟩
theorem app_bytes_n {P : Program} {w : World} {ops : Array Oper} {rest : List Oper} {o : Oper} {a : Act} {Q : Exit → Act → World → Prop} (hgd : o.guard = none) (s x : Operand) (t : TypeId)
    (ho : o.op = .call { callee := .builtin .append, args := #[s, x], argTypes := #[t, t] })
    (base : Nat) (e : TypeId) (i : TypeInfo) (z : Value) (ht : P.underlying t = some (.slice e)) (hi : P.info? e = some i) (hz : i.zero = some z)
    (hsize : i.size = 1) (hby : i.bytes = 1) (hzs : z.cells.size = 1) (hs : a.eval s = .slice none 0 0)
    (A : Option Addr) (c m : Nat) (cb : List UInt8) (p : Nat → Prop) (hm : cb.length = m) (hx : a.eval x = .slice A m c) (hn : A = none → c = 0) (hc : SeesP w p A (Us cb))
    (hb : m ≤ 140737488351300) (hbase : base ≤ w.heap.size)
    (h : ∀ v' w', w'.ownsRow base e 1 v' m (Us cb) → w.grownBy w' none → wpList P ops Q rest (a.put o.dst v') w') : wpList P ops Q (o :: rest) a w := by
  subst hm
  refine app_bytes hgd s x t ho base e i z ht hi hz hsize hby hzs (.slice none 0 0) 0 [] hs (World.ownsRow_nil _ _ _ _) A c cb p hx hn hc (by unfold maxLen; omega) (by omega) hbase ?_
  intro v' w' h1 h2
  rw [Nat.zero_add, List.nil_append] at h1
  exact h v' w' h1 h2
theorem info_s : (Try.prog.info? 50).map (fun i => (i.zero, i.size)) = some (some (.agg (Us (List.replicate 16 0)).toArray), 16) := by kernel_rfl
theorem size_s : (Try.prog.info? 50).map (·.size) = some 16 := by kernel_rfl
theorem sz_s {l : List UInt8} (h : l.length = 16) : (Try.prog.info? 50).map (·.size) = some l.length := by rw [h]; exact size_s

set_option maxRecDepth 40000 in
set_option maxHeartbeats 2000000 in
theorem ref_menc_n (k b : List UInt8) (gc : Nat) (AK A : Option Addr) (cK c : Nat) (w : World) (hk : k.length = 16) (hb : b.length = 16) (ht : TabAt w gc 0 sb)
    (hK : w.cell? ⟨gc, 512, none⟩ = some (.slice AK 11 cK)) (hs : SeesL w w.heap.size AK (keysL k)) (hx : Sees w w.heap.size A (Us b)) :
    Calls Try.prog 51 #[.pointer (some ⟨gc, 0, none⟩), .slice A 16 c] w (MkN w (encL k b)) := by
  obtain ⟨i0, hi, hz0, hz1, hz2⟩ := info_parts info_u8p
  obtain ⟨bb, ob, rfl, hbb, hxr⟩ := sees_range hx hb
  obtain ⟨bk, okk, rfl, hbk, hkc⟩ := keys_at hs hk
  have HL := Lib.hid (show _ ∧ _ ∧ _ ∧ _ from ⟨hk, hb, ht, hK⟩)
  have HB := Lib.hid (show _ ∧ _ ∧ _ ∧ _ from ⟨hbb, hxr, hbk, hkc⟩)
  clear hk hb ht hK hs hx hbb hxr hbk hkc
  go_enter Try.func51, Try.ntmps51
  go_wp2_with (first
    | ((with_reducible refine wpList_alloc_b (op := ⟨some 5, _, _, _, _, _⟩) rfl 50 rfl 16 info_s ?_); intro g w1 hf hr; have HI := Lib.hid (show ChR w g (cpL b 0) w1 from ⟨by rw [hf.1]; exact Nat.le_refl _, hf.bw, hr⟩); clear hf hr))
  go_loopw [6] (fun i wr => ∃ n : Nat, n ≤ 16 ∧ i = .int .i64 (n : Int) ∧ Hid (ChR w g (cpL b n) wr)) (fun i _ => 16 - (intOf i).toNat)
  case atStart => exact ⟨0, by decide, rfl, HI⟩
  case round =>
    clear HI
    obtain ⟨n, hn, rfl, HS⟩ := hrel
    by_cases h16 : n < 16
    · obtain ⟨v, hv⟩ : ∃ v, v = b.getD n 0 := ⟨_, rfl⟩
      obtain ⟨u, hu⟩ : ∃ u, wr.cell? ⟨g, n, none⟩ = some u := ⟨_, HS.out.2.2.cell (by rw [cpL_length]; exact h16)⟩
      have yf := HS.out.2.2.free n
      have y2 : wr.cell? ⟨bb, ob + n, none⟩ = some (.int .u8 (v.toNat : Int)) := by
        have h2 : w.cell? ⟨bb, ob + n, none⟩ = some (.int .u8 (v.toNat : Int)) := HB.out.2.1 n _ (by rw [hv, Us_get (by rw [HL.out.2.1]; exact h16), getD_b (by rw [HL.out.2.1]; exact h16)])
        rw [← h2]
        exact World.cell?_of_block (w := w) (HS.out.2.1.block bb HB.out.1)
      have HV := Lib.hid hv
      have r1 : (n : Int) < 16 := by omega
      clear hv
      go_wp2_with fail
      go_roundw
      case rel => exact ⟨n + 1, by omega, by go_num, Lib.hid (by have h := HS.out.set n v; rw [HV.out] at h; rw [HV.out]; exact h)⟩
      case measure => simp [intOf]; omega
    · obtain rfl : n = 16 := by omega
      clear h16 hn
      obtain ⟨gk, ok, ck, z1, z2, z3⟩ := HB.out.2.2.2 0 (by decide)
      rw [Nat.add_zero] at z1
      have HS2 := Lib.hid (show ChR w g b wr by have h := HS.out; rw [cp_all HL.out.2.1] at h; exact h)
      have y1 : wr.cell? ⟨gc, 512, none⟩ = some (.slice (some ⟨bk, okk, none⟩) 11 cK) := (World.cell?_of_block (w := w) (HS.out.2.1.block gc HL.out.2.2.1.1)).trans HL.out.2.2.2
      have y2 : wr.cell? ⟨bk, okk, none⟩ = some (.slice (some ⟨gk, ok, none⟩) 16 ck) := (World.cell?_of_block (w := w) (HS.out.2.1.block bk HB.out.2.2.1)).trans z1
      have y3 : wr.rangeAt gk ok (Us (rk k 0)) := fun j v hv => (World.cell?_of_block (w := w) (HS.out.2.1.block gk z2)).trans (z3 j v hv)
      have hne : gk ≠ g := by have := HS2.out.1; omega
      have HC := Lib.hid (ref_add b (rk k 0) g gk ok ck wr HL.out.2.1 (rk_len16 k HL.out.1 0) HS2.out.2.2 y3 hne)
      clear z1 z2 z3 y3 hne HS
      go_wp2_with (go_at_call 70; ((with_reducible refine HC.out.mono ?_); rintro e w3 ⟨rfl, h1, h2⟩); have HI := Lib.hid (show ChR w g (eE k b 0) w3 from HS2.out.turn ⟨h1, h2⟩); clear h1 h2)
      go_loopw [7] (fun i wr => ∃ n : Nat, n ≤ 10 ∧ i = .int .i64 ((n : Int) + 1) ∧ Hid (ChR w g (eE k b n) wr)) (fun i _ => 11 - (intOf i).toNat)
      case atStart => exact ⟨0, by decide, rfl, HI⟩
      case round =>
        clear HI y1 y2 HC HS2
        obtain ⟨n, hn, rfl, HS⟩ := hrel
        by_cases h10 : n < 10
        · obtain ⟨x, hx⟩ : ∃ x, x = eE k b n := ⟨_, rfl⟩
          have HXL := Lib.hid (show x.length = 16 by rw [hx, eE_length k b HL.out.2.1])
          have HX := Lib.hid hx
          rw [← hx] at HS
          clear hx
          go_wp2_with (first
            | ((with_reducible refine wpList_alloc_b (op := ⟨some 8, _, _, _, _, _⟩) rfl 50 rfl 16 info_s ?_); intro g8 w4 hf hr; have HJ := Lib.hid (show ChB w g g8 x (ssL sb x 0) w4 from HS.out.new hf hr); clear hf hr))
          go_loopw [9] (fun i wr => ∃ m : Nat, m ≤ 16 ∧ i = .int .i64 (m : Int) ∧ Hid (ChB w g g8 x (ssL sb x m) wr)) (fun i _ => 16 - (intOf i).toNat)
          case atStart => exact ⟨0, by decide, rfl, HJ⟩
          case round =>
            clear HJ HS
            obtain ⟨m, hm, rfl, HS⟩ := hrel
            by_cases h16 : m < 16
            · obtain ⟨d, hd⟩ : ∃ d, d = m % 4 := ⟨_, rfl⟩
              obtain ⟨t, ht⟩ : ∃ t, t = (m + 4 * d) % 16 := ⟨_, rfl⟩
              obtain ⟨p, hp⟩ : ∃ p, p = x.getD t 0 := ⟨_, rfl⟩
              obtain ⟨v, hv⟩ : ∃ v, v = sb.getD p.toNat 0 := ⟨_, rfl⟩
              have HV := Lib.hid (show (ssL sb x m).set m v = ssL sb x (m + 1) by rw [hv, hp, ht, hd]; rfl)
              have y1 : wr.cell? ⟨g, t, none⟩ = some (.int .u8 (p.toNat : Int)) := by rw [hp]; exact HS.out.1.2.2.cell (by rw [HXL.out]; omega)
              have y2 : wr.cell? ⟨gc, p.toNat, none⟩ = some (.int .u8 (v.toNat : Int)) := by
                have h := (HL.out.2.2.1.on HS.out.1.2.1).2 p.toNat p.toNat_lt
                rw [Nat.zero_add] at h
                rw [hv]
                exact h
              obtain ⟨u, hu⟩ : ∃ u, wr.cell? ⟨g8, m, none⟩ = some u := ⟨_, HS.out.2.2.2.cell (by rw [ssL_length]; exact h16)⟩
              have yf := HS.out.2.2.2.free m
              have hpl := p.toNat_lt
              have r3 : (m : Int) < 16 := by omega
              clear hp hv
              go_wp2_with fail
              have m1 : (m : Int).tmod 4 = (d : Int) := by rw [Int.tmod_eq_emod_of_nonneg (by omega)]; omega
              have m1' : (m : Int) % 4 = (d : Int) := by omega
              have q1 : IntKind.i64.wrap (4 * (d : Int)) = 4 * (d : Int) := by rw [IntKind.wrap_i64]; omega
              have q2 : IntKind.i64.wrap ((m : Int) + 4 * (d : Int)) = (m : Int) + 4 * (d : Int) := by rw [IntKind.wrap_i64]; omega
              have q3 : IntKind.i64.wrap (d : Int) = (d : Int) := by rw [IntKind.wrap_i64]; omega
              have q4 : IntKind.i64.wrap (t : Int) = (t : Int) := by rw [IntKind.wrap_i64]; omega
              have m2 : ((m : Int) + 4 * (d : Int)).tmod 16 = (t : Int) := by rw [Int.tmod_eq_emod_of_nonneg (by omega)]; omega
              have m2' : ((m : Int) + 4 * (d : Int)) % 16 = (t : Int) := by omega
              have r1 : (t : Int) < 16 := by omega
              have r2 : (p.toNat : Int) < 256 := by omega
              clear hd ht
              go_still_tail 15, (by kernel_rfl)
              change wpList _ _ _ _ _ wr.drew
              have hu' : wr.drew.cell? ⟨g8, m, none⟩ = some u := hu
              have yf' : wr.drew.frozen? ⟨g8, m, none⟩ = false := yf
              have HS2 := Lib.hid HS.out.drew
              clear HS y1 y2 hu yf q1 q2 q3 q4 m1 m1' m2 m2'
              generalize wr.drew = w5 at *
              go_wp2_with fail
              go_roundw
              case rel => exact ⟨m + 1, by omega, by go_num, Lib.hid (by rw [← HV.out]; exact HS2.out.set m v)⟩
              case measure => simp [intOf]; omega
            · obtain rfl : m = 16 := by omega
              clear h16 hm
              obtain ⟨y, hy⟩ : ∃ y, y = rotL (subL sb x 16) 1 16 := ⟨_, rfl⟩
              have HYL := Lib.hid (show y.length = 16 by rw [hy, rotL_length])
              have HY := Lib.hid hy
              rw [ss_all sb HXL.out, ← hy] at HS
              clear hy
              have HR8 := Lib.hid HS.out.2.2.2.whole
              obtain ⟨gk, ok, ck, z1, z2, z3⟩ := HB.out.2.2.2 (n + 1) (by omega)
              have HZ := Lib.hid (show _ ∧ _ ∧ _ from ⟨z1, z2, z3⟩)
              clear z1 z2 z3
              have HG := Lib.hid HS.out.1.2.2
              have HNE := Lib.hid (show gk ≠ g by have h1 := HS.out.1.1; have h2 := HZ.out.2.1; omega)
              have hxy : y.length = x.length := HYL.out.trans HXL.out.symm
              by_cases h9 : n + 1 < 10
              · have d1 : (n : Int) + 1 < 10 := by omega
                go_wp2_with (first
                  | (with_reducible refine wpList_load_b (op := ⟨some 50, _, _, _, _, _⟩) rfl 50 (.tmp 8) rfl g8 0 rfl y 16 5 HR8.out Try.underlying50 (sz_s HYL.out) ?_)
                  | ((with_reducible refine wpList_store_all (ty := 50) (x := .tmp 5) (y := .tmp 50) (g := g) (l := x) (l2 := y) rfl rfl ?hx ?hy HG.out hxy (sz_s HYL.out) ?_); (case hx => go_simp); (case hy => go_simp); intro w5 hw hr; have HR5 := Lib.hid hr; have H5 := Lib.hid (show ChR w g y w5 from HS.out.1.turn ⟨hw, hr⟩); clear hw hr)
                  | (go_at_call 71; ((with_reducible refine (ref_mixE y g _ HYL.out HR5.out).mono ?_); rintro e w6 ⟨rfl, h1, h2⟩); have HR6 := Lib.hid h2; have H6 := Lib.hid (show ChR w g (mixL y 16) w6 from H5.out.turnB ⟨h1, h2⟩); clear h1 h2; have HO := Lib.hid (key_on H6.out.2.1 HL.out.2.2.1.1 HB.out.2.2.1 HL.out.2.2.2 HZ.out.1 HZ.out.2.1 HZ.out.2.2); have y1 := HO.out.1; have y2 := HO.out.2.1)
                  | (go_at_call 70; ((with_reducible refine (ref_add (mixL y 16) (rk k (n + 1)) g gk ok ck _ (mixL_length _ _) (rk_len16 k HL.out.1 (n + 1)) HR6.out HO.out.2.2 HNE.out).mono ?_); rintro e w7 ⟨rfl, h1, h2⟩); have H7 := Lib.hid (show ChR w g (eE k b (n + 1)) w7 by rw [← eE_mid k b n h9, ← HX.out, ← HY.out]; exact H6.out.turn ⟨h1, h2⟩); clear h1 h2))
                go_roundw
                case rel => exact ⟨n + 1, by omega, congrArg (Value.int .i64) (by omega), H7⟩
                case measure => (show 11 - ((n : Int) + 1 + 1).toNat < 11 - ((n : Int) + 1).toNat); omega
              · have d1 : ¬ ((n : Int) + 1 < 10) := by omega
                have HN9 := Lib.hid (show n = 9 by omega)
                clear h9
                go_wp2_with (first
                  | (with_reducible refine wpList_load_b (op := ⟨some 50, _, _, _, _, _⟩) rfl 50 (.tmp 8) rfl g8 0 rfl y 16 5 HR8.out Try.underlying50 (sz_s HYL.out) ?_)
                  | ((with_reducible refine wpList_store_all (ty := 50) (x := .tmp 5) (y := .tmp 50) (g := g) (l := x) (l2 := y) rfl rfl ?hx ?hy HG.out hxy (sz_s HYL.out) ?_); (case hx => go_simp); (case hy => go_simp); intro w5 hw hr; have HR6 := Lib.hid hr; have H6 := Lib.hid (show ChR w g y w5 from HS.out.1.turn ⟨hw, hr⟩); clear hw hr; have HO := Lib.hid (key_on H6.out.2.1 HL.out.2.2.1.1 HB.out.2.2.1 HL.out.2.2.2 HZ.out.1 HZ.out.2.1 HZ.out.2.2); have y1 := HO.out.1; have y2 := HO.out.2.1)
                  | (go_at_call 70; ((with_reducible refine (ref_add y (rk k (n + 1)) g gk ok ck _ HYL.out (rk_len16 k HL.out.1 (n + 1)) HR6.out HO.out.2.2 HNE.out).mono ?_); rintro e w7 ⟨rfl, h1, h2⟩); have H7 := Lib.hid (show ChR w g (eE k b (n + 1)) w7 by rw [eE_end2 k b n HN9.out, ← HX.out, ← HY.out]; exact H6.out.turn ⟨h1, h2⟩); clear h1 h2))
                go_roundw
                case rel => exact ⟨n + 1, by omega, congrArg (Value.int .i64) (by omega), H7⟩
                case measure => (show 11 - ((n : Int) + 1 + 1).toNat < 11 - ((n : Int) + 1).toNat); omega
        · have HN10 := Lib.hid (show n = 10 by omega)
          have d10 : ¬ ((n : Int) + 1 ≤ 10) := by omega
          obtain ⟨r, hr⟩ : ∃ r, r = encL k b := ⟨_, rfl⟩
          have HE := Lib.hid (show r.length = 16 by rw [hr]; exact encL_length k b)
          have HS2 := Lib.hid (show ChR w g r wr from by have h := HS.out; rw [HN10.out] at h; rw [hr]; exact h)
          have HP := Lib.hid (HS2.out.2.2.sees (· < wr.heap.size) HS2.out.2.2.lt)
          have HQ := Lib.hid (show encL k b = r from hr.symm)
          have HSZ := Lib.hid (show w.heap.size ≤ wr.heap.size ∧ Below w.heap.size w wr from ⟨HS2.out.2.1.size, HS2.out.2.1⟩)
          have hne : (some (⟨g, 0, none⟩ : Addr) : Option Addr) = none → 16 = 0 := fun e => by cases e
          have HNE := Lib.hid hne
          have h16m : 16 ≤ 140737488351300 := by decide
          have H16 := Lib.hid h16m
          clear HS hr hne h16m HN10 HL HB
          go_wp2_with (at_builtin; ((with_reducible refine app_bytes_n rfl (.const (.slice none 0 0)) (.tmp 63) 26 rfl w.heap.size 5 i0 (.int .u8 0) Try.underlying26 hi hz0 hz1 hz2 rfl rfl (some ⟨g, 0, none⟩) 16 16 r _ HE.out rfl HNE.out HP.out H16.out HSZ.out.1 ?_); intro v1 w8 ho1 hg1); have H8 := Lib.hid (And.intro ho1 (HSZ.out.2.grown hg1 HSZ.out.1 (fun k e => by cases e))); clear ho1 hg1)
          obtain ⟨A2, c2, rfl, hA2⟩ := own_new16 H8.out.1 HE.out
          have HF := Lib.hid (show MkN w (encL k b) (.returned (.slice A2 16 c2)) w8 from ⟨A2, c2, rfl, by rw [HQ.out]; exact hA2, H8.out.2⟩)
          go_ret
          exact HF.out
theorem ref_menc (k b : List UInt8) (gc : Nat) (AK A : Option Addr) (cK c : Nat) (w : World) (hk : k.length = 16) (hb : b.length = 16) (ht : TabAt w gc 0 sb)
    (hK : w.cell? ⟨gc, 512, none⟩ = some (.slice AK 11 cK)) (hs : SeesL w w.heap.size AK (keysL k)) (hx : Sees w w.heap.size A (Us b)) :
    Calls Try.prog 51 #[.pointer (some ⟨gc, 0, none⟩), .slice A 16 c] w (Mk16 w (encL k b)) :=
  (ref_menc_n k b gc AK A cK c w hk hb ht hK hs hx).mono fun _ _ h => h.old

end Go.Proofs.Ytddobbigpoplpaa
