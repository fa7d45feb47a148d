/-
  What is proved here: what the reference's mix does to a block.
-/
import Derived.Test.YtddobbigpoplpaaR5
import Derived.Test.YtddobbigpoplpaaR6
import Derived.Test.YtddobbigpoplpaaR2
namespace Go.Proofs.Ytddobbigpoplpaa
open Go.RowKit
set_option linter.unusedVariables false

/-- bytes as ints, in a block of their own -/
def Ns (l : List UInt8) : List Value := l.map fun x => .int .i64 (x.toNat : Int)
theorem Ns_get {l : List UInt8} {k : Nat} (h : k < l.length) : (Ns l)[k]? = some (.int .i64 ((l.getD k 0).toNat : Int)) := by
  simp [Ns, List.getD, h]
theorem Ns_set (l : List UInt8) (k : Nat) (x : UInt8) : Ns (l.set k x) = (Ns l).set k (.int .i64 (x.toNat : Int)) := by simp [Ns, List.map_set]
def RowN (w : World) (g : Nat) (l : List UInt8) : Prop := ∃ ty, w.heap[g]? = some (.cells (Ns l).toArray ty (0, 0))
section
variable {W w w' : World} {B g k : Nat} {l : List UInt8}
theorem RowN.lt (h : RowN w g l) : g < w.heap.size := by
  obtain ⟨ty, h⟩ := h
  exact (Array.getElem?_eq_some_iff.1 h).1
theorem RowN.same (h : RowN w g l) (e : w'.heap[g]? = w.heap[g]?) : RowN w' g l := by
  obtain ⟨ty, h⟩ := h
  exact ⟨ty, e.trans h⟩
theorem RowN.fresh (h : RowN w k l) (hf : Fresh w w' g) : RowN w' k l := h.same (hf.bw.block k h.lt)
theorem RowN.ne (h : RowN w k l) (hf : Fresh w w' g) : k ≠ g := by have := h.lt; rw [hf.1]; omega
theorem RowN.drew (h : RowN w g l) : RowN w.drew g l := h
theorem RowN.cell (h : RowN w g l) {k : Nat} (hk : k < l.length) : w.cell? ⟨g, k, none⟩ = some (.int .i64 ((l.getD k 0).toNat : Int)) := by
  obtain ⟨ty, h⟩ := h
  rw [cell_of_row w g k _ ty (0, 0) h, ← Array.getElem?_toList]
  show (Ns l)[k]? = _
  rw [Ns_get hk]
theorem RowN.free (h : RowN w g l) (k : Nat) : w.frozen? ⟨g, k, none⟩ = false := by
  obtain ⟨ty, h⟩ := h
  exact frozen_of_row w g k _ ty h
theorem RowN.far (h : RowN w g l) {a : Addr} (hne : g ≠ a.block) (u : Value) : RowN (w.setCell a u) g l := h.same (heap_setCell_other w a g u hne)
theorem RowN.set (h : RowN w g l) (i : Nat) (x : UInt8) : RowN (w.setCell ⟨g, i, none⟩ (.int .i64 (x.toNat : Int))) g (l.set i x) := by
  obtain ⟨ty, h⟩ := h
  refine ⟨ty, ?_⟩
  rw [heap_setCell_same w g i _ ty _ h, Ns_set]
  congr 2
  apply Array.ext'
  simp
theorem RowN.new {c : Array Value} {t : TypeId} (h : c.toList = Ns l) : RowN (w.alloc (.cells c t)) w.heap.size l := by
  refine ⟨t, ?_⟩
  rw [heap_alloc_new]
  congr 2
  rw [← h]
end
section
variable {P : Program} {ops : Array Oper} {rest : List Oper} {op : Oper} {a : Act} {w : World} {Q : Exit → Act → World → Prop}
theorem wpList_alloc_n (hgd : op.guard = none) (ty : TypeId) (ho : op.op = .alloc ty) (n : Nat)
    (hz : (P.info? ty).map (fun i => (i.zero, i.size)) = some (some (.agg (Ns (List.replicate n 0)).toArray), n))
    (hK : ∀ g w', Fresh w w' g → RowN w' g (List.replicate n 0) → wpList P ops Q rest (a.put op.dst (.pointer (some ⟨g, 0, none⟩))) w') : wpList P ops Q (op :: rest) a w := by
  refine wpList_plain hgd fun K hK2 => ?_
  have hz2 : ∀ w, (zeroValue ty).run P w = .ok (.agg (Ns (List.replicate n 0)).toArray) w := by
    intro w
    cases hq : P.info? ty with
    | none => simp [hq] at hz
    | some i =>
      simp [hq] at hz
      simp [zeroValue, typeInfo, hq, hz.1]
  have hr : (Instr.alloc ty true (.tuple #[])).run P w = .ok (.pointer (some ⟨w.heap.size, 0, none⟩)) (w.alloc (.cells (Ns (List.replicate n 0)).toArray ty)) := by
    simp [Instr.alloc, Sem.run_bind, hz2, newVar, newRow, newObj, Value.cells]
    rfl
  unfold Oper.wp execOp
  simp only [ho, Sem.run_bind, hr, Result.andThen_ok]
  exact hK2 _ _ (hK _ _ ⟨rfl, _, rfl⟩ (RowN.new (by simp)))
theorem wpList_box_n (hgd : op.guard = none) (ty : TypeId) (x : Operand) (ho : op.op = .box ty x) (l : List UInt8) (hx : a.eval x = .agg (Ns l).toArray)
    (hK : ∀ g w', Fresh w w' g → RowN w' g l → wpList P ops Q rest (a.put op.dst (.pointer (some ⟨g, 0, none⟩))) w') : wpList P ops Q (op :: rest) a w := by
  refine wpList_plain hgd fun K hK2 => ?_
  have hr : (Instr.box ty (.agg (Ns l).toArray)).run P w = .ok (.pointer (some ⟨w.heap.size, 0, none⟩)) (w.alloc (.cells (Ns l).toArray ty)) := by
    simp [Instr.box, newVar, newRow, newObj, Value.cells]
    rfl
  unfold Oper.wp execOp
  simp only [ho, hx, Sem.run_bind, hr, Result.andThen_ok]
  exact hK2 _ _ (hK _ _ ⟨rfl, _, rfl⟩ (RowN.new (by simp)))
end

/-- of what was there, the block g alone may have turned -/
def Only (w w' : World) (g : Nat) : Prop := w'.os = w.os ∧ w'.tape = w.tape ∧ w'.output = w.output ∧ w.heap.size ≤ w'.heap.size ∧ ∀ k, k < w.heap.size → k ≠ g → w'.heap[k]? = w.heap[k]?
theorem Only.refl (w : World) (g : Nat) : Only w w g := ⟨rfl, rfl, rfl, Nat.le_refl _, fun _ _ _ => rfl⟩
theorem Only.bel {w w1 w2 : World} {g : Nat} (h : Only w w1 g) (hb : Below w1.heap.size w1 w2) : Only w w2 g :=
  ⟨hb.os.trans h.1, hb.tape.trans h.2.1, hb.output.trans h.2.2.1, Nat.le_trans h.2.2.2.1 hb.size, fun k hk hne => (hb.block k (by have := h.2.2.2.1; omega)).trans (h.2.2.2.2 k hk hne)⟩
theorem Only.cell {w w1 : World} {g : Nat} (h : Only w w1 g) (a : Addr) (u : Value) (ha : a.block = g ∨ w.heap.size ≤ a.block) : Only w (w1.setCell a u) g :=
  ⟨h.1, h.2.1, h.2.2.1, by simpa [World.setCell] using h.2.2.2.1, fun k hk hne => (heap_setCell_other w1 a k u (by rcases ha with h | h <;> omega)).trans (h.2.2.2.2 k hk hne)⟩
theorem Only.drew {w w1 : World} {g : Nat} (h : Only w w1 g) : Only w w1.drew g := h
def TurnB (w : World) (g : Nat) (l : List UInt8) (e : Ending) (w' : World) : Prop := e = .returned (.tuple #[]) ∧ Only w w' g ∧ RowB w' g l
theorem cX_zero (b f : List UInt8) (c r : Nat) (h : r < 4) : (cX b f c r).set r 0 = cX b f c r := by
  rcases (by omega : r = 0 ∨ r = 1 ∨ r = 2 ∨ r = 3) with rfl | rfl | rfl | rfl <;> rfl
/-- columns done -/
def MaR (w : World) (g gf : Nat) (f l : List UInt8) (wr : World) : Prop := w.heap.size ≤ gf ∧ gf ≠ g ∧ Only w wr g ∧ RowN wr gf f ∧ RowB wr g l
def MbR (w : World) (g gf gx : Nat) (f l x : List UInt8) (wr : World) : Prop := w.heap.size ≤ gx ∧ gx ≠ g ∧ gf ≠ gx ∧ MaR w g gf f l wr ∧ RowN wr gx x
theorem MaR.drew {w wr : World} {g gf : Nat} {f l : List UInt8} (h : MaR w g gf f l wr) : MaR w g gf f l wr.drew := h
theorem MbR.drew {w wr : World} {g gf gx : Nat} {f l x : List UInt8} (h : MbR w g gf gx f l x wr) : MbR w g gf gx f l x wr.drew := h
theorem MbR.new {w wr w2 : World} {g gf gx : Nat} {f l x : List UInt8} (h : MaR w g gf f l wr) (hg : g < w.heap.size) (hf : Fresh wr w2 gx) (hr : RowN w2 gx x) : MbR w g gf gx f l x w2 := by
  obtain ⟨a, b, c, d, e⟩ := h
  have h1 := c.2.2.2.1
  have h2 := hf.1
  exact ⟨by omega, by omega, d.ne hf, ⟨a, b, c.bel hf.bw, d.fresh hf, e.fresh hf⟩, hr⟩
theorem MbR.setx {w wr : World} {g gf gx : Nat} {f l x : List UInt8} (h : MbR w g gf gx f l x wr) (i : Nat) (v : UInt8) : MbR w g gf gx f l (x.set i v) (wr.setCell ⟨gx, i, none⟩ (.int .i64 (v.toNat : Int))) := by
  obtain ⟨p, q, r, ⟨a, b, c, d, e⟩, s⟩ := h
  exact ⟨p, q, r, ⟨a, b, c.cell _ _ (.inr p), d.far r _, e.far (fun e => q e.symm) _⟩, s.set i v⟩
theorem MbR.setl {w wr : World} {g gf gx : Nat} {f l x : List UInt8} (h : MbR w g gf gx f l x wr) (i : Nat) (v : UInt8) : MbR w g gf gx f (l.set i v) x (wr.setCell ⟨g, i, none⟩ (.int .u8 (v.toNat : Int))) := by
  obtain ⟨p, q, r, ⟨a, b, c, d, e⟩, s⟩ := h
  exact ⟨p, q, r, ⟨a, b, c.cell _ _ (.inl rfl), d.far b _, e.set i v⟩, s.far q _⟩
theorem info_n : (Try.prog.info? 80).map (fun i => (i.zero, i.size)) = some (some (.agg (Ns (List.replicate 4 0)).toArray), 4) := by kernel_rfl

set_option maxRecDepth 40000 in
set_option maxHeartbeats 2000000 in
theorem ref_mix (b f : List UInt8) (g : Nat) (w : World) (hb : b.length = 16) (hf : f.length = 4) (hr : RowB w g b) :
    Calls Try.prog 71 #[.pointer (some ⟨g, 0, none⟩), .agg (Ns f).toArray] w (TurnB w g (mxF b f 4)) := by
  have HL := Lib.hid (show _ ∧ _ ∧ _ from ⟨hb, hf, hr.lt⟩)
  have HR := Lib.hid hr
  clear hb hf hr
  go_enter Try.func71, Try.ntmps71
  go_wp2_with (first
    | ((with_reducible refine wpList_box_n (op := ⟨some 3, _, _, _, _, _⟩) rfl 80 (.tmp 1) rfl f rfl ?_); intro gf w1 hf1 hr1; have HI := Lib.hid (show MaR w g gf f (mxF b f 0) w1 from ⟨by rw [hf1.1]; exact Nat.le_refl _, by have := HL.out.2.2; have := hf1.1; omega, (Only.refl w g).bel hf1.bw, hr1, HR.out.fresh hf1⟩); clear hf1 hr1))
  go_loopw [4] (fun i wr => ∃ c : Nat, c ≤ 4 ∧ i = .int .i64 (c : Int) ∧ Hid (MaR w g gf f (mxF b f c) wr)) (fun i _ => 4 - (intOf i).toNat)
  case atStart => exact ⟨0, by decide, rfl, HI⟩
  case round =>
    clear HI
    obtain ⟨c, hc, rfl, HS⟩ := hrel
    by_cases h4 : c < 4
    · obtain ⟨l, hl⟩ : ∃ l, l = mxF b f c := ⟨_, rfl⟩
      have HLl := Lib.hid (show l.length = 16 by rw [hl, mxF_length, HL.out.1])
      have HLn := Lib.hid (show cB l (cX l f c 4) c 4 = mxF b f (c + 1) by rw [hl]; rfl)
      rw [← hl] at HS
      clear hl
      go_wp2_with (first
        | ((with_reducible refine wpList_alloc_n (op := ⟨some 5, _, _, _, _, _⟩) rfl 80 rfl 4 info_n ?_); intro gx w2 hf2 hr2; have HJ := Lib.hid (show MbR w g gf gx f l (cX l f c 0) w2 from MbR.new HS.out HL.out.2.2 hf2 hr2); clear hf2 hr2))
      go_loopw [6] (fun i wr => ∃ r : Nat, r ≤ 4 ∧ i = .int .i64 (r : Int) ∧ Hid (MbR w g gf gx f l (cX l f c r) wr)) (fun i _ => 4 - (intOf i).toNat)
      case atStart => exact ⟨0, by decide, rfl, HJ⟩
      case round =>
        clear HJ
        obtain ⟨r, hr, rfl, HS⟩ := hrel
        by_cases hr4 : r < 4
        · obtain ⟨x, hx⟩ : ∃ x, x = cX l f c r := ⟨_, rfl⟩
          have HXL := Lib.hid (show x.length = 4 by rw [hx, cX_length])
          have HXn := Lib.hid (show x.set r (cS l f c r 4) = cX l f c (r + 1) by rw [hx]; rfl)
          have HX0 := Lib.hid (show x.set r (cS l f c r 0) = x by rw [hx]; exact cX_zero l f c r hr4)
          rw [← hx] at HS
          clear hx
          have r3 : (r : Int) < 4 := by omega
          go_wp2_with fail
          go_loopw [7] (fun i wr => ∃ k : Nat, k ≤ 4 ∧ i = .int .i64 (k : Int) ∧ Hid (MbR w g gf gx f l (x.set r (cS l f c r k)) wr)) (fun i _ => 4 - (intOf i).toNat)
          case atStart => exact ⟨0, by decide, rfl, by rw [HX0.out]; exact HS⟩
          case round =>
            clear HS
            obtain ⟨k, hk, rfl, HS⟩ := hrel
            by_cases hk4 : k < 4
            · obtain ⟨s, hs⟩ : ∃ s, s = cS l f c r k := ⟨_, rfl⟩
              obtain ⟨p, hp⟩ : ∃ p, p = l.getD (4 * c + k) 0 := ⟨_, rfl⟩
              obtain ⟨q, hq⟩ : ∃ q, q = f.getD ((k + 4 - r) % 4) 0 := ⟨_, rfl⟩
              obtain ⟨t, ht⟩ : ∃ t, t = (k + 4 - r) % 4 := ⟨_, rfl⟩
              have HN := Lib.hid (show s ^^^ gm p q = cS l f c r (k + 1) by rw [hs, hp, hq]; rfl)
              rw [← hs] at HS
              have y1 : wr.cell? ⟨gx, r, none⟩ = some (.int .i64 (s.toNat : Int)) := by
                rw [HS.out.2.2.2.2.cell (by rw [List.length_set, HXL.out]; exact hr4)]
                simp [List.getD, HXL.out, hr4]
              have y2 : wr.cell? ⟨g, 4 * c + k, none⟩ = some (.int .u8 (p.toNat : Int)) := by rw [hp]; exact HS.out.2.2.2.1.2.2.2.2.cell (by rw [HLl.out]; omega)
              have y3 : wr.cell? ⟨gf, t, none⟩ = some (.int .i64 (q.toNat : Int)) := by rw [hq, ht]; exact HS.out.2.2.2.1.2.2.2.1.cell (by rw [HL.out.2.1]; omega)
              have yf := HS.out.2.2.2.2.free r
              clear hs hp hq
              go_wp2_with fail
              have q1 : IntKind.i64.wrap (4 * (c : Int)) = 4 * (c : Int) := by rw [IntKind.wrap_i64]; omega
              have q2 : IntKind.i64.wrap (4 * (c : Int) + (k : Int)) = 4 * (c : Int) + (k : Int) := by rw [IntKind.wrap_i64]; omega
              have q3 : IntKind.i64.wrap ((k : Int) - (r : Int)) = (k : Int) - (r : Int) := by rw [IntKind.wrap_i64]; omega
              have q4 : IntKind.i64.wrap ((k : Int) - (r : Int) + 4) = (k : Int) - (r : Int) + 4 := by rw [IntKind.wrap_i64]; omega
              have q5 : ((k : Int) - (r : Int) + 4).tmod 4 = (t : Int) := by rw [Int.tmod_eq_emod_of_nonneg (by omega)]; omega
              have q5' : ((k : Int) - (r : Int) + 4) % 4 = (t : Int) := by omega
              have q6 : IntKind.i64.wrap (t : Int) = (t : Int) := by rw [IntKind.wrap_i64]; omega
              have q7 : IntKind.i64.wrap (p.toNat : Int) = (p.toNat : Int) := by have := p.toNat_lt; rw [IntKind.wrap_i64]; omega
              have r1 : (0 : Int) ≤ 4 * (c : Int) + (k : Int) ∧ 4 * (c : Int) + (k : Int) < 16 := by omega
              have r2 : (t : Int) < 4 := by omega
              have n1 : (4 * (c : Int) + (k : Int)).toNat = 4 * c + k := by omega
              have hpl := p.toNat_lt
              clear ht
              go_still_tail 22, (by kernel_rfl)
              still_call (ref_times p q _)
              repeat still_step
              refine wpStill_nil ?_
              change wpList _ _ _ _ _ wr.drew
              have y1' : wr.drew.cell? ⟨gx, r, none⟩ = some (.int .i64 (s.toNat : Int)) := y1
              have yf' : wr.drew.frozen? ⟨gx, r, none⟩ = false := yf
              have HS2 := Lib.hid HS.out.drew
              clear HS y1 y2 y3 yf q1 q2 q3 q4 q5 q5' q6 q7 r1 n1
              generalize wr.drew = w4 at *
              go_wp2_with fail
              go_roundw
              case rel =>
                refine ⟨k + 1, by omega, by go_num, Lib.hid ?_⟩
                exact (by have h := HS2.out.setx r (cS l f c r (k + 1)); rw [List.set_set] at h; rw [i_xor, HN.out]; exact h)
              case measure => simp [intOf]; omega
            · obtain rfl : k = 4 := by omega
              clear hk4 hk
              rw [HXn.out] at HS
              go_wp2_with fail
              go_roundw
              case rel => exact ⟨r + 1, by omega, by go_num, HS⟩
              case measure => simp [intOf]; omega
        · obtain rfl : r = 4 := by omega
          clear hr4 hr
          obtain ⟨x, hx⟩ : ∃ x, x = cX l f c 4 := ⟨_, rfl⟩
          have HXL := Lib.hid (show x.length = 4 by rw [hx, cX_length])
          rw [← hx] at HS HLn
          clear hx
          go_wp2_with fail
          go_loopw [8] (fun i wr => ∃ r : Nat, r ≤ 4 ∧ i = .int .i64 (r : Int) ∧ Hid (MbR w g gf gx f (cB l x c r) x wr)) (fun i _ => 4 - (intOf i).toNat)
          case atStart => exact ⟨0, by decide, rfl, HS⟩
          case round =>
            clear HS
            obtain ⟨r, hr, rfl, HS⟩ := hrel
            by_cases hr4 : r < 4
            · obtain ⟨s, hs⟩ : ∃ s, s = x.getD r 0 := ⟨_, rfl⟩
              obtain ⟨m, hm⟩ : ∃ m, m = cB l x c r := ⟨_, rfl⟩
              have HN := Lib.hid (show m.set (4 * c + r) s = cB l x c (r + 1) by rw [hm, hs]; rfl)
              have HML := Lib.hid (show m.length = 16 by rw [hm, cB_length, HLl.out])
              rw [← hm] at HS
              have y1 : wr.cell? ⟨gx, r, none⟩ = some (.int .i64 (s.toNat : Int)) := by rw [hs]; exact HS.out.2.2.2.2.cell (by rw [HXL.out]; exact hr4)
              obtain ⟨u, hu⟩ : ∃ u, wr.cell? ⟨g, 4 * c + r, none⟩ = some u := ⟨_, HS.out.2.2.2.1.2.2.2.2.cell (by rw [HML.out]; omega)⟩
              have yf := HS.out.2.2.2.1.2.2.2.2.free (4 * c + r)
              clear hs hm
              go_wp2_with fail
              have q1 : IntKind.i64.wrap (4 * (c : Int)) = 4 * (c : Int) := by rw [IntKind.wrap_i64]; omega
              have q2 : IntKind.i64.wrap (4 * (c : Int) + (r : Int)) = 4 * (c : Int) + (r : Int) := by rw [IntKind.wrap_i64]; omega
              have q7 : IntKind.u8.wrap (s.toNat : Int) = (s.toNat : Int) := by have := s.toNat_lt; rw [IntKind.wrap_u8]; omega
              have r1 : (0 : Int) ≤ 4 * (c : Int) + (r : Int) ∧ 4 * (c : Int) + (r : Int) < 16 := by omega
              have r3 : (r : Int) < 4 := by omega
              have n1 : (4 * (c : Int) + (r : Int)).toNat = 4 * c + r := by omega
              have e1 : (s.toNat : Int) % 256 = (s.toNat : Int) := by have := s.toNat_lt; omega
              go_still_tail 11, (by kernel_rfl)
              change wpList _ _ _ _ _ wr.drew
              have hu' : wr.drew.cell? ⟨g, 4 * c + r, none⟩ = some u := hu
              have yf' : wr.drew.frozen? ⟨g, 4 * c + r, none⟩ = false := yf
              have HS2 := Lib.hid HS.out.drew
              clear HS y1 hu yf q1 q2 q7
              generalize wr.drew = w4 at *
              go_wp2_with fail
              go_roundw
              case rel =>
                (repeat apply Exists.intro)
                exact ⟨⟨r + 1, by omega, by go_num, Lib.hid (by rw [← HN.out]; exact HS2.out.setl (4 * c + r) s)⟩, rfl⟩
              case measure => simp [intOf]; omega
            · obtain rfl : r = 4 := by omega
              clear hr4 hr
              rw [HLn.out] at HS
              have HS2 := Lib.hid HS.out.2.2.2.1
              clear HS
              go_wp2_with fail
              go_roundw
              case rel => exact ⟨c + 1, by omega, by go_num, HS2⟩
              case measure => simp [intOf]; omega
    · obtain rfl : c = 4 := by omega
      go_wp2_with fail
      go_end0
      exact ⟨rfl, HS.out.2.2.1, HS.out.2.2.2.2⟩

end Go.Proofs.Ytddobbigpoplpaa
