/-
  What is proved here: what the makers' Loose gives: an encoding of the objects with lengths in some form.
-/
import Derived.Test.YtipmmclahngabaaRows
import Derived.Test.YtipmmclahngabaaKit
import Derived.Test.YtipmmclahngabaaLoo
import Derived.Test.YtipmmclahngabaaTagR
import Derived.Deep.CutRange
import Derived.Laws.AppendOwnNone
namespace Go.Proofs.Ytipmmclahngabaa
open Go.RowKit
set_option linter.unusedVariables false

/-- the row v of the call's own holds the bytes l -/
def St2 (w : World) (D : Nat) (l : List UInt8) (v : Value) (wX : World) : Prop := wX.ownsRow w.heap.size 5 1 v l.length (Us l) ∧ w.grownBy wX (some D) ∧ DiceOk wX D
theorem own_row {w : World} {base : Nat} {e : TypeId} {s : Nat} {v : Value} {n : Nat} {xs : List Value} (h : w.ownsRow base e s v n xs) : ∀ g, v.ownBlock = some g → base ≤ g := fun g e => (h.lt g e).1
theorem St2.app {w wX w2 : World} {D : Nat} {l xs : List UInt8} {v v2 : Value} {o : Obj} {n : Nat} {news : List Value} (h : St2 w D l v wX) (hDw : D < w.heap.size) (hn : n = xs.length) (he : news = Us xs) (ho : w2.ownsRow w.heap.size 5 1 v2 (l.length + n) (Us l ++ news)) (hg : (wX.alloc o).grownBy w2 v.ownBlock) : St2 w D (l ++ xs) v2 w2 := by
  subst hn he
  refine ⟨by rw [List.length_append, Us_append]; exact ho, grown_row (grown_trans h.2.1 (grown_alloc wX o (some D))) hg (own_row h.1), ?_⟩
  exact (h.2.2.below ((Below.refl _ _).alloc (Nat.le_refl _) o)).grown hg fun g e => by have := own_row h.1 g e; omega
theorem St2.src {w wX w2 : World} {D : Nat} {l xs : List UInt8} {v v2 : Value} (h : St2 w D l v wX) (hDw : D < w.heap.size) (ho : w2.ownsRow w.heap.size 5 1 v2 (l.length + xs.length) (Us l ++ Us xs)) (hg : wX.grownBy w2 v.ownBlock) : St2 w D (l ++ xs) v2 w2 :=
  ⟨by rw [List.length_append, Us_append]; exact ho, grown_row h.2.1 hg (own_row h.1), h.2.2.grown hg fun g e => by have := own_row h.1 g e; omega⟩
theorem St2.far {w wX w2 : World} {D : Nat} {l : List UInt8} {v : Value} (h : St2 w D l v wX) (hDw : D < w.heap.size) (hg : wX.grownBy w2 (some D)) (hd : DiceOk w2 D) : St2 w D l v w2 := by
  refine ⟨own_far h.1 hg ?_, grown_trans h.2.1 hg, hd⟩
  intro e
  have := own_row h.1 D e
  omega
/-- content that lies apart from the row -/
def Con (wX : World) (v : Value) (A : Option Addr) (c : Nat) (cb : List UInt8) : Prop := SeesP wX (fun b => b < wX.heap.size ∧ v.ownBlock ≠ some b) A (Us cb) ∧ (A = none → c = 0)
theorem Con.grown {wX w2 : World} {D : Nat} {v : Value} {A : Option Addr} {cb : List UInt8} (h : SeesP wX (fun b => b < wX.heap.size ∧ v.ownBlock ≠ some b ∧ b ≠ D) A (Us cb)) (hg : wX.grownBy w2 (some D)) : SeesP w2 (fun b => b < w2.heap.size ∧ v.ownBlock ≠ some b ∧ b ≠ D) A (Us cb) :=
  (h.keep fun q hq => grown_cell hg hq.1 hq.2.2).imp fun b hb => ⟨Nat.lt_of_lt_of_le hb.1 hg.size, hb.2⟩
/-- the content behind an append onto the row -/
theorem con_row {wX w2 : World} {v : Value} {A : Option Addr} {cb : List UInt8} {o : Obj} (h : SeesP wX (fun b => b < wX.heap.size ∧ v.ownBlock ≠ some b) A (Us cb)) (hg : (wX.alloc o).grownBy w2 v.ownBlock) : ∀ ad, A = some ad → ∀ j u, (Us cb)[j]? = some u → w2.cell? (ad.add j) = some u :=
  SeesP.src (p := fun b => b < wX.heap.size ∧ v.ownBlock ≠ some b) (h.keep fun q hq => (World.cell?_of_block (hg.block q.block (by simp; omega) (fun e => hq.2 e.symm))).trans (World.cell?_alloc_lt wX o q hq.1))

theorem t1 (t : Nat) : #[Value.int .u8 ((t : Int) % 256)].toList = Us [UInt8.ofNat t] := by simp [Us, U]
theorem h83 (n : Nat) : #[Value.int .u8 131, .int .u8 0, .int .u8 ((n : Int) / 256 % 256), .int .u8 ((n : Int) % 256)].toList = Us [131, 0, UInt8.ofNat (n / 256), UInt8.ofNat n] := by simp [Us, U]
theorem h84 (n : Nat) : #[Value.int .u8 132, .int .u8 0, .int .u8 0, .int .u8 ((n : Int) / 256 % 256), .int .u8 ((n : Int) % 256)].toList = Us [132, 0, 0, UInt8.ofNat (n / 256), UInt8.ofNat n] := by simp [Us, U]
theorem h82 (n : Nat) : #[Value.int .u8 130, .int .u8 ((n : Int) / 256 % 256), .int .u8 ((n : Int) % 256)].toList = Us [130, UInt8.ofNat (n / 256), UInt8.ofNat n] := by simp [Us, U]
theorem h81 {n : Nat} (h : n < 256) : #[Value.int .u8 129, .int .u8 (n : Int)].toList = Us [129, UInt8.ofNat n] := by simp [Us, U]; omega
theorem h00 {n : Nat} (h : n < 256) : #[Value.int .u8 (n : Int)].toList = Us [UInt8.ofNat n] := by simp [Us, U]; omega
theorem o83 {t : Int} {n : Nat} (h : n ≤ 65535) : HdOk false t n [131, 0, UInt8.ofNat (n / 256), UInt8.ofNat n] [] :=
  .inr (.inl ⟨rfl, 3, [0, UInt8.ofNat (n / 256), UInt8.ofNat n], rfl, rfl, by decide, by decide, by simp [numL]; omega, fun h => by cases h⟩)
theorem o84 {t : Int} {n : Nat} (h : n ≤ 65535) : HdOk false t n [132, 0, 0, UInt8.ofNat (n / 256), UInt8.ofNat n] [] :=
  .inr (.inl ⟨rfl, 4, [0, 0, UInt8.ofNat (n / 256), UInt8.ofNat n], rfl, rfl, by decide, by decide, by simp [numL]; omega, fun h => by cases h⟩)
theorem o82 {t : Int} {n : Nat} (h : n ≤ 65535) : HdOk false t n [130, UInt8.ofNat (n / 256), UInt8.ofNat n] [] :=
  .inr (.inl ⟨rfl, 2, [UInt8.ofNat (n / 256), UInt8.ofNat n], rfl, rfl, by decide, by decide, by simp [numL]; omega, fun h => by cases h⟩)
theorem o81 {t : Int} {n : Nat} (h : n ≤ 255) : HdOk false t n [129, UInt8.ofNat n] [] :=
  .inr (.inl ⟨rfl, 1, [UInt8.ofNat n], rfl, rfl, by decide, by decide, by simp [numL]; omega, fun h => by cases h⟩)
theorem o00 {t : Int} {n : Nat} (h : n ≤ 127) : HdOk false t n [UInt8.ofNat n] [] := .inl ⟨rfl, rfl, h⟩
theorem o80 {t : Int} {n : Nat} (h : consB t = true) : HdOk false t n [128] [0, 0] := .inr (.inr ⟨rfl, rfl, rfl, h⟩)
theorem u8s_cells {l : List Value} {xs : List UInt8} (h : l = Us xs) : ∀ u ∈ l, u.oneCell' = true := by rw [h]; exact Us_one xs

/-- what Loose answers -/
def LooIs (w : World) (D : Nat) (f : F) (e : Ending) (w' : World) : Prop := ∃ (b : List UInt8) (A : Option Addr) (c : Nat), e = .returned (.slice A b.length c) ∧ b.length ≤ c ∧ (A = none → c = 0) ∧ SeesP w' (newB w w') A (Us b) ∧ (b.length ≤ 4096 → LooseOf false f b) ∧ b.length ≤ f.size * 400 ∧ w.grownBy w' (some D) ∧ DiceOk w' D
/-- what Loose's loop keeps: g is to come -/
def LRel (w : World) (D : Nat) (p : Nat → Prop) (cs : List Value) (f : F) (v : Value) (j : Nat) (g : F) (l : List UInt8) (wr : World) : Prop :=
  St2 w D l v wr ∧ HoldsP w p g (cs.drop (3 * j)) ∧ ∃ df : F, df.app g = f ∧ (l.length ≤ 4096 → LooseOf false df l) ∧ l.length ≤ df.size * 400 ∧ df.size + g.size = f.size
theorem LRel.step {w w2 : World} {D : Nat} {p : Nat → Prop} {cs : List Value} {f : F} {v2 : Value} {j : Nat} {t : Int} {v ck : List UInt8} {kk r : F} {l hd tl L : List UInt8}
    (hh : HoldsP w p r (cs.drop (3 * (j + 1)))) (hx : ∃ df : F, df.app (.cons t v kk r) = f ∧ (l.length ≤ 4096 → LooseOf false df l) ∧ l.length ≤ df.size * 400 ∧ df.size + (F.cons t v kk r).size = f.size)
    (hL : L = l ++ tagL t.toNat ++ hd ++ (v ++ ck) ++ tl) (hst : St2 w D L v2 w2) (hck : ck.length ≤ 4096 → LooseOf false kk ck) (hcl : ck.length ≤ kk.size * 400) (hvl : v.length ≤ 300) (hhl : hd.length + tl.length ≤ 5)
    (hok : v.length + ck.length ≤ 4096 → HdOk false t (v.length + ck.length) hd tl) : LRel w D p cs f v2 (j + 1) r L w2 := by
  obtain ⟨df, d1, d2, d3, d4⟩ := hx
  have hlen : L.length = l.length + (tagL t.toNat).length + hd.length + (v.length + ck.length) + tl.length := by rw [hL]; simp only [List.length_append]
  have hT : (tagL t.toNat).length ≤ 2 := by unfold tagL; split <;> simp
  refine ⟨hst, hh, df.app (.cons t v kk .nil), by rw [F.app_assoc]; exact d1, fun h => ?_, ?_, ?_⟩
  · have h1 : LooseOf false (.cons t v kk .nil) (tagL t.toNat ++ (hd ++ (v ++ ck ++ (tl ++ [])))) := ⟨ck, [], hd, tl, hck (by omega), rfl, hok (by omega), rfl⟩
    have h2 := LooseOf.app h1 (d2 (by omega))
    rw [hL]
    simp only [List.append_assoc, List.append_nil] at h2 ⊢
    exact h2
  · rw [F.size_app]; simp only [F.size]; omega
  · rw [F.size_app]; simp only [F.size] at d4 ⊢; omega

/-- an append of content that lies apart, or of none -/
theorem append_con {P : Program} {w : World} {ops : Array Oper} {rest : List Oper} {o : Oper} {a : Act} {Q : Exit → Act → World → Prop} (hgd : o.guard = none) (s x : Operand) (t : TypeId)
    (ho : o.op = .call { callee := .builtin .append, args := #[s, x], argTypes := #[t, t] })
    (base : Nat) (e : TypeId) (i : TypeInfo) (z : Value) (ht : P.underlying t = some (.slice e)) (hi : P.info? e = some i) (hz : i.zero = some z)
    (hsize : i.size = 1) (hby : i.bytes = 1) (hzs : z.cells.size = 1)
    (v : Value) (n : Nat) (xs : List Value) (hs : a.eval s = v) (hown : w.ownsRow base e 1 v n xs)
    (A : Option Addr) (c : Nat) (cb : List UInt8) (hx : a.eval x = .slice A cb.length c) (hn : A = none → c = 0) (hcc : A = none → cb = []) (hc : ∀ ad, A = some ad → ∀ j u, (Us cb)[j]? = some u → w.cell? (ad.add j) = some u)
    (h63 : n + cb.length ≤ maxLen) (hbytes : n + cb.length ≤ 140737488355328) (hbase : base ≤ w.heap.size)
    (h : ∀ v' w', w'.ownsRow base e 1 v' (n + cb.length) (xs ++ Us cb) → w.grownBy w' v.ownBlock → wpList P ops Q rest (a.put o.dst v') w') : wpList P ops Q (o :: rest) a w := by
  cases A with
  | none =>
    have h1 := hcc rfl
    have h2 := hn rfl
    subst h1 h2
    exact wpList_append_own_none hgd s x t ho base e i 1 ht hi v n xs hs hown hx (h v w (by simpa [Us] using hown) (World.grownBy.refl _ _))
  | some ad =>
    exact wpList_append_own w hgd s x t ho base e i z 1 1 ht hi hz hsize hby hzs (by decide) v n xs hs hown ad cb.length c (Us cb) hx (by rw [Us_length]; omega) (hc ad rfl) (Us_one _) h63 (by omega) hbase fun v' w' h1 h2 _ => h v' w' h1 h2
/-- LRel.step with the content as it is written -/
theorem LRel.step2 {w w2 : World} {D : Nat} {p : Nat → Prop} {cs : List Value} {f : F} {v2 : Value} {j T : Nat} {v ck cb : List UInt8} {kk r : F} {l L2 hd tl L : List UInt8}
    (hh : HoldsP w p r (cs.drop (3 * (j + 1)))) (hx : ∃ df : F, df.app (.cons (T : Int) v kk r) = f ∧ (l.length ≤ 4096 → LooseOf false df l) ∧ l.length ≤ df.size * 400 ∧ df.size + (F.cons (T : Int) v kk r).size = f.size)
    (h2 : L2 = l ++ tagL T) (he : cb = v ++ ck) (hL : L = L2 ++ hd ++ cb ++ tl) (hst : St2 w D L v2 w2) (hck : ck.length ≤ 4096 → LooseOf false kk ck) (hcl : ck.length ≤ kk.size * 400) (hvl : v.length ≤ 300) (hhl : hd.length + tl.length ≤ 5)
    (hok : cb.length ≤ 4096 → HdOk false (T : Int) cb.length hd tl) : LRel w D p cs f v2 (j + 1) r L w2 := by
  subst he h2
  refine LRel.step hh hx (hd := hd) (tl := tl) ?_ hst hck hcl hvl hhl (fun h => ?_)
  · rw [hL, Int.toNat_natCast]
  · have := hok (by rw [List.length_append]; exact h)
    rwa [List.length_append] at this

def LooAll (n : Nat) : Prop := ∀ (f : F) (m : Nat) (A : Option Addr) (c D : Nat) (w : World), f.size < n → f.gd m → SeesF w (fun b => b < w.heap.size ∧ b ≠ D) A f → DiceOk w D →
  Calls Try.prog 35 #[.pointer (some ⟨D, 0, none⟩), .slice A f.len c] w (LooIs w D f)

set_option maxRecDepth 20000 in
set_option maxHeartbeats 8000000 in
theorem made_loose (n : Nat) (hn : n ≤ 1000) : LooAll n := by
  induction n with
  | zero => intro f m A c D w h; omega
  | succ n ih =>
    intro f m A c D w hsz hgd hs hdo
    obtain ⟨i0, hi, hz0, hz1, hz2⟩ := info_parts info_u8b
    obtain ⟨cs, s1, k1⟩ := hs
    have hDw := hdo.lt
    have hlen := f.len_le_size
    have IH := Lib.hid (ih (by omega))
    have HS := Lib.hid (show SeesP w (fun b => b < w.heap.size ∧ b ≠ D) A cs from s1)
    have H0 := Lib.hid (show LRel w D (fun b => b < w.heap.size ∧ b ≠ D) cs f (.slice none 0 0) 0 f [] w from ⟨⟨⟨rfl, .inl ⟨rfl, rfl⟩⟩, World.grownBy.refl _ _, hdo⟩, k1, .nil, rfl, fun _ => rfl, by simp, by simp [F.size]⟩)
    have HGD := Lib.hid hgd
    clear ih s1 k1 hdo hgd
    go_enter Try.func35, Try.ntmps35
    go_wp2_with fail
    go_loopw [5, 6] (fun v i wr => ∃ (j : Nat) (g : F) (l : List UInt8), j + g.len = f.len ∧ i = .int .i64 (j : Int) ∧ g.size ≤ f.size ∧ Hid (LRel w D (fun b => b < w.heap.size ∧ b ≠ D) cs f v j g l wr ∧ g.gd m)) (fun _ i _ => f.len - (intOf i).toNat)
    case atStart => exact ⟨0, f, [], by omega, rfl, Nat.le_refl _, Lib.hid ⟨H0.out, HGD.out⟩⟩
    case round =>
      clear H0 HGD
      obtain ⟨j, g, l, hj, rfl, hgs, HG⟩ := hrel
      cases g with
      | nil =>
        have hb : LooIs w D f (.returned u5) wr := by
          obtain ⟨⟨st, _, df, d1, d2, d3, d4⟩, _⟩ := HG.out
          rw [F.app_nil] at d1
          subst d1
          rcases st.1.2 with ⟨e, h0⟩ | ⟨g, cap, cur, e, hb, hh, hn, hmx, hs, ht⟩
          · have : l = [] := List.eq_nil_of_length_eq_zero h0
            subst this
            exact ⟨[], none, 0, by rw [e]; rfl, by simp, fun _ => rfl, .inl rfl, d2, d3, st.2.1, st.2.2⟩
          · refine ⟨l, some ⟨g, 0, none⟩, cap, by rw [e], hn, (fun e2 => by cases e2), Or.inr ⟨g, 0, rfl, ⟨hb, lt_of_block hh⟩, fun i hi => ?_⟩, d2, d3, st.2.1, st.2.2⟩
            rw [Us_length] at hi
            rw [Nat.zero_add, cell_of_row wr g i cur _ (0, 0) hh, ← ht, List.getElem?_take, if_pos (by omega), Array.getElem?_toList]
        have hj2 : j = f.len := hj
        have HF := Lib.hid hb
        clear hb HG hj
        go_wp2_with fail
        go_ret
        exact HF.out
      | cons t v kk r =>
        have hj1 : j + r.len + 1 = f.len := hj
        have hgs1 : kk.size + r.size + 1 ≤ f.size := hgs
        obtain ⟨⟨st, hh, hx⟩, ⟨g1, g2, g3, g4, g5, g6, g7, g8⟩⟩ := HG.out
        have hvr := valid_range g2
        obtain ⟨T, rfl⟩ := Int.eq_ofNat_of_zero_le (show 0 ≤ t by omega)
        have hT : T ≤ 65535 := by omega
        have hl4 : l.length ≤ 400 * f.size := by
          obtain ⟨df, _, _, d3, d4⟩ := hx; omega
        obtain ⟨b, off, Av, cv, Ak, ck, rfl, hp, x0, x1, x2, sv, sk, hr, hnv⟩ := node_at HS.out hh
        have hlt : j < f.len := by omega
        have y0 := (grown_cell st.2.1 (p := ⟨b, off + j * 3, none⟩) hp.1 hp.2).trans x0
        have HP := Lib.hid (show b < w.heap.size ∧ b ≠ D from hp)
        have HX := Lib.hid (show (∃ df : F, df.app (.cons (T : Int) v kk r) = f ∧ (l.length ≤ 4096 → LooseOf false df l) ∧ l.length ≤ df.size * 400 ∧ df.size + (F.cons (T : Int) v kk r).size = f.size) ∧ HoldsP w (fun b => b < w.heap.size ∧ b ≠ D) r (cs.drop (3 * (j + 1))) ∧ SeesP w (fun b => b < w.heap.size ∧ b ≠ D) Av (Us v) ∧ SeesF w (fun b => b < w.heap.size ∧ b ≠ D) Ak kk ∧ (Av = none → cv = 0) ∧ r.gd m from ⟨hx, hr, sv, sk, hnv, g8⟩)
        have HQ := Lib.hid (show kk.gd (m - 1) ∧ (consB (T : Int) = true → v = []) ∧ (consB (T : Int) = false → kk = .nil) ∧ v.length ≤ 300 ∧ w.cell? ⟨b, off + j * 3 + 1, none⟩ = some (.slice Av v.length cv) ∧ w.cell? ⟨b, off + j * 3 + 2, none⟩ = some (.slice Ak kk.len ck) from ⟨g7, g3, g4, g5, x1, x2⟩)
        have ST := Lib.hid st
        have HK := Lib.hid (fun u => ref_cons (T : Int) (by omega) (by omega) u)
        have hown := st.1
        have hwsz := st.2.1.size
        clear hj hgs HG hh hx hr sv sk hnv g1 g2 g3 g4 g5 g6 g7 g8 x0 x1 x2 hp st hvr
        go_upto_if 23 with fail
        go_cut [5] from 11 to 128 (fun v5 wx => ∃ l1 : List UInt8, Hid (St2 w D l1 v5 wx ∧ l1 ++ [UInt8.ofNat T] = l ++ tagL T ∧ l1.length ≤ l.length + 1))
        case first =>
          by_cases h255 : 255 < T
          · have d255 : decide ((255 : Int) < (T : Int)) = true := by simp; omega
            have eq1 : #[Value.int .u8 ((T : Int) / 256)].toList = Us [UInt8.ofNat (T / 256)] := by simp [Us, U]; omega
            go_wp2_with (at_builtin; refine wpList_append_own _ rfl (.tmp 24) (.tmp 28) 27 rfl w.heap.size 5 i0 (.int .u8 0) 1 1 Try.underlying27 hi hz0 hz1 hz2 rfl (by decide) u5 (l.length) _ rfl (hown.alloc _) ⟨_, 0, none⟩ 1 1 _ rfl rfl (World.news_of_block (heap_alloc_new _ _)) (u8s_cells eq1) (by unfold maxLen; omega) (by omega) (by simp; omega) ?_; intro va wa ho hg _; have ST1 := Lib.hid (St2.app (xs := [UInt8.ofNat (T / 256)]) ST.out hDw rfl eq1 ho hg))
            go_meet
            exact ⟨_, Lib.hid ⟨ST1.out, by unfold tagL; rw [if_pos h255]; simp, by simp⟩⟩
          · have d255 : decide ((255 : Int) < (T : Int)) = false := by simp; omega
            go_wp2_with fail
            go_meet
            exact ⟨_, Lib.hid ⟨ST.out, by unfold tagL; rw [if_neg h255], by omega⟩⟩
        case rest =>
          obtain ⟨l1, HC⟩ := hcut
          clear hown hwsz ST y0
          have hown1 := HC.out.1.1
          have hsz1 := HC.out.1.2.1.size
          have hl1 := HC.out.2.2
          go_upto_if 42 with (first | (at_builtin; refine wpList_append_own _ rfl (.tmp 30) (.tmp 33) 27 rfl w.heap.size 5 i0 (.int .u8 0) 1 1 Try.underlying27 hi hz0 hz1 hz2 rfl (by decide) u5 (l1.length) _ rfl (hown1.alloc _) ⟨_, 0, none⟩ 1 1 _ rfl rfl (World.news_of_block (heap_alloc_new _ _)) (u8s_cells (t1 T)) (by unfold maxLen; omega) (by omega) (by simp; omega) ?_; intro vb wb ho hg _; have STX := Lib.hid (St2.app (xs := [UInt8.ofNat T]) HC.out.1 hDw rfl (t1 T) ho hg); have ST2 := Lib.hid (show St2 w D (l ++ tagL T) vb wb from HC.out.2.1 ▸ STX.out); have y1 := (grown_cell ST2.out.2.1 (p := ⟨b, off + j * 3 + 1, none⟩) HP.out.1 HP.out.2).trans HQ.out.2.2.2.2.1; have y2 := (grown_cell ST2.out.2.1 (p := ⟨b, off + j * 3 + 2, none⟩) HP.out.1 HP.out.2).trans HQ.out.2.2.2.2.2; have hsz2 := ST2.out.2.1.size; clear ho hg STX) | (go_at_call 15; refine (HK.out _).mono ?_; rintro e w' ⟨rfl, rfl⟩))
          clear hown1 hsz1 hl1 HC y1
          go_cut [8, 9] from 11 to 128 (fun v8 v9 wx => ∃ (A : Option Addr) (cn : Nat) (cb ckl L2 : List UInt8), v9 = .bool (consB (T : Int)) ∧ v8 = .slice A cb.length cn ∧ Hid (St2 w D L2 vb wx ∧ L2 = l ++ tagL T ∧ SeesP wx (fun q => q < wx.heap.size ∧ vb.ownBlock ≠ some q ∧ q ≠ D) A (Us cb) ∧ (A = none → cn = 0) ∧ cb = v ++ ckl ∧ (ckl.length ≤ 4096 → LooseOf false kk ckl) ∧ ckl.length ≤ kk.size * 400))
          case first =>
            cases hcb : consB (T : Int)
            · go_wp2_with fail
              go_meet
              refine ⟨Av, cv, v, [], _, congrArg Value.bool hcb.symm, rfl, Lib.hid ⟨ST2.out, rfl, ?_, HX.out.2.2.2.2.1, (List.append_nil _).symm, fun _ => ?_, by simp⟩⟩
              · refine (HX.out.2.2.1.keep fun q hq => grown_cell ST2.out.2.1 hq.1 hq.2).imp fun q hq => ⟨by omega, ?_, hq.2⟩
                intro e
                have := own_row ST2.out.1 q e
                omega
              · rw [HQ.out.2.2.1 hcb]; rfl
            · have hs2 : SeesF _ (fun q => q < _ ∧ q ≠ D) Ak kk := (HX.out.2.2.2.1.keep fun q hq => grown_cell ST2.out.2.1 hq.1 hq.2).imp fun q hq => ⟨Nat.lt_of_lt_of_le hq.1 hsz2, hq.2⟩
              have HI := Lib.hid (IH.out kk (m - 1) Ak ck D _ (by omega) HQ.out.1 hs2 ST2.out.2.2)
              clear hs2
              go_wp2_with fail
              refine HI.out.mono ?_
              rintro e w2 ⟨bb, A2, c2, rfl, hcl, hcn, hss, hlo, hbl, hgr, hdo⟩
              have HZ := Lib.hid (show _ ∧ _ ∧ _ ∧ _ ∧ _ ∧ _ from ⟨hcn, hss, hlo, hbl, hgr, hdo⟩)
              clear hcl hcn hss hlo hbl hgr hdo HI
              go_wp2_with fail
              go_meet
              obtain ⟨hcn, hss, hlo, hbl, hgr, hdo⟩ := HZ.out
              refine ⟨A2, c2, bb, bb, _, congrArg Value.bool hcb.symm, rfl, Lib.hid ⟨ST2.out.far hDw hgr hdo, rfl, hss.imp fun q hq => ⟨hq.2, ?_, ?_⟩, hcn, by rw [HQ.out.2.1 hcb]; rfl, hlo, hbl⟩⟩
              · intro e
                have := (ST2.out.1.lt q e).2
                have := hq.1
                omega
              · have := hq.1
                omega
          case rest =>
            obtain ⟨A, cn, cb, ckl, L2, rfl, rfl, HC2⟩ := hcut
            clear ST2 y2 hsz2
            have hL2 : L2.length ≤ l.length + 2 := by
              obtain ⟨_, e, _⟩ := HC2.out
              have : (tagL T).length ≤ 2 := (by unfold tagL; split <;> simp)
              rw [e, List.length_append]; omega
            have hcbl : cb.length ≤ 400300 := by obtain ⟨_, _, _, _, e, _, h⟩ := HC2.out; have := HQ.out.2.2.2.1; rw [e, List.length_append]; omega
            have HN := Lib.hid (dice_next D 6 wc (by decide) (by decide) HC2.out.1.2.2)
            go_wp2_with fail
            refine HN.out.mono ?_
            rintro e wy ⟨q, hq, rfl, hgy, hdy⟩
            have HY := Lib.hid (show St2 w D L2 vb wy ∧ SeesP wy (fun q => q < wy.heap.size ∧ vb.ownBlock ≠ some q ∧ q ≠ D) A (Us cb) ∧ (A = none → cb = []) from ⟨HC2.out.1.far hDw hgy hdy, Con.grown HC2.out.2.2.1 hgy, fun e => by have h := HC2.out.2.2.1; rw [e] at h; have := congrArg List.length h.none_nil; rw [Us_length] at this; exact List.eq_nil_of_length_eq_zero this⟩)
            have hown := HY.out.1.1
            have hsz := HY.out.1.2.1.size
            clear HN hgy hdy
            have hqs : q = 0 ∨ q = 1 ∨ q = 2 ∨ q = 3 ∨ q = 4 ∨ q = 5 := by omega
            rcases hqs with rfl | rfl | rfl | rfl | rfl | rfl
            · have hdq : True := trivial
              by_cases h128 : cb.length < 128
              · have d128 : decide ((cb.length : Int) < 128) = true := by simp; omega
                go_wp2_with (first | (at_builtin; refine wpList_append_own _ rfl (.tmp 56) (.tmp 59) 27 rfl w.heap.size 5 i0 (.int .u8 0) 1 1 Try.underlying27 hi hz0 hz1 hz2 rfl (by decide) vb (L2.length) _ rfl (hown.alloc _) ⟨_, 0, none⟩ 1 1 _ rfl rfl (World.news_of_block (heap_alloc_new _ _)) (u8s_cells (h00 (n := cb.length) (by omega))) (by unfold maxLen; omega) (by omega) (by simp; omega) ?_; intro v3 w3 ho hg _; have ST3 := Lib.hid (St2.app (xs := [UInt8.ofNat cb.length]) HY.out.1 hDw rfl (h00 (n := cb.length) (by omega)) ho hg); have CON := Lib.hid (con_row (HY.out.2.1.imp fun q hq => ⟨hq.1, hq.2.1⟩) hg); have hsz3 := ST3.out.2.1.size; have hln3 : (L2 ++ [UInt8.ofNat cb.length]).length ≤ L2.length + 5 := (by simp); clear ho hg) | (at_builtin; refine append_con rfl (.tmp 126) (.tmp 127) 27 rfl w.heap.size 5 i0 (.int .u8 0) Try.underlying27 hi hz0 hz1 hz2 rfl v3 _ _ rfl ST3.out.1 A cn cb rfl HC2.out.2.2.2.1 HY.out.2.2 CON.out (by unfold maxLen; omega) (by omega) hsz3 ?_; intro v4 w4 ho4 hg4; have ST4 := Lib.hid (St2.src ST3.out hDw ho4 hg4); clear ho4 hg4))
                have HF := Lib.hid (show LRel w D (fun b => b < w.heap.size ∧ b ≠ D) cs f _ (j + 1) r _ _ ∧ r.gd m from ⟨LRel.step2 (tl := []) (hd := [UInt8.ofNat cb.length]) HX.out.2.1 HX.out.1 HC2.out.2.1 HC2.out.2.2.2.2.1 (List.append_nil _).symm ST4.out HC2.out.2.2.2.2.2.1 HC2.out.2.2.2.2.2.2 HQ.out.2.2.2.1 (by simp) (fun h => o00 (by omega)), HX.out.2.2.2.2.2⟩)
                clear ST4 
                go_roundw
                case rel => exact ⟨j + 1, r, _, by omega, by go_num, by omega, HF⟩
                case measure => simp [intOf]; omega
              · have d128 : decide ((cb.length : Int) < 128) = false := by simp; omega
                go_wp2_with (first | (at_builtin; refine wpList_append_own _ rfl (.tmp 61) (.tmp 67) 27 rfl w.heap.size 5 i0 (.int .u8 0) 1 1 Try.underlying27 hi hz0 hz1 hz2 rfl (by decide) vb (L2.length) _ rfl (hown.alloc _) ⟨_, 0, none⟩ 3 3 [.int .u8 130, .int .u8 ((cb.length : Int) / 256 % 256), .int .u8 ((cb.length : Int) % 256)] rfl rfl (World.news_of_block (heap_alloc_new _ _)) (u8s_cells (h82 cb.length)) (by unfold maxLen; omega) (by omega) (by simp; omega) ?_; intro v3 w3 ho hg _; have ST3 := Lib.hid (St2.app (xs := [130, UInt8.ofNat (cb.length / 256), UInt8.ofNat cb.length]) HY.out.1 hDw rfl (h82 cb.length) ho hg); have CON := Lib.hid (con_row (HY.out.2.1.imp fun q hq => ⟨hq.1, hq.2.1⟩) hg); have hsz3 := ST3.out.2.1.size; have hln3 : (L2 ++ [130, UInt8.ofNat (cb.length / 256), UInt8.ofNat cb.length]).length ≤ L2.length + 5 := (by simp); clear ho hg) | (at_builtin; refine append_con rfl (.tmp 126) (.tmp 127) 27 rfl w.heap.size 5 i0 (.int .u8 0) Try.underlying27 hi hz0 hz1 hz2 rfl v3 _ _ rfl ST3.out.1 A cn cb rfl HC2.out.2.2.2.1 HY.out.2.2 CON.out (by unfold maxLen; omega) (by omega) hsz3 ?_; intro v4 w4 ho4 hg4; have ST4 := Lib.hid (St2.src ST3.out hDw ho4 hg4); clear ho4 hg4))
                have HF := Lib.hid (show LRel w D (fun b => b < w.heap.size ∧ b ≠ D) cs f _ (j + 1) r _ _ ∧ r.gd m from ⟨LRel.step2 (tl := []) (hd := [130, UInt8.ofNat (cb.length / 256), UInt8.ofNat cb.length]) HX.out.2.1 HX.out.1 HC2.out.2.1 HC2.out.2.2.2.2.1 (List.append_nil _).symm ST4.out HC2.out.2.2.2.2.2.1 HC2.out.2.2.2.2.2.2 HQ.out.2.2.2.1 (by simp) (fun h => o82 (by omega)), HX.out.2.2.2.2.2⟩)
                clear ST4 
                go_roundw
                case rel => exact ⟨j + 1, r, _, by omega, by go_num, by omega, HF⟩
                case measure => simp [intOf]; omega
            · have hdq : True := trivial
              go_wp2_with (first | (at_builtin; refine wpList_append_own _ rfl (.tmp 71) (.tmp 77) 27 rfl w.heap.size 5 i0 (.int .u8 0) 1 1 Try.underlying27 hi hz0 hz1 hz2 rfl (by decide) vb (L2.length) _ rfl (hown.alloc _) ⟨_, 0, none⟩ 4 4 [.int .u8 131, .int .u8 0, .int .u8 ((cb.length : Int) / 256 % 256), .int .u8 ((cb.length : Int) % 256)] rfl rfl (World.news_of_block (heap_alloc_new _ _)) (u8s_cells (h83 cb.length)) (by unfold maxLen; omega) (by omega) (by simp; omega) ?_; intro v3 w3 ho hg _; have ST3 := Lib.hid (St2.app (xs := [131, 0, UInt8.ofNat (cb.length / 256), UInt8.ofNat cb.length]) HY.out.1 hDw rfl (h83 cb.length) ho hg); have CON := Lib.hid (con_row (HY.out.2.1.imp fun q hq => ⟨hq.1, hq.2.1⟩) hg); have hsz3 := ST3.out.2.1.size; have hln3 : (L2 ++ [131, 0, UInt8.ofNat (cb.length / 256), UInt8.ofNat cb.length]).length ≤ L2.length + 5 := (by simp); clear ho hg) | (at_builtin; refine append_con rfl (.tmp 126) (.tmp 127) 27 rfl w.heap.size 5 i0 (.int .u8 0) Try.underlying27 hi hz0 hz1 hz2 rfl v3 _ _ rfl ST3.out.1 A cn cb rfl HC2.out.2.2.2.1 HY.out.2.2 CON.out (by unfold maxLen; omega) (by omega) hsz3 ?_; intro v4 w4 ho4 hg4; have ST4 := Lib.hid (St2.src ST3.out hDw ho4 hg4); clear ho4 hg4))
              have HF := Lib.hid (show LRel w D (fun b => b < w.heap.size ∧ b ≠ D) cs f _ (j + 1) r _ _ ∧ r.gd m from ⟨LRel.step2 (tl := []) (hd := [131, 0, UInt8.ofNat (cb.length / 256), UInt8.ofNat cb.length]) HX.out.2.1 HX.out.1 HC2.out.2.1 HC2.out.2.2.2.2.1 (List.append_nil _).symm ST4.out HC2.out.2.2.2.2.2.1 HC2.out.2.2.2.2.2.2 HQ.out.2.2.2.1 (by simp) (fun h => o83 (by omega)), HX.out.2.2.2.2.2⟩)
              clear ST4 
              go_roundw
              case rel => exact ⟨j + 1, r, _, by omega, by go_num, by omega, HF⟩
              case measure => simp [intOf]; omega
            · have hdq : True := trivial
              go_wp2_with (first | (at_builtin; refine wpList_append_own _ rfl (.tmp 81) (.tmp 87) 27 rfl w.heap.size 5 i0 (.int .u8 0) 1 1 Try.underlying27 hi hz0 hz1 hz2 rfl (by decide) vb (L2.length) _ rfl (hown.alloc _) ⟨_, 0, none⟩ 5 5 [.int .u8 132, .int .u8 0, .int .u8 0, .int .u8 ((cb.length : Int) / 256 % 256), .int .u8 ((cb.length : Int) % 256)] rfl rfl (World.news_of_block (heap_alloc_new _ _)) (u8s_cells (h84 cb.length)) (by unfold maxLen; omega) (by omega) (by simp; omega) ?_; intro v3 w3 ho hg _; have ST3 := Lib.hid (St2.app (xs := [132, 0, 0, UInt8.ofNat (cb.length / 256), UInt8.ofNat cb.length]) HY.out.1 hDw rfl (h84 cb.length) ho hg); have CON := Lib.hid (con_row (HY.out.2.1.imp fun q hq => ⟨hq.1, hq.2.1⟩) hg); have hsz3 := ST3.out.2.1.size; have hln3 : (L2 ++ [132, 0, 0, UInt8.ofNat (cb.length / 256), UInt8.ofNat cb.length]).length ≤ L2.length + 5 := (by simp); clear ho hg) | (at_builtin; refine append_con rfl (.tmp 126) (.tmp 127) 27 rfl w.heap.size 5 i0 (.int .u8 0) Try.underlying27 hi hz0 hz1 hz2 rfl v3 _ _ rfl ST3.out.1 A cn cb rfl HC2.out.2.2.2.1 HY.out.2.2 CON.out (by unfold maxLen; omega) (by omega) hsz3 ?_; intro v4 w4 ho4 hg4; have ST4 := Lib.hid (St2.src ST3.out hDw ho4 hg4); clear ho4 hg4))
              have HF := Lib.hid (show LRel w D (fun b => b < w.heap.size ∧ b ≠ D) cs f _ (j + 1) r _ _ ∧ r.gd m from ⟨LRel.step2 (tl := []) (hd := [132, 0, 0, UInt8.ofNat (cb.length / 256), UInt8.ofNat cb.length]) HX.out.2.1 HX.out.1 HC2.out.2.1 HC2.out.2.2.2.2.1 (List.append_nil _).symm ST4.out HC2.out.2.2.2.2.2.1 HC2.out.2.2.2.2.2.2 HQ.out.2.2.2.1 (by simp) (fun h => o84 (by omega)), HX.out.2.2.2.2.2⟩)
              clear ST4 
              go_roundw
              case rel => exact ⟨j + 1, r, _, by omega, by go_num, by omega, HF⟩
              case measure => simp [intOf]; omega
            · have hdq : True := trivial
              cases hcb : consB (T : Int)
              · have hdum : True := trivial
                go_wp2_with (first | (at_builtin; refine wpList_append_own _ rfl (.tmp 101) (.tmp 107) 27 rfl w.heap.size 5 i0 (.int .u8 0) 1 1 Try.underlying27 hi hz0 hz1 hz2 rfl (by decide) vb (L2.length) _ rfl (hown.alloc _) ⟨_, 0, none⟩ 3 3 [.int .u8 130, .int .u8 ((cb.length : Int) / 256 % 256), .int .u8 ((cb.length : Int) % 256)] rfl rfl (World.news_of_block (heap_alloc_new _ _)) (u8s_cells (h82 cb.length)) (by unfold maxLen; omega) (by omega) (by simp; omega) ?_; intro v3 w3 ho hg _; have ST3 := Lib.hid (St2.app (xs := [130, UInt8.ofNat (cb.length / 256), UInt8.ofNat cb.length]) HY.out.1 hDw rfl (h82 cb.length) ho hg); have CON := Lib.hid (con_row (HY.out.2.1.imp fun q hq => ⟨hq.1, hq.2.1⟩) hg); have hsz3 := ST3.out.2.1.size; have hln3 : (L2 ++ [130, UInt8.ofNat (cb.length / 256), UInt8.ofNat cb.length]).length ≤ L2.length + 5 := (by simp); clear ho hg) | (at_builtin; refine append_con rfl (.tmp 126) (.tmp 127) 27 rfl w.heap.size 5 i0 (.int .u8 0) Try.underlying27 hi hz0 hz1 hz2 rfl v3 _ _ rfl ST3.out.1 A cn cb rfl HC2.out.2.2.2.1 HY.out.2.2 CON.out (by unfold maxLen; omega) (by omega) hsz3 ?_; intro v4 w4 ho4 hg4; have ST4 := Lib.hid (St2.src ST3.out hDw ho4 hg4); clear ho4 hg4))
                have HF := Lib.hid (show LRel w D (fun b => b < w.heap.size ∧ b ≠ D) cs f _ (j + 1) r _ _ ∧ r.gd m from ⟨LRel.step2 (tl := []) (hd := [130, UInt8.ofNat (cb.length / 256), UInt8.ofNat cb.length]) HX.out.2.1 HX.out.1 HC2.out.2.1 HC2.out.2.2.2.2.1 (List.append_nil _).symm ST4.out HC2.out.2.2.2.2.2.1 HC2.out.2.2.2.2.2.2 HQ.out.2.2.2.1 (by simp) (fun h => o82 (by omega)), HX.out.2.2.2.2.2⟩)
                clear ST4 
                go_roundw
                case rel => exact ⟨j + 1, r, _, by omega, by go_num, by omega, HF⟩
                case measure => simp [intOf]; omega
              · have eq80 : #[Value.int .u8 128].toList = Us [128] := rfl
                have eq00 : #[Value.int .u8 0, .int .u8 0].toList = Us [0, 0] := rfl
                go_wp2_with (first | (at_builtin; refine wpList_append_own _ rfl (.tmp 92) (.tmp 93) 27 rfl w.heap.size 5 i0 (.int .u8 0) 1 1 Try.underlying27 hi hz0 hz1 hz2 rfl (by decide) vb (L2.length) _ rfl (hown.alloc _) ⟨_, 0, none⟩ 1 1 _ rfl rfl (World.news_of_block (heap_alloc_new _ _)) (u8s_cells eq80) (by unfold maxLen; omega) (by omega) (by simp; omega) ?_; intro v3 w3 ho hg _; have ST3 := Lib.hid (St2.app (xs := [128]) HY.out.1 hDw rfl eq80 ho hg); have CON := Lib.hid (con_row (HY.out.2.1.imp fun q hq => ⟨hq.1, hq.2.1⟩) hg); have hsz3 := ST3.out.2.1.size; have hln3 : (L2 ++ [128]).length ≤ L2.length + 5 := (by simp); clear ho hg) | (at_builtin; refine append_con rfl (.tmp 95) (.tmp 96) 27 rfl w.heap.size 5 i0 (.int .u8 0) Try.underlying27 hi hz0 hz1 hz2 rfl v3 _ _ rfl ST3.out.1 A cn cb rfl HC2.out.2.2.2.1 HY.out.2.2 CON.out (by unfold maxLen; omega) (by omega) hsz3 ?_; intro v4 w4 ho4 hg4; have ST4 := Lib.hid (St2.src ST3.out hDw ho4 hg4); clear ho4 hg4; have hown4 := ST4.out.1; have hsz4 := ST4.out.2.1.size; have hln4 : (L2 ++ [128] ++ cb).length = L2.length + 1 + cb.length := (by simp; omega)) | (at_builtin; refine wpList_append_own _ rfl (.tmp 98) (.tmp 99) 27 rfl w.heap.size 5 i0 (.int .u8 0) 1 1 Try.underlying27 hi hz0 hz1 hz2 rfl (by decide) v4 ((L2 ++ [128] ++ cb).length) _ rfl (hown4.alloc _) ⟨_, 0, none⟩ 2 2 [.int .u8 0, .int .u8 0] rfl rfl (World.news_of_block (heap_alloc_new _ _)) (u8s_cells eq00) (by unfold maxLen; omega) (by omega) (by simp; omega) ?_; intro v5 w5 ho hg _; have ST5 := Lib.hid (St2.app (xs := [0, 0]) ST4.out hDw rfl eq00 ho hg)))
                have HF := Lib.hid (show LRel w D (fun b => b < w.heap.size ∧ b ≠ D) cs f _ (j + 1) r _ _ ∧ r.gd m from ⟨LRel.step2 (tl := [0, 0]) (hd := [128]) HX.out.2.1 HX.out.1 HC2.out.2.1 HC2.out.2.2.2.2.1 rfl ST5.out HC2.out.2.2.2.2.2.1 HC2.out.2.2.2.2.2.2 HQ.out.2.2.2.1 (by simp) (fun h => o80 hcb), HX.out.2.2.2.2.2⟩)
                clear ST5 
                go_roundw
                case rel => exact ⟨j + 1, r, _, by omega, by go_num, by omega, HF⟩
                case measure => simp [intOf]; omega
            · have hdq : True := trivial
              by_cases h256 : cb.length < 256
              · have d256 : decide ((cb.length : Int) < 256) = true := by simp; omega
                go_wp2_with (first | (at_builtin; refine wpList_append_own _ rfl (.tmp 113) (.tmp 116) 27 rfl w.heap.size 5 i0 (.int .u8 0) 1 1 Try.underlying27 hi hz0 hz1 hz2 rfl (by decide) vb (L2.length) _ rfl (hown.alloc _) ⟨_, 0, none⟩ 2 2 [.int .u8 129, .int .u8 (cb.length : Int)] rfl rfl (World.news_of_block (heap_alloc_new _ _)) (u8s_cells (h81 (n := cb.length) (by omega))) (by unfold maxLen; omega) (by omega) (by simp; omega) ?_; intro v3 w3 ho hg _; have ST3 := Lib.hid (St2.app (xs := [129, UInt8.ofNat cb.length]) HY.out.1 hDw rfl (h81 (n := cb.length) (by omega)) ho hg); have CON := Lib.hid (con_row (HY.out.2.1.imp fun q hq => ⟨hq.1, hq.2.1⟩) hg); have hsz3 := ST3.out.2.1.size; have hln3 : (L2 ++ [129, UInt8.ofNat cb.length]).length ≤ L2.length + 5 := (by simp); clear ho hg) | (at_builtin; refine append_con rfl (.tmp 126) (.tmp 127) 27 rfl w.heap.size 5 i0 (.int .u8 0) Try.underlying27 hi hz0 hz1 hz2 rfl v3 _ _ rfl ST3.out.1 A cn cb rfl HC2.out.2.2.2.1 HY.out.2.2 CON.out (by unfold maxLen; omega) (by omega) hsz3 ?_; intro v4 w4 ho4 hg4; have ST4 := Lib.hid (St2.src ST3.out hDw ho4 hg4); clear ho4 hg4))
                have HF := Lib.hid (show LRel w D (fun b => b < w.heap.size ∧ b ≠ D) cs f _ (j + 1) r _ _ ∧ r.gd m from ⟨LRel.step2 (tl := []) (hd := [129, UInt8.ofNat cb.length]) HX.out.2.1 HX.out.1 HC2.out.2.1 HC2.out.2.2.2.2.1 (List.append_nil _).symm ST4.out HC2.out.2.2.2.2.2.1 HC2.out.2.2.2.2.2.2 HQ.out.2.2.2.1 (by simp) (fun h => o81 (by omega)), HX.out.2.2.2.2.2⟩)
                clear ST4 
                go_roundw
                case rel => exact ⟨j + 1, r, _, by omega, by go_num, by omega, HF⟩
                case measure => simp [intOf]; omega
              · have d256 : decide ((cb.length : Int) < 256) = false := by simp; omega
                go_wp2_with (first | (at_builtin; refine wpList_append_own _ rfl (.tmp 118) (.tmp 124) 27 rfl w.heap.size 5 i0 (.int .u8 0) 1 1 Try.underlying27 hi hz0 hz1 hz2 rfl (by decide) vb (L2.length) _ rfl (hown.alloc _) ⟨_, 0, none⟩ 3 3 [.int .u8 130, .int .u8 ((cb.length : Int) / 256 % 256), .int .u8 ((cb.length : Int) % 256)] rfl rfl (World.news_of_block (heap_alloc_new _ _)) (u8s_cells (h82 cb.length)) (by unfold maxLen; omega) (by omega) (by simp; omega) ?_; intro v3 w3 ho hg _; have ST3 := Lib.hid (St2.app (xs := [130, UInt8.ofNat (cb.length / 256), UInt8.ofNat cb.length]) HY.out.1 hDw rfl (h82 cb.length) ho hg); have CON := Lib.hid (con_row (HY.out.2.1.imp fun q hq => ⟨hq.1, hq.2.1⟩) hg); have hsz3 := ST3.out.2.1.size; have hln3 : (L2 ++ [130, UInt8.ofNat (cb.length / 256), UInt8.ofNat cb.length]).length ≤ L2.length + 5 := (by simp); clear ho hg) | (at_builtin; refine append_con rfl (.tmp 126) (.tmp 127) 27 rfl w.heap.size 5 i0 (.int .u8 0) Try.underlying27 hi hz0 hz1 hz2 rfl v3 _ _ rfl ST3.out.1 A cn cb rfl HC2.out.2.2.2.1 HY.out.2.2 CON.out (by unfold maxLen; omega) (by omega) hsz3 ?_; intro v4 w4 ho4 hg4; have ST4 := Lib.hid (St2.src ST3.out hDw ho4 hg4); clear ho4 hg4))
                have HF := Lib.hid (show LRel w D (fun b => b < w.heap.size ∧ b ≠ D) cs f _ (j + 1) r _ _ ∧ r.gd m from ⟨LRel.step2 (tl := []) (hd := [130, UInt8.ofNat (cb.length / 256), UInt8.ofNat cb.length]) HX.out.2.1 HX.out.1 HC2.out.2.1 HC2.out.2.2.2.2.1 (List.append_nil _).symm ST4.out HC2.out.2.2.2.2.2.1 HC2.out.2.2.2.2.2.2 HQ.out.2.2.2.1 (by simp) (fun h => o82 (by omega)), HX.out.2.2.2.2.2⟩)
                clear ST4 
                go_roundw
                case rel => exact ⟨j + 1, r, _, by omega, by go_num, by omega, HF⟩
                case measure => simp [intOf]; omega
            · have hdq : True := trivial
              by_cases h128 : cb.length < 128
              · have d128 : decide ((cb.length : Int) < 128) = true := by simp; omega
                go_wp2_with (first | (at_builtin; refine wpList_append_own _ rfl (.tmp 56) (.tmp 59) 27 rfl w.heap.size 5 i0 (.int .u8 0) 1 1 Try.underlying27 hi hz0 hz1 hz2 rfl (by decide) vb (L2.length) _ rfl (hown.alloc _) ⟨_, 0, none⟩ 1 1 _ rfl rfl (World.news_of_block (heap_alloc_new _ _)) (u8s_cells (h00 (n := cb.length) (by omega))) (by unfold maxLen; omega) (by omega) (by simp; omega) ?_; intro v3 w3 ho hg _; have ST3 := Lib.hid (St2.app (xs := [UInt8.ofNat cb.length]) HY.out.1 hDw rfl (h00 (n := cb.length) (by omega)) ho hg); have CON := Lib.hid (con_row (HY.out.2.1.imp fun q hq => ⟨hq.1, hq.2.1⟩) hg); have hsz3 := ST3.out.2.1.size; have hln3 : (L2 ++ [UInt8.ofNat cb.length]).length ≤ L2.length + 5 := (by simp); clear ho hg) | (at_builtin; refine append_con rfl (.tmp 126) (.tmp 127) 27 rfl w.heap.size 5 i0 (.int .u8 0) Try.underlying27 hi hz0 hz1 hz2 rfl v3 _ _ rfl ST3.out.1 A cn cb rfl HC2.out.2.2.2.1 HY.out.2.2 CON.out (by unfold maxLen; omega) (by omega) hsz3 ?_; intro v4 w4 ho4 hg4; have ST4 := Lib.hid (St2.src ST3.out hDw ho4 hg4); clear ho4 hg4))
                have HF := Lib.hid (show LRel w D (fun b => b < w.heap.size ∧ b ≠ D) cs f _ (j + 1) r _ _ ∧ r.gd m from ⟨LRel.step2 (tl := []) (hd := [UInt8.ofNat cb.length]) HX.out.2.1 HX.out.1 HC2.out.2.1 HC2.out.2.2.2.2.1 (List.append_nil _).symm ST4.out HC2.out.2.2.2.2.2.1 HC2.out.2.2.2.2.2.2 HQ.out.2.2.2.1 (by simp) (fun h => o00 (by omega)), HX.out.2.2.2.2.2⟩)
                clear ST4 
                go_roundw
                case rel => exact ⟨j + 1, r, _, by omega, by go_num, by omega, HF⟩
                case measure => simp [intOf]; omega
              · have d128 : decide ((cb.length : Int) < 128) = false := by simp; omega
                go_wp2_with (first | (at_builtin; refine wpList_append_own _ rfl (.tmp 61) (.tmp 67) 27 rfl w.heap.size 5 i0 (.int .u8 0) 1 1 Try.underlying27 hi hz0 hz1 hz2 rfl (by decide) vb (L2.length) _ rfl (hown.alloc _) ⟨_, 0, none⟩ 3 3 [.int .u8 130, .int .u8 ((cb.length : Int) / 256 % 256), .int .u8 ((cb.length : Int) % 256)] rfl rfl (World.news_of_block (heap_alloc_new _ _)) (u8s_cells (h82 cb.length)) (by unfold maxLen; omega) (by omega) (by simp; omega) ?_; intro v3 w3 ho hg _; have ST3 := Lib.hid (St2.app (xs := [130, UInt8.ofNat (cb.length / 256), UInt8.ofNat cb.length]) HY.out.1 hDw rfl (h82 cb.length) ho hg); have CON := Lib.hid (con_row (HY.out.2.1.imp fun q hq => ⟨hq.1, hq.2.1⟩) hg); have hsz3 := ST3.out.2.1.size; have hln3 : (L2 ++ [130, UInt8.ofNat (cb.length / 256), UInt8.ofNat cb.length]).length ≤ L2.length + 5 := (by simp); clear ho hg) | (at_builtin; refine append_con rfl (.tmp 126) (.tmp 127) 27 rfl w.heap.size 5 i0 (.int .u8 0) Try.underlying27 hi hz0 hz1 hz2 rfl v3 _ _ rfl ST3.out.1 A cn cb rfl HC2.out.2.2.2.1 HY.out.2.2 CON.out (by unfold maxLen; omega) (by omega) hsz3 ?_; intro v4 w4 ho4 hg4; have ST4 := Lib.hid (St2.src ST3.out hDw ho4 hg4); clear ho4 hg4))
                have HF := Lib.hid (show LRel w D (fun b => b < w.heap.size ∧ b ≠ D) cs f _ (j + 1) r _ _ ∧ r.gd m from ⟨LRel.step2 (tl := []) (hd := [130, UInt8.ofNat (cb.length / 256), UInt8.ofNat cb.length]) HX.out.2.1 HX.out.1 HC2.out.2.1 HC2.out.2.2.2.2.1 (List.append_nil _).symm ST4.out HC2.out.2.2.2.2.2.1 HC2.out.2.2.2.2.2.2 HQ.out.2.2.2.1 (by simp) (fun h => o82 (by omega)), HX.out.2.2.2.2.2⟩)
                clear ST4 
                go_roundw
                case rel => exact ⟨j + 1, r, _, by omega, by go_num, by omega, HF⟩
                case measure => simp [intOf]; omega

end Go.Proofs.Ytipmmclahngabaa
