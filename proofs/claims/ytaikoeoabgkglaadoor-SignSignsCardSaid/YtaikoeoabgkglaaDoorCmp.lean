/-
  What is proved here: what the program's compress answers for a state of 8 words and a block of 64 bytes, where the table of its constants lies in memory.
-/
import Derived.Test.YtaikoeoabgkglaaDoorFw
import Derived.Test.YtaikoeoabgkglaaDoorRotp
import Derived.Deep.RegionHeld3
import Derived.Deep.DrawnRows
import Derived.Deep.DeepCutAuto
namespace Go.Proofs.YtaikoeoabgkglaaDoor
open Go.RowKit
set_option linter.unusedVariables false
attribute [local go_sem ↓] Go.wp_at_zero Go.wp_at_succ

/-- the program's table of constants lies in memory -/
def TabP (w : World) : Prop := 2 < w.heap.size ∧ ∀ k (h : k < 64), w.cell? ⟨2, k, none⟩ = some (.int .u32 ((kT.getD k 0).toNat : Int))
theorem TabP.below {w wr : World} (h : TabP w) (hb : Below w.heap.size w wr) : TabP wr := ⟨Nat.lt_of_lt_of_le h.1 hb.size, fun k hk => (hb.cell (p := ⟨_, k, none⟩) h.1).trans (h.2 k hk)⟩

theorem sch_pre (b : List UInt8) (k n : Nat) (hk : k < n) : ∀ m, n ≤ m → (sch b m).getD k 0 = (sch b n).getD k 0
  | 0, h => by omega
  | m + 1, h => by
    by_cases e : n = m + 1
    · rw [e]
    · rw [← sch_pre b k n hk m (by omega), sch]
      simp only [List.getD]
      rw [List.getElem?_append_left (by rw [sch_length]; omega)]
/-- the words as far as they have been reckoned at the head of round r -/
def wsc (b : List UInt8) (r : Nat) : List UInt32 := sch b (max 16 r) ++ List.replicate (64 - max 16 r) 0
theorem wsc_length (b : List UInt8) (r : Nat) (h : r ≤ 64) : (wsc b r).length = 64 := by simp [wsc, sch_length]; omega
theorem wsc_at (b : List UInt8) (r k : Nat) (h : r ≤ 64) (hk : k < max 16 r) : (wsc b r).getD k 0 = (sch b 64).getD k 0 := by
  rw [sch_pre b k (max 16 r) hk 64 (by omega), wsc]
  simp only [List.getD]
  rw [List.getElem?_append_left (by rw [sch_length]; omega)]
theorem wsc_low (b : List UInt8) (r : Nat) (h : r < 16) : wsc b (r + 1) = wsc b r := by
  unfold wsc
  rw [show max 16 (r + 1) = 16 by omega, show max 16 r = 16 by omega]
theorem wsc_zero (b : List UInt8) : wsc b 0 = w16 b := rfl
theorem wsc_set (b : List UInt8) (k : Nat) (h : k + 16 < 64) : (wsc b (k + 16)).set (k + 16) (sm1 ((sch b 64).getD (k + 14) 0) + (sch b 64).getD (k + 9) 0 + sm0 ((sch b 64).getD (k + 1) 0) + (sch b 64).getD k 0) = wsc b (k + 16 + 1) := by
  have e : sch b (k + 16 + 1) = sch b (k + 16) ++ [nextW (sch b (k + 16)) (k + 16)] := by rw [sch, if_neg (by omega)]
  have hn : sm1 ((sch b 64).getD (k + 14) 0) + (sch b 64).getD (k + 9) 0 + sm0 ((sch b 64).getD (k + 1) 0) + (sch b 64).getD k 0 = nextW (sch b (k + 16)) (k + 16) := by
    unfold nextW
    rw [show k + 16 - 2 = k + 14 by omega, show k + 16 - 7 = k + 9 by omega, show k + 16 - 15 = k + 1 by omega, show k + 16 - 16 = k by omega]
    rw [sch_pre b (k + 14) (k + 16) (by omega) 64 (by omega), sch_pre b (k + 9) (k + 16) (by omega) 64 (by omega), sch_pre b (k + 1) (k + 16) (by omega) 64 (by omega), sch_pre b k (k + 16) (by omega) 64 (by omega)]
  unfold wsc
  rw [show max 16 (k + 16) = k + 16 by omega, show max 16 (k + 16 + 1) = k + 16 + 1 by omega, hn, e, show 64 - (k + 16) = (47 - k) + 1 by omega, show 64 - (k + 16 + 1) = 47 - k by omega]
  have := set_zero (sch b (k + 16)) (0 : UInt32) (nextW (sch b (k + 16)) (k + 16)) (47 - k)
  rw [sch_length] at this
  exact this

theorem sm0_val (x : UInt32) : bits .xor .u32 ((sg2 x 7 18).toNat : Int) ((x.toNat : Int) / 8) = ((sm0 x).toNat : Int) := by
  have e2 : (x.toNat : Int) / (8 : Int) = ((x >>> 3).toNat : Int) := w_shr x 3 (by decide)
  rw [e2, w_xor]
  rfl
theorem sm1_val (x : UInt32) : bits .xor .u32 ((sg2 x 17 19).toNat : Int) ((x.toNat : Int) / 1024) = ((sm1 x).toNat : Int) := by
  have e1 : (x.toNat : Int) / (1024 : Int) = ((x >>> 10).toNat : Int) := w_shr x 10 (by decide)
  rw [e1, w_xor]
  rfl

/-- what compress keeps: the state, the result's cells, the words, the table, and what was there -/
def CmR (w : World) (G : Nat) (st : List UInt32) (b : List UInt8) (r : Nat) (wr : World) : Prop :=
  Below w.heap.size w wr ∧ w.heap.size + 1 < G ∧ RowW wr w.heap.size st ∧ RowW wr (w.heap.size + 1) (List.replicate 8 0) ∧ RowW wr G (wsc b r) ∧ TabP w
theorem info_8 : (Tryd.prog.info? 62).map (·.size) = some 8 := by kernel_rfl

theorem CmR.start {w w1 : World} {st : List UInt32} {b : List UInt8} {c8 : Array Value} {o2 o3 : Obj} {t8 t64 : TypeId} (ht : TabP w) (hc : c8.toList = Ws st) (e2 : o2 = .cells (Ws (List.replicate 8 0)).toArray t8) (e3 : o3 = .cells (Ws (List.replicate 64 0)).toArray t64)
    (hb : Below ((w.alloc (.cells c8 t8)).alloc o2).heap.size ((w.alloc (.cells c8 t8)).alloc o2) w1) : CmR w w1.heap.size st b 0 ((w1.alloc o3).setRow w1.heap.size (Ws (w16 b)).toArray) := by
  subst e2 e3
  have hs := hb.size
  simp only [World.size_alloc] at hs hb
  have h0 : Below w.heap.size w w1 := (((Below.refl _ w).alloc (Nat.le_refl _) _).alloc (by simp) _).trans (hb.mono (by omega))
  have hT : Below w.heap.size w ((w1.alloc (.cells (Ws (List.replicate 64 0)).toArray t64)).setRow w1.heap.size (Ws (w16 b)).toArray) := below_setRow (h0.alloc h0.size _) (by omega) _
  refine ⟨hT, by omega, ?_, ?_, ?_, ht⟩
  · exact ((((RowW.new hc).alloc _).below hb (by omega)).alloc _).row_far (by omega) _
  · have h2 := RowW.new (w := w.alloc (.cells c8 t8)) (c := (Ws (List.replicate 8 0)).toArray) (t := t8) (l := List.replicate 8 0) rfl
    rw [World.size_alloc] at h2
    exact ((h2.below hb (by omega)).alloc _).row_far (by omega) _
  · exact (RowW.new (w := w1) (c := (Ws (List.replicate 64 0)).toArray) (t := t64) (l := List.replicate 64 0) rfl).row _
theorem CmR.drewN {w wr : World} {G r : Nat} {st : List UInt32} {b : List UInt8} (h : CmR w G st b r wr) (n : Nat) : CmR w G st b r (wr.drewN n) := ⟨below_dn h.1 n, h.2.1, h.2.2.1, h.2.2.2.1, h.2.2.2.2.1, h.2.2.2.2.2⟩
theorem CmR.drew {w wr : World} {G r : Nat} {st : List UInt32} {b : List UInt8} (h : CmR w G st b r wr) : CmR w G st b r wr.drew := ⟨h.1.drew, h.2.1, h.2.2.1, h.2.2.2.1, h.2.2.2.2.1, h.2.2.2.2.2⟩
theorem CmR.alloc {w wr : World} {G r : Nat} {st : List UInt32} {b : List UInt8} (h : CmR w G st b r wr) (o : Obj) : CmR w G st b r (wr.alloc o) := ⟨h.1.alloc h.1.size o, h.2.1, h.2.2.1.alloc o, h.2.2.2.1.alloc o, h.2.2.2.2.1.alloc o, h.2.2.2.2.2⟩
theorem CmR.tab {w wr : World} {G r : Nat} {st : List UInt32} {b : List UInt8} (h : CmR w G st b r wr) : TabP wr := h.2.2.2.2.2.below h.1
theorem CmR.next {w wr : World} {G k : Nat} {st : List UInt32} {b : List UInt8} (h : CmR w G st b (k + 16) wr) (hk : k + 16 < 64) :
    CmR w G st b (k + 16 + 1) (wr.setCell ⟨G, k + 16, none⟩ (Value.int .u32 ((((((sm1 ((sch b 64)[k + 14]?.getD 0)).toNat : Int) + (((sch b 64)[k + 9]?.getD 0).toNat : Int)) % 4294967296 + ((sm0 ((sch b 64)[k + 1]?.getD 0)).toNat : Int)) % 4294967296 + (((sch b 64)[k]?.getD 0).toNat : Int)) % 4294967296))) := by
  obtain ⟨h1, h2, h3, h4, h5, h6⟩ := h
  rw [w_add, w_add, w_add]
  refine ⟨h1.setCell (by simp; omega) _, h2, h3.far (by simp; omega) _, h4.far (by simp; omega) _, ?_, h6⟩
  rw [← wsc_set b k hk]
  exact h5.set (k + 16) _
def chW (e f g : UInt32) : UInt32 := (e &&& f) ^^^ (~~~e &&& g)
def majW (a b c : UInt32) : UInt32 := (a &&& b) ^^^ (a &&& c) ^^^ (b &&& c)
theorem w_not (x : UInt32) : bits .xor .u32 IntKind.u32.max (x.toNat : Int) = ((~~~x).toNat : Int) := by
  have h := w_xor 0xffffffff x
  rw [show (((0xffffffff : UInt32).toNat : Nat) : Int) = IntKind.u32.max from rfl] at h
  rw [h]
  congr 2
theorem ch_val (e f g : UInt32) : bits .xor .u32 (bits .and .u32 (e.toNat : Int) (f.toNat : Int)) (bits .and .u32 (bits .xor .u32 IntKind.u32.max (e.toNat : Int)) (g.toNat : Int)) = ((chW e f g).toNat : Int) := by
  rw [w_not, w_and, w_and, w_xor]
  rfl
theorem maj_val (a b c : UInt32) : bits .xor .u32 (bits .xor .u32 (bits .and .u32 (a.toNat : Int) (b.toNat : Int)) (bits .and .u32 (a.toNat : Int) (c.toNat : Int))) (bits .and .u32 (b.toNat : Int) (c.toNat : Int)) = ((majW a b c).toNat : Int) := by
  rw [w_and, w_and, w_and, w_xor, w_xor]
  rfl
def S8.list (s : S8) : List UInt32 := [s.a, s.b, s.c, s.d, s.e, s.f, s.g, s.h]
/-- the state when j words have been added -/
def mixS (st xs : List UInt32) : Nat → List UInt32
  | 0 => st
  | j + 1 => (mixS st xs j).set j ((mixS st xs j).getD j 0 + xs.getD j 0)
theorem mixS_length (st xs : List UInt32) : ∀ j, (mixS st xs j).length = st.length
  | 0 => rfl
  | j + 1 => by simp [mixS, mixS_length st xs j]
theorem mix8 (a0 a1 a2 a3 a4 a5 a6 a7 : UInt32) (s : S8) : mixS [a0, a1, a2, a3, a4, a5, a6, a7] s.list 8 = (S8.of [a0, a1, a2, a3, a4, a5, a6, a7]).out s := by
  simp [mixS, S8.list, S8.of, S8.out]
theorem mixS_all (st : List UInt32) (b : List UInt8) (s : S8) (h : st.length = 8) (hs : s = runW (sch b 64) (S8.of st) 64) : mixS st s.list 8 = comp st b := by
  unfold comp
  rw [← hs]
  clear hs
  match st, h with
  | [a0, a1, a2, a3, a4, a5, a6, a7], _ => exact mix8 a0 a1 a2 a3 a4 a5 a6 a7 s
theorem out_length (s t : S8) : (s.out t).length = 8 := rfl
theorem comp_length (st : List UInt32) (b : List UInt8) : (comp st b).length = 8 := out_length _ _
theorem mix_at {w wr : World} {st : List UInt32} {s : S8} {j : Nat} (h : Below w.heap.size w wr ∧ RowW wr w.heap.size (mixS st s.list j) ∧ RowW wr (w.heap.size + 1) (List.replicate 8 0)) :
    Below w.heap.size w (wr.setCell ⟨w.heap.size, j, none⟩ (Value.int .u32 (((((mixS st s.list j)[j]?.getD 0).toNat : Int) + ((s.list[j]?.getD 0).toNat : Int)) % 4294967296))) ∧
    RowW (wr.setCell ⟨w.heap.size, j, none⟩ (Value.int .u32 (((((mixS st s.list j)[j]?.getD 0).toNat : Int) + ((s.list[j]?.getD 0).toNat : Int)) % 4294967296))) w.heap.size (mixS st s.list (j + 1)) ∧
    RowW (wr.setCell ⟨w.heap.size, j, none⟩ (Value.int .u32 (((((mixS st s.list j)[j]?.getD 0).toNat : Int) + ((s.list[j]?.getD 0).toNat : Int)) % 4294967296))) (w.heap.size + 1) (List.replicate 8 0) := by
  rw [w_add]
  exact ⟨h.1.setCell (Nat.le_refl _) _, h.2.1.set j _, h.2.2.far (by simp) _⟩
theorem agg_index (s : S8) (j : Nat) (h : j < 8) : ∀ w, (Instr.index 62 (.agg #[.int .u32 (s.a.toNat : Int), .int .u32 (s.b.toNat : Int), .int .u32 (s.c.toNat : Int), .int .u32 (s.d.toNat : Int), .int .u32 (s.e.toNat : Int), .int .u32 (s.f.toNat : Int), .int .u32 (s.g.toNat : Int), .int .u32 (s.h.toNat : Int)]) (.int .i64 (j : Int))).run Tryd.prog w = .ok (.int .u32 ((s.list.getD j 0).toNat : Int)) w := by
  intro w
  match j, h with
  | 0, _ => rfl
  | 1, _ => rfl
  | 2, _ => rfl
  | 3, _ => rfl
  | 4, _ => rfl
  | 5, _ => rfl
  | 6, _ => rfl
  | 7, _ => rfl
theorem t1_val (k w : UInt32) (s : S8) : (((((s.h.toNat : Int) + ((sg3 s.e 6 11 25).toNat : Int)) % 4294967296 + ((chW s.e s.f s.g).toNat : Int)) % 4294967296 + (k.toNat : Int)) % 4294967296 + (w.toNat : Int)) % 4294967296 = ((t1W k w s).toNat : Int) := by
  rw [w_add, w_add, w_add, w_add]
  rfl
theorem t2_val (s : S8) : (((sg3 s.a 2 13 22).toNat : Int) + ((majW s.a s.b s.c).toNat : Int)) % 4294967296 = ((t2W s).toNat : Int) := by
  rw [w_add]
  rfl
theorem a_val (k w : UInt32) (s : S8) : Value.int .u32 (((((((s.h.toNat : Int) + ((sg3 s.e 6 11 25).toNat : Int)) % 4294967296 + ((chW s.e s.f s.g).toNat : Int)) % 4294967296 + (k.toNat : Int)) % 4294967296 + (w.toNat : Int)) % 4294967296 + (((sg3 s.a 2 13 22).toNat : Int) + ((majW s.a s.b s.c).toNat : Int)) % 4294967296) % 4294967296) = .int .u32 ((rndW k w s).a.toNat : Int) := by
  rw [t1_val, t2_val, w_add]
  rfl
theorem e_val (k w : UInt32) (s : S8) : Value.int .u32 (((s.d.toNat : Int) + (((((s.h.toNat : Int) + ((sg3 s.e 6 11 25).toNat : Int)) % 4294967296 + ((chW s.e s.f s.g).toNat : Int)) % 4294967296 + (k.toNat : Int)) % 4294967296 + (w.toNat : Int)) % 4294967296) % 4294967296) = .int .u32 ((rndW k w s).e.toNat : Int) := by
  rw [t1_val, w_add]
  rfl
set_option maxRecDepth 40000 in
set_option maxHeartbeats 2000000 in
theorem compress_any (st : List UInt32) (b : List UInt8) (A : Option Addr) (c : Nat) (w : World) (hst : st.length = 8) (hb : b.length = 64) (hs : SeesP w (· < w.heap.size) A (Us b)) (ht : TabP w) :
    Calls Tryd.prog 52 #[.agg (Ws st).toArray, .slice A 64 c] w fun e w' => e = .returned (.agg (Ws (comp st b)).toArray) ∧ Below w.heap.size w w' := by
  have H := Lib.hid (show _ ∧ _ ∧ _ ∧ _ from ⟨hst, hb, hs, ht⟩)
  clear hst hb hs ht
  go_enter Tryd.func52, Tryd.ntmps52
  go_wp2_with (first
    | (go_at_call 60; (with_reducible refine (first_words b A c _ H.out.2.1 ?_).mono ?_); exact (H.out.2.2.1.keep (fun q hq => Below.cell (B := w.heap.size) (((Below.refl _ w).alloc (Nat.le_refl _) _).alloc (by simp) _) hq)).imp (fun q hq => by simp; omega); rintro e w1 ⟨rfl, hb1⟩)
    | (refine wpList_store_row rfl 70 (.tmp 6) (.tmp 25) rfl w1.heap.size (List.replicate 64 0) (w16 b) rfl rfl (RowW.new rfl) (by simp [w16_length]) (by rw [w16_length]; exact info_64) ?_; generalize hW : (World.setRow (World.alloc w1 _) w1.heap.size (Ws (w16 b)).toArray) = w2; have HS : Hid (CmR w w1.heap.size st b 0 w2) := (by subst hW; exact Lib.hid (CmR.start (hb := hb1) (ht := H.out.2.2.2) (hc := by rfl) (e2 := by rfl) (e3 := by rfl))); clear hb1 hW))
  have z0 := HS.out.2.2.1.cell (k := 0) (by have := H.out.1; omega)
  have z1 := HS.out.2.2.1.cell (k := 1) (by have := H.out.1; omega)
  have z2 := HS.out.2.2.1.cell (k := 2) (by have := H.out.1; omega)
  have z3 := HS.out.2.2.1.cell (k := 3) (by have := H.out.1; omega)
  go_quiet (fail)
  go_wp2_with fail
  have HS2 : Hid (CmR w w1.heap.size st b 0 (w2.drewN nq)) := Lib.hid (HS.out.drewN nq)
  clear z0 z1 z2 z3 HS
  generalize w2.drewN nq = w3 at *
  have z4 := HS2.out.2.2.1.cell (k := 4) (by have := H.out.1; omega)
  have z5 := HS2.out.2.2.1.cell (k := 5) (by have := H.out.1; omega)
  have z6 := HS2.out.2.2.1.cell (k := 6) (by have := H.out.1; omega)
  have z7 := HS2.out.2.2.1.cell (k := 7) (by have := H.out.1; omega)
  go_quiet (fail)
  go_wp2_with fail
  have HS3 : Hid (CmR w w1.heap.size st b 0 (w3.drewN nq)) := Lib.hid (HS2.out.drewN nq)
  clear z4 z5 z6 z7 HS2
  generalize w3.drewN nq = w4 at *
  generalize w1.heap.size = G at *
  go_loopw [7, 8, 9, 10, 11, 12, 13, 14, 42] (fun a b' c d e f g h i wr => ∃ r : Nat, r ≤ 64 ∧ i = .int .i64 (r : Int) ∧ ∃ s : S8, Hid (s = runW (sch b 64) (S8.of st) r) ∧ a = .int .u32 (s.a.toNat : Int) ∧ b' = .int .u32 (s.b.toNat : Int) ∧ c = .int .u32 (s.c.toNat : Int) ∧ d = .int .u32 (s.d.toNat : Int) ∧ e = .int .u32 (s.e.toNat : Int) ∧ f = .int .u32 (s.f.toNat : Int) ∧ g = .int .u32 (s.g.toNat : Int) ∧ h = .int .u32 (s.h.toNat : Int) ∧ Hid (CmR w G st b r wr)) (fun _ _ _ _ _ _ _ _ i _ => 64 - (intOf i).toNat)
  case atStart => exact ⟨0, by decide, rfl, S8.of st, Lib.hid rfl, rfl, rfl, rfl, rfl, rfl, rfl, rfl, rfl, HS3⟩
  case round =>
    clear HS3
    obtain ⟨r, hr, rfl, s, Hs, rfl, rfl, rfl, rfl, rfl, rfl, rfl, rfl, HS⟩ := hrel
    by_cases h64 : r < 64
    · go_upto_if 46 with fail
      go_cut [] (fun wx => Hid (CmR w G st b (r + 1) wx))
      case first =>
        by_cases h16 : r < 16
        · have d16 : decide ((16 : Int) ≤ (r : Int)) = false := by simp; omega
          go_wp2_with fail
          go_meet
          exact Lib.hid (by have h := HS.out; unfold CmR at h ⊢; rw [wsc_low b r h16]; exact h)
        · obtain ⟨k, rfl⟩ : ∃ k, r = k + 16 := ⟨r - 16, by omega⟩
          clear Hs hr h16
          have d1 := HS.out.2.2.2.2.1.cell (k := k + 1) (by rw [wsc_length _ _ (by omega)]; omega)
          rw [wsc_at b (k + 16) (k + 1) (by omega) (by omega)] at d1
          have q1 : IntKind.i64.wrap ((k : Int) + 16 - 15) = (k : Int) + 1 := by rw [IntKind.wrap_i64]; omega
          have r1 : (0 : Int) ≤ (k : Int) + 1 ∧ (k : Int) + 1 < 64 := by omega
          have n1 : ((k : Int) + 1).toNat = k + 1 := by omega
          go_wp2_with fail
          go_region_held3 (fun w' => w'.cell? ⟨G, k + 1, none⟩ = some (.int .u32 (((sch b 64).getD (k + 1) 0).toNat : Int))) (go_keep)
            (first | (go_at_call 58; refine (rot2 _ 7 18 _ _ _ (by decide) ?_).mono ?_; (simp [*]); rintro e w' ⟨rfl, rfl⟩))
          go_wp2_with fail
          have HS2 : Hid (CmR w G st b (k + 16) ((wr.alloc (.cells #[.int .i64 7, .int .i64 18] 3)).drew)) := Lib.hid (HS.out.alloc _).drew
          rw [sm0_val]
          clear d1 q1 r1 n1 HS
          generalize (wr.alloc (.cells #[.int .i64 7, .int .i64 18] 3)).drew = w5 at *
          have d14 := HS2.out.2.2.2.2.1.cell (k := k + 14) (by rw [wsc_length _ _ (by omega)]; omega)
          rw [wsc_at b (k + 16) (k + 14) (by omega) (by omega)] at d14
          have q1 : IntKind.i64.wrap ((k : Int) + 16 - 2) = (k : Int) + 14 := by rw [IntKind.wrap_i64]; omega
          have r1 : (0 : Int) ≤ (k : Int) + 14 ∧ (k : Int) + 14 < 64 := by omega
          have n1 : ((k : Int) + 14).toNat = k + 14 := by omega
          go_region_held3 (fun w' => w'.cell? ⟨G, k + 14, none⟩ = some (.int .u32 (((sch b 64).getD (k + 14) 0).toNat : Int))) (go_keep)
            (first | (go_at_call 58; refine (rot2 _ 17 19 _ _ _ (by decide) ?_).mono ?_; (simp [*]); rintro e w' ⟨rfl, rfl⟩))
          go_wp2_with fail
          have HS3 : Hid (CmR w G st b (k + 16) ((w5.alloc (.cells #[.int .i64 17, .int .i64 19] 3)).drew)) := Lib.hid (HS2.out.alloc _).drew
          rw [sm1_val]
          clear d14 q1 r1 n1 HS2
          generalize (w5.alloc (.cells #[.int .i64 17, .int .i64 19] 3)).drew = w6 at *
          have d9 := HS3.out.2.2.2.2.1.cell (k := k + 9) (by rw [wsc_length _ _ (by omega)]; omega)
          rw [wsc_at b (k + 16) (k + 9) (by omega) (by omega)] at d9
          have d0 := HS3.out.2.2.2.2.1.cell (k := k) (by rw [wsc_length _ _ (by omega)]; omega)
          rw [wsc_at b (k + 16) k (by omega) (by omega)] at d0
          have yu := HS3.out.2.2.2.2.1.cell (k := k + 16) (by rw [wsc_length _ _ (by omega)]; omega)
          have yf := HS3.out.2.2.2.2.1.free (k + 16)
          have q1 : IntKind.i64.wrap ((k : Int) + 16 - 7) = (k : Int) + 9 := by rw [IntKind.wrap_i64]; omega
          have q2 : IntKind.i64.wrap ((k : Int) + 16 - 16) = (k : Int) := by rw [IntKind.wrap_i64]; omega
          have q3 : IntKind.i64.wrap ((k : Int) + 9) = (k : Int) + 9 := by rw [IntKind.wrap_i64]; omega
          have q4 : IntKind.i64.wrap (k : Int) = (k : Int) := by rw [IntKind.wrap_i64]; omega
          have r1 : (0 : Int) ≤ (k : Int) + 9 ∧ (k : Int) + 9 < 64 := by omega
          have r2 : (k : Int) < 64 := by omega
          have r3 : (0 : Int) ≤ (k : Int) + 16 ∧ (k : Int) + 16 < 64 := by omega
          have n1 : ((k : Int) + 9).toNat = k + 9 := by omega
          have n2 : ((k : Int) + 16).toNat = k + 16 := by omega
          go_still_tail 15, (by kernel_rfl)
          change wpList _ _ _ _ _ w6.drew
          have yu2 : w6.drew.cell? ⟨G, k + 16, none⟩ = some (.int .u32 (((wsc b (k + 16)).getD (k + 16) 0).toNat : Int)) := yu
          have yf2 : w6.drew.frozen? ⟨G, k + 16, none⟩ = false := yf
          have HS4 : Hid (CmR w G st b (k + 16) w6.drew) := Lib.hid HS3.out.drew
          clear q1 q2 q3 q4 r1 r2 n1 d9 d0 HS3 yu yf
          generalize w6.drew = w7 at *
          go_wp2_with fail
          go_meet
          exact Lib.hid (HS4.out.next h64)
      case rest =>
        clear HS
        have x1 := hcut.out.2.2.2.2.1.cell (k := r) (by rw [wsc_length _ _ (by omega)]; omega)
        rw [wsc_at b (r + 1) r (by omega) (by omega)] at x1
        have x2 := hcut.out.tab.2 r h64
        have r1 : (0 : Int) ≤ (r : Int) ∧ (r : Int) < 64 := by omega
        go_wp2_with fail
        rw [ch_val, maj_val]
        go_region_held3 (fun w' => w'.cell? ⟨G, r, none⟩ = some (.int .u32 (((sch b 64).getD r 0).toNat : Int)) ∧ w'.cell? ⟨2, r, none⟩ = some (.int .u32 ((kT.getD r 0).toNat : Int))) (go_keep)
            (first | (go_at_call 58; refine (rot3 _ 6 11 25 _ _ _ (by decide) ?_).mono ?_; (simp [*]); rintro e w' ⟨rfl, rfl⟩))
        go_wp2_with fail
        clear x1 x2 r1
        go_wp2_with (go_at_call 58; refine (rot3 _ 2 13 22 _ _ _ (by decide) ?_).mono ?_; (simp); rintro e w' ⟨rfl, rfl⟩)
        go_roundw
        case rel => exact ⟨r + 1, by omega, by go_num, rndW (kT.getD r 0) ((sch b 64).getD r 0) s, Lib.hid (by rw [Hs.out]; rfl), a_val _ _ _, rfl, rfl, rfl, e_val _ _ _, rfl, rfl, rfl, Lib.hid ((hcut.out.alloc _).alloc _).drew⟩
        case measure => simp [intOf]; omega
    · obtain rfl : r = 64 := by omega
      clear h64 hr
      have HX := Lib.hid (show Below w.heap.size w wr ∧ RowW wr w.heap.size (mixS st s.list 0) ∧ RowW wr (w.heap.size + 1) (List.replicate 8 0) from ⟨HS.out.1, HS.out.2.2.1, HS.out.2.2.2.1⟩)
      clear HS
      go_wp2_with fail
      go_loopw [151] (fun i wr => ∃ j : Nat, j ≤ 8 ∧ i = .int .i64 (j : Int) ∧ Hid (Below w.heap.size w wr ∧ RowW wr w.heap.size (mixS st s.list j) ∧ RowW wr (w.heap.size + 1) (List.replicate 8 0))) (fun i _ => 8 - (intOf i).toNat)
      case atStart => exact ⟨0, by decide, rfl, HX⟩
      case round =>
        clear HX
        obtain ⟨j, hj, rfl, HX⟩ := hrel
        have hl8 : ∀ j, (mixS st s.list j).length = 8 := fun j => by rw [mixS_length]; exact H.out.1
        by_cases h8 : j < 8
        · have y1 := HX.out.2.1.cell (k := j) (by rw [hl8]; exact h8)
          have yf := HX.out.2.1.free j
          have hidx := agg_index s j h8
          clear hl8
          go_wp2_with fail
          go_roundw
          case rel => exact ⟨j + 1, by omega, by go_num, Lib.hid (mix_at HX.out)⟩
          case measure => simp [intOf]; omega
        · obtain rfl : j = 8 := by omega
          obtain ⟨l, hl⟩ : ∃ l, l = comp st b := ⟨_, rfl⟩
          have HY := Lib.hid (show Below w.heap.size w wr ∧ RowW wr w.heap.size l ∧ RowW wr (w.heap.size + 1) (List.replicate 8 0) ∧ l.length = 8 ∧ l = comp st b from ⟨HX.out.1, by rw [hl, ← mixS_all st b s H.out.1 Hs.out]; exact HX.out.2.1, HX.out.2.2, by rw [hl]; exact comp_length _ _, hl⟩)
          clear HX h8 hj hl8 hl
          go_wp2_with (first | (refine wpList_load_words rfl 62 (.tmp 2) rfl w.heap.size l 8 59 rfl HY.out.2.1 Tryd.underlying62 (by rw [HY.out.2.2.2.1]; exact info_8) ?_) | (refine wpList_store_row rfl 62 (.tmp 4) (.tmp 162) rfl (w.heap.size + 1) (List.replicate 8 0) l rfl rfl HY.out.2.2.1 (by rw [HY.out.2.2.2.1]; rfl) (by rw [HY.out.2.2.2.1]; exact info_8) ?_))
          exact bodyPost_ret (results_words rfl _ _ (w.heap.size + 1) l 8 59 rfl (HY.out.2.2.1.row _) Tryd.underlying62 (by rw [HY.out.2.2.2.1]; exact info_8)) rfl ⟨by rw [HY.out.2.2.2.2], below_setRow HY.out.1 (by omega) _⟩

end Go.Proofs.YtaikoeoabgkglaaDoor
