/-
  What is proved here: what the reference's Compress answers, where the table of its constants lies in memory.
-/
import Derived.Test.YtaikoeoabgkglaaDoorCow
import Derived.StillTailTactics
namespace Go.Proofs.YtaikoeoabgkglaaDoor
open Go.RowKit
set_option linter.unusedVariables false

theorem ref_rotr_z (x : UInt32) (z : Int) (h : 1 ≤ z ∧ z ≤ 31) (w : World) :
    Calls Tryd.prog 56 #[.int .u32 (x.toNat : Int), .int .u64 z] w fun e w' => e = .returned (.int .u32 ((rotW x z.toNat).toNat : Int)) ∧ w' = w := by
  obtain ⟨n, rfl⟩ := Int.eq_ofNat_of_zero_le (show 0 ≤ z by omega)
  exact ref_rotr x n (by omega) (by omega) w
theorem xor3 (x : UInt32) (a b c : Nat) : bits .xor .u32 (bits .xor .u32 ((rotW x a).toNat : Int) ((rotW x b).toNat : Int)) ((rotW x c).toNat : Int) = ((sg3 x a b c).toNat : Int) := by
  rw [w_xor, w_xor]
  rfl
theorem rt1_val (k w : UInt32) (s : S8) : (((((s.h.toNat : Int) + bits .xor .u32 (bits .xor .u32 ((rotW s.e 6).toNat : Int) ((rotW s.e 11).toNat : Int)) ((rotW s.e 25).toNat : Int)) % 4294967296 + bits .xor .u32 (bits .and .u32 (s.e.toNat : Int) (s.f.toNat : Int)) (bits .and .u32 (bits .xor .u32 IntKind.u32.max (s.e.toNat : Int)) (s.g.toNat : Int))) % 4294967296 + (k.toNat : Int)) % 4294967296 + (w.toNat : Int)) % 4294967296 = ((t1W k w s).toNat : Int) := by
  rw [xor3, ch_val]
  exact t1_val k w s
theorem rt2_val (s : S8) : (bits .xor .u32 (bits .xor .u32 ((rotW s.a 2).toNat : Int) ((rotW s.a 13).toNat : Int)) ((rotW s.a 22).toNat : Int) + bits .xor .u32 (bits .xor .u32 (bits .and .u32 (s.a.toNat : Int) (s.b.toNat : Int)) (bits .and .u32 (s.a.toNat : Int) (s.c.toNat : Int))) (bits .and .u32 (s.b.toNat : Int) (s.c.toNat : Int))) % 4294967296 = ((t2W s).toNat : Int) := by
  rw [xor3, maj_val]
  exact t2_val s
theorem ra_val (k w : UInt32) (s : S8) : Value.int .u32 (((((((s.h.toNat : Int) + bits .xor .u32 (bits .xor .u32 ((rotW s.e 6).toNat : Int) ((rotW s.e 11).toNat : Int)) ((rotW s.e 25).toNat : Int)) % 4294967296 + bits .xor .u32 (bits .and .u32 (s.e.toNat : Int) (s.f.toNat : Int)) (bits .and .u32 (bits .xor .u32 IntKind.u32.max (s.e.toNat : Int)) (s.g.toNat : Int))) % 4294967296 + (k.toNat : Int)) % 4294967296 + (w.toNat : Int)) % 4294967296 + (bits .xor .u32 (bits .xor .u32 ((rotW s.a 2).toNat : Int) ((rotW s.a 13).toNat : Int)) ((rotW s.a 22).toNat : Int) + bits .xor .u32 (bits .xor .u32 (bits .and .u32 (s.a.toNat : Int) (s.b.toNat : Int)) (bits .and .u32 (s.a.toNat : Int) (s.c.toNat : Int))) (bits .and .u32 (s.b.toNat : Int) (s.c.toNat : Int))) % 4294967296) % 4294967296) = .int .u32 ((rndW k w s).a.toNat : Int) := by
  rw [rt1_val, rt2_val, w_add]
  rfl
theorem re_val (k w : UInt32) (s : S8) : Value.int .u32 (((s.d.toNat : Int) + (((((s.h.toNat : Int) + bits .xor .u32 (bits .xor .u32 ((rotW s.e 6).toNat : Int) ((rotW s.e 11).toNat : Int)) ((rotW s.e 25).toNat : Int)) % 4294967296 + bits .xor .u32 (bits .and .u32 (s.e.toNat : Int) (s.f.toNat : Int)) (bits .and .u32 (bits .xor .u32 IntKind.u32.max (s.e.toNat : Int)) (s.g.toNat : Int))) % 4294967296 + (k.toNat : Int)) % 4294967296 + (w.toNat : Int)) % 4294967296) % 4294967296) = .int .u32 ((rndW k w s).e.toNat : Int) := by
  rw [rt1_val, w_add]
  rfl
theorem out_val (st : List UInt32) (s : S8) : [Value.int .u32 ((((st[0]?.getD 0).toNat : Int) + (s.a.toNat : Int)) % 4294967296), .int .u32 ((((st[1]?.getD 0).toNat : Int) + (s.b.toNat : Int)) % 4294967296), .int .u32 ((((st[2]?.getD 0).toNat : Int) + (s.c.toNat : Int)) % 4294967296), .int .u32 ((((st[3]?.getD 0).toNat : Int) + (s.d.toNat : Int)) % 4294967296), .int .u32 ((((st[4]?.getD 0).toNat : Int) + (s.e.toNat : Int)) % 4294967296), .int .u32 ((((st[5]?.getD 0).toNat : Int) + (s.f.toNat : Int)) % 4294967296), .int .u32 ((((st[6]?.getD 0).toNat : Int) + (s.g.toNat : Int)) % 4294967296), .int .u32 ((((st[7]?.getD 0).toNat : Int) + (s.h.toNat : Int)) % 4294967296)] = Ws ((S8.of st).out s) := by
  simp only [w_add]
  rfl

set_option maxRecDepth 40000 in
set_option maxHeartbeats 4000000 in
theorem ref_comp (st : List UInt32) (b : List UInt8) (A1 A2 : Option Addr) (c1 c2 : Nat) (w : World) (h1 : st.length = 8) (h2 : b.length = 64) (hs1 : SeesP w (· < w.heap.size) A1 (Ws st)) (hs2 : SeesP w (· < w.heap.size) A2 (Us b)) (ht : TabR w) :
    Calls Tryd.prog 46 #[.slice A1 8 c1, .slice A2 64 c2] w (GivesW w (comp st b) 0) := by
  obtain ⟨b2, o2, rfl, hb2, hc2⟩ : ∃ b2 o2, A2 = some ⟨b2, o2, none⟩ ∧ b2 < w.heap.size ∧ ∀ j (h : j < 64), w.cell? ⟨b2, o2 + j, none⟩ = some (.int .u8 ((b.getD j 0).toNat : Int)) := by
    rcases hs2 with h | ⟨b2, o2, e, hp, hc⟩
    · have := congrArg List.length h; rw [Us_length] at this; have e0 : ([] : List Value).length = 0 := rfl; omega
    · exact ⟨b2, o2, e, hp, fun j hj => by rw [hc j (by rw [Us_length]; omega), Us_get (by omega), getD_at (by omega)]⟩
  have H := Lib.hid (show _ ∧ _ ∧ _ ∧ _ ∧ _ from ⟨h1, h2, hs1, hc2, ht⟩)
  clear h1 h2 hs1 hc2 ht hs2
  go_enter Tryd.func46, Tryd.ntmps46
  go_wp2
  go_loopw [7] (fun i wr => ∃ t : Nat, t ≤ 16 ∧ i = .int .i64 (t : Int) ∧ Hid (SchR w b t wr)) (fun i _ => 16 - (intOf i).toNat)
  case atStart =>
    refine ⟨0, by decide, rfl, Lib.hid ⟨(Below.refl _ _).alloc (Nat.le_refl _) _, _, _, heap_alloc_new w _, ?_, rfl⟩⟩
    rfl
  case round =>
    obtain ⟨t, ht, rfl, HS⟩ := hrel
    by_cases h16 : t < 16
    · have y0 := (HS.out.1.cell (p := ⟨b2, o2 + 4 * t, none⟩) hb2).trans (H.out.2.2.2.1 (4 * t) (by omega))
      have y1 := (HS.out.1.cell (p := ⟨b2, o2 + (4 * t + 1), none⟩) hb2).trans (H.out.2.2.2.1 (4 * t + 1) (by omega))
      have y2 := (HS.out.1.cell (p := ⟨b2, o2 + (4 * t + 2), none⟩) hb2).trans (H.out.2.2.2.1 (4 * t + 2) (by omega))
      have y3 := (HS.out.1.cell (p := ⟨b2, o2 + (4 * t + 3), none⟩) hb2).trans (H.out.2.2.2.1 (4 * t + 3) (by omega))
      obtain ⟨⟨u, yu⟩, yf⟩ := HS.out.at_ (k := t) (by omega)
      go_wp2_with fail
      have q0 : IntKind.i64.wrap (4 * (t : Int)) = 4 * (t : Int) := by rw [IntKind.wrap_i64]; omega
      have q1 : IntKind.i64.wrap (4 * (t : Int) + 1) = 4 * (t : Int) + 1 := by rw [IntKind.wrap_i64]; omega
      have q2 : IntKind.i64.wrap (4 * (t : Int) + 2) = 4 * (t : Int) + 2 := by rw [IntKind.wrap_i64]; omega
      have q3 : IntKind.i64.wrap (4 * (t : Int) + 3) = 4 * (t : Int) + 3 := by rw [IntKind.wrap_i64]; omega
      have r0 : (0 : Int) ≤ 4 * (t : Int) ∧ 4 * (t : Int) < 64 := by omega
      have r1 : (0 : Int) ≤ 4 * (t : Int) + 1 ∧ 4 * (t : Int) + 1 < 64 := by omega
      have r2 : (0 : Int) ≤ 4 * (t : Int) + 2 ∧ 4 * (t : Int) + 2 < 64 := by omega
      have r3 : (0 : Int) ≤ 4 * (t : Int) + 3 ∧ 4 * (t : Int) + 3 < 64 := by omega
      have n0 : (4 * (t : Int)).toNat = 4 * t := by omega
      have n1 : (4 * (t : Int) + 1).toNat = 4 * t + 1 := by omega
      have n2 : (4 * (t : Int) + 2).toNat = 4 * t + 2 := by omega
      have n3 : (4 * (t : Int) + 3).toNat = 4 * t + 3 := by omega
      have r4 : (t : Int) < 64 := by omega
      go_still_tail 35, (by kernel_rfl)
      change wpList _ _ _ _ _ wr.drew
      have yu2 : wr.drew.cell? ⟨w.heap.size, t, none⟩ = some u := yu
      have yf2 : wr.drew.frozen? ⟨w.heap.size, t, none⟩ = false := yf
      have HS2 : Hid (SchR w b t wr.drew) := Lib.hid ⟨HS.out.1.drew, HS.out.2⟩
      generalize wr.drew = w2 at *
      clear q0 q1 q2 q3 r0 r1 r2 r3 n0 n1 n2 n3 y0 y1 y2 y3
      go_wp2_with fail
      go_roundw
      case rel => exact ⟨t + 1, by omega, by go_num, Lib.hid (pack_at HS2.out h16)⟩
      case measure => simp [intOf]; omega
    · obtain rfl : t = 16 := by omega
      clear h16 ht
      go_wp2_with fail
      go_loopw [8, 9, 10] (fun i x y wr => ∃ k : Nat, k ≤ 48 ∧ i = .int .i64 ((k : Int) + 16) ∧ Hid (SchR w b (k + 16) wr)) (fun i _ _ _ => 64 - (intOf i).toNat)
      case atStart => exact ⟨0, by decide, rfl, HS⟩
      case round =>
        clear HS
        obtain ⟨k, hk, rfl, HS⟩ := hrel
        by_cases h48 : k < 48
        · have d1 := HS.out.word (by omega) (k := k + 1) (by omega)
          have d14 := HS.out.word (by omega) (k := k + 14) (by omega)
          go_wp2_with fail
          go_quiet (fail)
          go_wp2_with fail
          have HS2 : Hid (SchR w b (k + 16) (wr.drewN nq)) := Lib.hid ⟨below_dn HS.out.1 _, HS.out.2⟩
          clear d1 d14 HS
          generalize wr.drewN nq = w2 at *
          have d9 := HS2.out.word (by omega) (k := k + 9) (by omega)
          have d0 := HS2.out.word (by omega) (k := k) (by omega)
          obtain ⟨⟨u, yu⟩, yf⟩ := HS2.out.at_ (k := k + 16) (by omega)
          have q1 : IntKind.i64.wrap ((k : Int) + 16 - 7) = (k : Int) + 9 := by rw [IntKind.wrap_i64]; omega
          have q2 : IntKind.i64.wrap ((k : Int) + 16 - 16) = (k : Int) := by rw [IntKind.wrap_i64]; omega
          have q3 : IntKind.i64.wrap ((k : Int) + 9) = (k : Int) + 9 := by rw [IntKind.wrap_i64]; omega
          have q4 : IntKind.i64.wrap (k : Int) = (k : Int) := by rw [IntKind.wrap_i64]; omega
          have r1 : (0 : Int) ≤ (k : Int) + 9 ∧ (k : Int) + 9 < 64 := by omega
          have r2 : (k : Int) < 64 := by omega
          have r3 : (0 : Int) ≤ (k : Int) + 16 ∧ (k : Int) + 16 < 64 := by omega
          have n1 : ((k : Int) + 9).toNat = k + 9 := by omega
          have n2 : ((k : Int) + 16).toNat = k + 16 := by omega
          go_still_tail 29, (by kernel_rfl)
          still_call (ref_rotr _ 17 (by decide) (by decide) _)
          repeat still_step
          still_call (ref_rotr _ 19 (by decide) (by decide) _)
          repeat still_step
          still_call (ref_rotr _ 7 (by decide) (by decide) _)
          repeat still_step
          still_call (ref_rotr _ 18 (by decide) (by decide) _)
          repeat still_step
          refine wpStill_nil ?_
          change wpList _ _ _ _ _ w2.drew
          have yu2 : w2.drew.cell? ⟨w.heap.size, k + 16, none⟩ = some u := yu
          have yf2 : w2.drew.frozen? ⟨w.heap.size, k + 16, none⟩ = false := yf
          have HS3 : Hid (SchR w b (k + 16) w2.drew) := Lib.hid ⟨HS2.out.1.drew, HS2.out.2⟩
          generalize w2.drew = w3 at *
          clear q1 q2 q3 q4 r1 r2 n1 d9 d0 HS2
          go_wp2_with fail
          go_roundw
          case rel =>
            (repeat apply Exists.intro)
            exact ⟨⟨k + 1, by omega, by go_num, Lib.hid (next_at HS3.out h48)⟩, rfl⟩
          case measure => simp [intOf]; omega
        · obtain rfl : k = 48 := by omega
          clear h48 hk
          have hst : ∃ b1 o1, A1 = some ⟨b1, o1, none⟩ ∧ b1 < w.heap.size ∧ ∀ j, j < 8 → w.cell? ⟨b1, o1 + j, none⟩ = some (.int .u32 ((st.getD j 0).toNat : Int)) := by
            have h8 := H.out.1
            rcases H.out.2.2.1 with h | ⟨b1, o1, e, hp, hc⟩
            · have := congrArg List.length h; rw [Ws_length] at this; have e0 : ([] : List Value).length = 0 := rfl; omega
            · exact ⟨b1, o1, e, hp, fun j hj => by rw [hc j (by rw [Ws_length]; omega), ws_get (by omega), getD_at (by omega)]⟩
          obtain ⟨b1, o1, rfl, hb1, hc1⟩ := hst
          have HC1 := Lib.hid (fun j (hj : j < 8) => (HS.out.1.cell (p := ⟨b1, o1 + j, none⟩) hb1).trans (hc1 j hj))
          have HCW := Lib.hid hc1
          clear hc1
          have z0 : wr.cell? ⟨b1, o1, none⟩ = some (.int .u32 ((st.getD 0 0).toNat : Int)) := HC1.out 0 (by decide)
          have z1 := HC1.out 1 (by decide)
          have z2 := HC1.out 2 (by decide)
          have z3 := HC1.out 3 (by decide)
          have z4 := HC1.out 4 (by decide)
          have z5 := HC1.out 5 (by decide)
          have z6 := HC1.out 6 (by decide)
          have z7 := HC1.out 7 (by decide)
          go_wp2_with fail
          go_quiet (fail)
          go_wp2_with fail
          have HS2 : Hid (SchR w b 64 (wr.drewN nq)) := Lib.hid ⟨below_dn HS.out.1 _, HS.out.2⟩
          clear z0 z1 z2 z3 z4 z5 z6 z7 HC1 HS
          generalize wr.drewN nq = w2 at *
          go_loopw [11, 12, 13, 14, 15, 16, 17, 18, 19, 20, 21] (fun a b' c d e f g h i _ _ wr => ∃ r : Nat, r ≤ 64 ∧ i = .int .i64 (r : Int) ∧ ∃ s : S8, Hid (s = runW (sch b 64) (S8.of st) r) ∧ a = .int .u32 (s.a.toNat : Int) ∧ b' = .int .u32 (s.b.toNat : Int) ∧ c = .int .u32 (s.c.toNat : Int) ∧ d = .int .u32 (s.d.toNat : Int) ∧ e = .int .u32 (s.e.toNat : Int) ∧ f = .int .u32 (s.f.toNat : Int) ∧ g = .int .u32 (s.g.toNat : Int) ∧ h = .int .u32 (s.h.toNat : Int) ∧ Hid (SchR w b 64 wr)) (fun _ _ _ _ _ _ _ _ i _ _ _ => 64 - (intOf i).toNat)
          case atStart => exact ⟨0, by decide, rfl, S8.of st, Lib.hid rfl, rfl, rfl, rfl, rfl, rfl, rfl, rfl, rfl, HS2⟩
          case round =>
            clear HS2
            obtain ⟨r, hr, rfl, s, Hs, rfl, rfl, rfl, rfl, rfl, rfl, rfl, rfl, HS⟩ := hrel
            by_cases h64 : r < 64
            · have x1 := HS.out.word (by omega) (k := r) h64
              have x2 := (HS.out.1.cell (p := ⟨1, r, none⟩) H.out.2.2.2.2.1).trans (H.out.2.2.2.2.2 r h64)
              have r1 : (0 : Int) ≤ (r : Int) ∧ (r : Int) < 64 := by omega
              have r2 : (r : Int) < 64 := by omega
              have sg : IntKind.u32.signed = false := rfl
              go_wp2_with fail
              go_still_tail 27, (by kernel_rfl)
              still_call (ref_rotr _ 6 (by decide) (by decide) _)
              repeat still_step
              still_call (ref_rotr _ 11 (by decide) (by decide) _)
              repeat still_step
              still_call (ref_rotr _ 25 (by decide) (by decide) _)
              repeat still_step
              refine wpStill_nil ?_
              change wpList _ _ _ _ _ wr.drew
              have HS3 : Hid (SchR w b 64 wr.drew) := Lib.hid ⟨HS.out.1.drew, HS.out.2⟩
              clear x1 x2 r1 r2 sg HS
              generalize wr.drew = w3 at *
              go_wp2_with (go_at_call 56; refine (ref_rotr_z _ _ (by decide) _).mono ?_; rintro e w' ⟨rfl, rfl⟩)
              go_roundw
              case rel =>
                (repeat apply Exists.intro)
                exact ⟨⟨r + 1, by omega, by go_num, rndW (kT.getD r 0) ((sch b 64).getD r 0) s, Lib.hid (by rw [Hs.out]; rfl), ra_val _ _ _, rfl, rfl, rfl, re_val _ _ _, rfl, rfl, rfl, HS3⟩, rfl⟩
              case measure => simp [intOf]; omega
            · obtain rfl : r = 64 := by omega
              clear h64 hr
              have z0 : wr.cell? ⟨b1, o1, none⟩ = some (.int .u32 ((st.getD 0 0).toNat : Int)) := (HS.out.1.cell (p := ⟨b1, o1, none⟩) hb1).trans (HCW.out 0 (by decide))
              have z1 := (HS.out.1.cell (p := ⟨b1, o1 + 1, none⟩) hb1).trans (HCW.out 1 (by decide))
              have z2 := (HS.out.1.cell (p := ⟨b1, o1 + 2, none⟩) hb1).trans (HCW.out 2 (by decide))
              have z3 := (HS.out.1.cell (p := ⟨b1, o1 + 3, none⟩) hb1).trans (HCW.out 3 (by decide))
              have z4 := (HS.out.1.cell (p := ⟨b1, o1 + 4, none⟩) hb1).trans (HCW.out 4 (by decide))
              have z5 := (HS.out.1.cell (p := ⟨b1, o1 + 5, none⟩) hb1).trans (HCW.out 5 (by decide))
              have z6 := (HS.out.1.cell (p := ⟨b1, o1 + 6, none⟩) hb1).trans (HCW.out 6 (by decide))
              have z7 := (HS.out.1.cell (p := ⟨b1, o1 + 7, none⟩) hb1).trans (HCW.out 7 (by decide))
              go_wp2_with fail
              go_still_tail 40, (by kernel_rfl)
              change wpList _ _ _ _ _ wr.drew
              have HS3 : Hid (Below w.heap.size w wr.drew) := Lib.hid HS.out.1.drew
              clear z0 z1 z2 z3 z4 z5 z6 z7 HS
              generalize wr.drew = w3 at *
              go_wp2_with fail
              go_ret2
              refine gives_row (g := w3.heap.size) (c := 8) (l := comp st b) (RowW.new ?_) HS3.out.size (by rw [comp_length]; exact Nat.le_refl _) (HS3.out.alloc HS3.out.size _) (by rw [comp_length]; rfl)
              have e : comp st b = (S8.of st).out s := by unfold comp; rw [Hs.out]
              rw [e]
              exact out_val st s

set_option maxRecDepth 40000 in
theorem ref_comp_bad (A1 A2 : Option Addr) (n1 n2 c1 c2 : Nat) (w : World) (h : n1 ≠ 8 ∨ n2 ≠ 64) (hn1 : n1 ≤ 140737488351232) (hn2 : n2 ≤ 140737488351232) :
    Calls Tryd.prog 46 #[.slice A1 n1 c1, .slice A2 n2 c2] w (GivesW w [] 2) := by
  have hg : GivesW w [] 2 (.returned (.tuple #[.slice none 0 0, .int .i64 2])) w := ⟨none, 0, rfl, by simp, fun _ => rfl, .inl rfl, Below.refl _ _⟩
  have H := Lib.hid hg
  clear hg
  by_cases h1 : n1 = 8
  · have h2 : n2 ≠ 64 := by omega
    subst h1
    clear h
    have d2 : ((n2 : Int) != 64) = true := by simp; omega
    have d3 : ((n2 : Int) == 64) = false := by simp; omega
    go_enter Tryd.func46, Tryd.ntmps46
    go_wp2
    go_ret2
    exact H.out
  · have d2 : ((n1 : Int) != 8) = true := by simp; omega
    have d3 : ((n1 : Int) == 8) = false := by simp; omega
    clear h
    go_enter Tryd.func46, Tryd.ntmps46
    go_wp2
    go_ret2
    exact H.out

end Go.Proofs.YtaikoeoabgkglaaDoor
