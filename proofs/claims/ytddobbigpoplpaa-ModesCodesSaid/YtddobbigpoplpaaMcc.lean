/-
  What is proved here: the reference's double, Pad, Seal (with their rows), Code and Check (of the sixth layer); Code and Check of both in the words that the statements' walks use.
-/
import Derived.Test.YtddobbigpoplpaaMp
import Derived.Test.YtddobbigpoplpaaMr
import Derived.Test.YtddobbigpoplpaaRo
import Derived.Test.YtddobbigpoplpaaMd
import Derived.Test.YtddobbigpoplpaaMa
import Derived.Test.YtddobbigpoplpaaAw5
import Derived.Test.YtddobbigpoplpaaMq
import Derived.Deep.CutRange
namespace Go.Proofs.Ytddobbigpoplpaa
open Go.RowKit
set_option linter.unusedVariables false

def dblU (x : List UInt8) (j : Nat) : List UInt8 := fillP (dblAt x) 16 (fun i => decide (i < j))
theorem dblU_length (x : List UInt8) (j : Nat) : (dblU x j).length = 16 := fillP_length _ _ _
theorem dblU_0 (x : List UInt8) : dblU x 0 = List.replicate 16 0 := by
  unfold dblU
  rw [← fillP_none (dblAt x) 16]
  congr 1
theorem dblU_16 (x : List UInt8) : dblU x 16 = (List.range 16).map (dblAt x) := fillP_all fun i hi => by simpa using hi
theorem dblU_set (x : List UInt8) (t : Nat) : (dblU x t).set t (dblAt x t) = dblU x (t + 1) := by
  refine fillP_set (by simp) fun i hi => ?_
  have : (i < t + 1) = (i < t) := by apply propext; omega
  simp [this]
theorem shl1_u (v : UInt8) : Value.int .u8 ((v.toNat : Int) * 2 % 256) = U (v <<< 1) := by
  unfold U
  rw [shl1_nat]
  congr 1
theorem top_u (v : UInt8) : (v >>> 7 = 1) ↔ 128 ≤ v.toNat := by
  have h := shr7_nat v
  have hl := v.toNat_lt
  constructor
  · intro e
    rw [e] at h
    have h1 : (1 : UInt8).toNat = 1 := rfl
    omega
  · intro e
    apply UInt8.toNat.inj
    rw [h]
    have h1 : (1 : UInt8).toNat = 1 := rfl
    omega
def DuR (w : World) (x : List UInt8) (j : Nat) (wr : World) : Prop := RowB wr w.heap.size (dblU x j) ∧ Below w.heap.size w wr
/-- a first store -/
theorem DuR.one {w wr : World} {x : List UInt8} {t : Nat} {v : UInt8} (h : DuR w x t wr) (hv : v = x.getD t 0) :
    RowB (wr.setCell ⟨w.heap.size, t, none⟩ (.int .u8 ((v.toNat : Int) * 2 % 256))) w.heap.size ((dblU x t).set t (v <<< 1)) ∧ Below w.heap.size w (wr.setCell ⟨w.heap.size, t, none⟩ (.int .u8 ((v.toNat : Int) * 2 % 256))) := by
  rw [shl1_u]
  exact ⟨h.1.set t (v <<< 1), h.2.setCell (p := ⟨w.heap.size, t, none⟩) (Nat.le_refl _) _⟩
theorem DuR.last {w wr : World} {x : List UInt8} {v : UInt8} (hx : x.length = 16) (h : DuR w x 15 wr) (hv : v = x.getD 15 0) : DuR w x 16 (wr.setCell ⟨w.heap.size, 15, none⟩ (.int .u8 ((v.toNat : Int) * 2 % 256))) := by
  have h1 := h.one hv
  have e : v <<< 1 = dblAt x 15 := by
    have h0 : x.getD 16 0 = 0 := by rw [List.getD, List.getElem?_eq_none (by rw [hx]; exact Nat.le_refl _)]; rfl
    unfold dblAt
    rw [h0, ← hv]
    apply UInt8.toNat.inj
    rw [UInt8.toNat_or]
    simp
  rw [e, dblU_set] at h1
  exact h1
theorem DuR.step {w wr : World} {x : List UInt8} {t : Nat} {v u : UInt8} {n : Nat} (h : DuR w x t wr) (hv : v = x.getD t 0) (hu : u = x.getD (t + 1) 0) :
    DuR w x (t + 1) (((wr.setCell ⟨w.heap.size, t, none⟩ (.int .u8 ((v.toNat : Int) * 2 % 256))).setCell ⟨w.heap.size, t, none⟩ (.int .u8 (bits .or .u8 ((v.toNat : Int) * 2 % 256) ((u.toNat : Int) / 128)))).drewN n) := by
  have h1 := h.one hv
  have hy : (u.toNat : Int) / (128 : Int) = ((u >>> 7).toNat : Int) := by rw [shr7_nat]; omega
  rw [dbl_val v (u >>> 7) _ hy]
  have h2 := h1.1.set t (v <<< 1 ||| u >>> 7)
  rw [List.set_set, show v <<< 1 ||| u >>> 7 = dblAt x t by rw [hv, hu]; rfl, dblU_set] at h2
  refine ⟨?_, below_dn (h1.2.setCell (p := ⟨w.heap.size, t, none⟩) (Nat.le_refl _) _) n⟩
  rw [show v <<< 1 ||| u >>> 7 = dblAt x t by rw [hv, hu]; rfl]
  exact h2
set_option maxRecDepth 40000 in
set_option maxHeartbeats 1000000 in
theorem ref_double (x : List UInt8) (A : Option Addr) (c : Nat) (w : World) (hx : x.length = 16) (hs : SeesP w (· < w.heap.size) A (Us x)) :
    Calls Try.prog 61 #[.slice A 16 c] w (One16 w (dblL x)) := by
  obtain ⟨b, o, rfl, hb, hc⟩ := seen_addr hs (by omega)
  have HC := Lib.hid (show ∀ k, k < 16 → w.cell? ⟨b, o + k, none⟩ = some (.int .u8 ((x.getD k 0).toNat : Int)) from fun k hk => hc k (by omega))
  have HX := Lib.hid hx
  clear hc hs hx
  have hm : ∀ w, (Instr.makeSlice 26 (.int .i64 16) (.int .i64 16)).run Try.prog w = .ok (.slice (some ⟨w.heap.size, 0, none⟩) 16 16) (w.alloc (.cells (Us (List.replicate 16 0)).toArray 5)) := fun w => by kernel_rfl
  have HR0 := Lib.hid (show DuR w x 0 (w.alloc (.cells (Us (List.replicate 16 0)).toArray 5)) from ⟨by rw [dblU_0]; exact RowB.new rfl, (Below.refl _ _).alloc (Nat.le_refl _) _⟩)
  go_enter Try.func61, Try.ntmps61
  go_wp2
  go_loopw [4] (fun i wr => ∃ k : Nat, k ≤ 16 ∧ i = .int .i64 (k : Int) ∧ Hid (DuR w x k wr)) (fun i _ => 16 - (intOf i).toNat)
  case atStart => exact ⟨0, by decide, rfl, HR0⟩
  case round =>
    clear HR0
    obtain ⟨t, hk, rfl, HR⟩ := hrel
    by_cases hlt : t < 16
    · have y1 := (HR.out.2.cell (p := ⟨b, o + t, none⟩) hb).trans (HC.out t hlt)
      obtain ⟨v, hv⟩ : ∃ v, v = x.getD t 0 := ⟨_, rfl⟩
      rw [← hv] at y1
      have y3 := HR.out.1.cell (k := t) (by rw [dblU_length]; exact hlt)
      have y4 := HR.out.1.free t
      have i1 : (t : Int) < 16 := by omega
      by_cases h15 : t < 15
      · have i2 : (t : Int) < 15 := by omega
        have i3 : (t : Int) + 1 < 16 := by omega
        obtain ⟨u, hu⟩ : ∃ u, u = x.getD (t + 1) 0 := ⟨_, rfl⟩
        have z1 := ((HR.out.one hv).2.cell (p := ⟨b, o + (t + 1), none⟩) hb).trans (HC.out (t + 1) (by omega))
        rw [← hu] at z1
        have z3 := (HR.out.one hv).1.cell (k := t) (by rw [List.length_set, dblU_length]; exact hlt)
        have z4 := (HR.out.one hv).1.free t
        have e3 : ((dblU x t).set t (v <<< 1)).getD t 0 = v <<< 1 := by
          rw [List.getD, List.getElem?_set_self (by rw [dblU_length]; exact hlt)]; rfl
        rw [e3, ← U, ← shl1_u] at z3
        have HV := Lib.hid (And.intro hv hu)
        clear e3 hv hu HC
        go_wp2
        go_region
        all_goals
          have HS := Lib.hid (fun n => HR.out.step (n := n) HV.out.1 HV.out.2)
          clear y1 y3 y4 z1 z3 z4 HR
          go_wp2
          go_roundw
          case rel => exact ⟨t + 1, by omega, by go_num, Lib.hid (HS.out 1)⟩
          case measure => simp [intOf]; omega
      · obtain rfl : t = 15 := by omega
        have HS := Lib.hid (HR.out.last HX.out hv)
        clear HC hv
        go_wp2
        go_roundw
        case rel => exact ⟨16, by omega, by go_num, HS⟩
        case measure => simp [intOf]
    · obtain rfl : t = 16 := by omega
      have y0 := (HR.out.2.cell (p := ⟨b, o + 0, none⟩) hb).trans (HC.out 0 (by decide))
      obtain ⟨v, hv⟩ : ∃ v, v = x.getD 0 0 := ⟨_, rfl⟩
      rw [← hv] at y0
      rw [Nat.add_zero] at y0
      have HL := Lib.hid (show RowB wr w.heap.size ((List.range 16).map (dblAt x)) from by rw [← dblU_16]; exact HR.out.1)
      have HB := Lib.hid HR.out.2
      clear HR HC hlt hk
      by_cases h1 : x.getD 0 0 >>> 7 = 1
      · have d1 : (128 : Int) ≤ (v.toNat : Int) := by
          have := (top_u _).1 h1
          rw [← hv] at this
          omega
        have HD := Lib.hid (show dblL x = ((List.range 16).map (dblAt x)).set 15 (((List.range 16).map (dblAt x)).getD 15 0 ^^^ 0x87) from if_pos h1)
        obtain ⟨d, hd⟩ : ∃ d, d = (List.range 16).map (dblAt x) := ⟨_, rfl⟩
        rw [← hd] at HL HD
        have hdl : d.length = 16 := by rw [hd]; simp
        clear hd hv h1
        obtain ⟨q, hq⟩ : ∃ q, q = d.getD 15 0 := ⟨_, rfl⟩
        have y3 := HL.out.cell (k := 15) (by omega)
        have y4 := HL.out.free 15
        rw [← hq] at y3
        have HQ := Lib.hid hq
        clear hq
        have HF := Lib.hid (show One16 w (dblL x) (.returned (.slice (some ⟨w.heap.size, 0, none⟩) 16 16)) (wr.setCell ⟨w.heap.size, 15, none⟩ (.int .u8 (bits .xor .u8 (q.toNat : Int) 135))) from by
          have e : bits .xor .u8 (q.toNat : Int) 135 = ((q ^^^ 135).toNat : Int) := b_xor q 135
          rw [e, HD.out, ← HQ.out]
          exact ⟨_, rfl, Nat.le_refl _, HL.out.set 15 (q ^^^ 135), HB.out.setCell (p := ⟨w.heap.size, 15, none⟩) (Nat.le_refl _) _⟩)
        clear HD HL HB HQ
        go_wp2
        (first | go_ret | go_ret2)
        exact HF.out
      · have d1 : ¬ (128 : Int) ≤ (v.toNat : Int) := fun e => h1 ((top_u _).2 (by rw [← hv]; omega))
        have HD := Lib.hid (show dblL x = (List.range 16).map (dblAt x) from if_neg h1)
        clear h1 hv
        go_wp2
        (first | go_ret | go_ret2)
        exact ⟨_, rfl, Nat.le_refl _, by rw [HD.out]; exact HL.out, HB.out⟩

set_option maxHeartbeats 1000000 in
theorem ref_pad_own (l : List UInt8) (A : Option Addr) (c : Nat) (w : World) (hl : l.length ≤ 140737488351300) (hn : A = none → c = 0) (hs : SeesP w (· < w.heap.size) A (Us l)) :
    Calls Try.prog 32 #[.slice A l.length c] w (fun e wr => ∃ v, e = .returned v ∧ PRel w (padM l) v wr) := by
  obtain ⟨i0, hi, hz0, hz1, hz2⟩ := info_parts info_u8p
  have hzz : padQ l.length < 16 := by unfold padQ; omega
  have HS := Lib.hid (show (A = none → c = 0) ∧ SeesP w (· < w.heap.size) A (Us l) from ⟨hn, hs⟩)
  clear hn hs
  go_enter Try.func32, Try.ntmps32
  go_wp2_with (first | (at_builtin; refine app_bytes rfl (.const (.slice none 0 0)) (.tmp 4) 26 rfl w.heap.size 5 i0 (.int .u8 0) Try.underlying26 hi hz0 hz1 hz2 rfl (.slice none 0 0) 0 [] rfl (World.ownsRow_nil _ _ _ _) A c l _ rfl HS.out.1 HS.out.2 (by unfold maxLen; omega) (by omega) (Nat.le_refl _) ?_; intro v1 w1 ho1 hg1; rw [Nat.zero_add, List.nil_append] at ho1; have P1 := Lib.hid (show PRel w l v1 w1 from ⟨ho1, (Below.refl _ _).grown hg1 (Nat.le_refl _) (fun k e => by cases e)⟩); have hsz1 := hg1.size; clear hg1) | (at_builtin; refine wpList_append_own _ rfl (.tmp 5) (.tmp 6) 26 rfl w.heap.size 5 i0 (.int .u8 0) 1 1 Try.underlying26 hi hz0 hz1 hz2 rfl (by decide) v1 l.length _ rfl (ho1.alloc _) ⟨_, 0, none⟩ 1 1 [.int .u8 128] rfl rfl (World.news_of_block (heap_alloc_new _ _)) (one_u8 _ 128 rfl) (by unfold maxLen; omega) (by omega) (by simp; omega) ?_; intro v2 w2 ho2 hg2 _; have P2 := Lib.hid (show PRel w (l ++ [128]) v2 w2 from P1.out.snoc rfl ho2 hg2); clear ho1 ho2 hg2 P1 hsz1))
  go_loopw [3] (fun v wr => ∃ k : Nat, k ≤ padQ l.length ∧ Hid (PRel w (l ++ [128] ++ List.replicate k 0) v wr)) (fun v _ => match v with | .slice _ n _ => (l.length + 1 + padQ l.length) - n | _ => 0)
  case atStart => exact ⟨0, Nat.zero_le _, Lib.hid (by simpa using P2.out)⟩
  case round =>
    clear P2
    obtain ⟨k, hk, HP⟩ := hrel
    have hlk : (l ++ [128] ++ List.replicate k 0).length = l.length + 1 + k := by simp; omega
    have ho := HP.out.1
    rw [hlk] at ho
    obtain ⟨A1, c1, rfl⟩ := own_len ho
    have hsz := HP.out.2.size
    clear hlk
    by_cases hkz : k = padQ l.length
    · have d1 : (((l.length : Int) + 1 + (k : Int)) % 16 != 0) = false := by
        have := (padQ_mod l.length k hk).2 hkz
        simp
        omega
      have HF := Lib.hid (show ∃ v, Ending.returned (.slice A1 (l.length + 1 + k) c1) = .returned v ∧ PRel w (padM l) v wr from by
        rw [padM_def, ← hkz]
        exact ⟨_, rfl, HP.out⟩)
      clear HP ho hkz
      go_wp2_with fail
      go_ret
      exact HF.out
    · have d1 : (((l.length : Int) + 1 + (k : Int)) % 16 != 0) = true := by
        have h := padQ_mod l.length k hk
        simp
        omega
      have hkl : k < padQ l.length := by omega
      go_wp2_with (at_builtin; refine wpList_append_own _ rfl (.tmp 12) (.tmp 13) 26 rfl w.heap.size 5 i0 (.int .u8 0) 1 1 Try.underlying26 hi hz0 hz1 hz2 rfl (by decide) (.slice A1 (l.length + 1 + k) c1) (l.length + 1 + k) _ rfl (ho.alloc _) ⟨_, 0, none⟩ 1 1 [.int .u8 0] rfl rfl (World.news_of_block (heap_alloc_new _ _)) (one_u8 _ 0 rfl) (by unfold maxLen; omega) (by omega) (by simp; omega) ?_; intro v2 w2 ho2 hg2 _; have P2 := Lib.hid (pad_zero HP.out ho2 hg2); obtain ⟨A2, c2, rfl⟩ := own_len ho2; clear ho ho2 hg2 HP)
      go_roundw
      case rel => exact ⟨k + 1, by omega, P2⟩
      case measure => simp; omega


/-- bytes and an error, the bytes within their capacity -/
def GivesC (w : World) (l : List UInt8) (er : Int) (e : Ending) (w' : World) : Prop := ∃ A c, e = .returned (.tuple #[.slice A l.length c, .int .i64 er]) ∧ l.length ≤ c ∧ SeesP w' (· < w'.heap.size) A (Us l) ∧ Below w.heap.size w w'
theorem givesC_own {w wr : World} {base : Nat} {e : TypeId} {v : Value} {n : Nat} {l : List UInt8} {er : Int} (h : wr.ownsRow base e 1 v n (Us l)) (hb : Below w.heap.size w wr) (hn : n = l.length) :
    GivesC w l er (.returned (.tuple #[v, .int .i64 er])) wr := by
  obtain ⟨A, c, rfl⟩ := own_form h
  have hc := own_cap h
  exact ⟨A, c, by rw [hn], by omega, SeesP.iff_sees.2 (Sees.of_own h), hb⟩
set_option maxRecDepth 40000 in
set_option maxHeartbeats 800000 in
theorem ref_seal_okc (key iv p : List UInt8) (m : Nat) (A1 A2 A3 : Option Addr) (c1 c2 c3 : Nat) (w : World) (hk : key.length = 16) (hiv : iv.length = 16) (hp : p.length = 16 * m) (hreach : 16 * m ≤ 140737488351300)
    (h1 : SeesP w (· < w.heap.size) A1 (Us key)) (h2 : SeesP w (· < w.heap.size) A2 (Us iv)) (h3 : SeesP w (· < w.heap.size) A3 (Us p)) :
    Calls Try.prog 36 #[.slice A1 16 c1, .slice A2 16 c2, .slice A3 (16 * m) c3] w (GivesC w (sealN key iv p m) 0) := by
  obtain ⟨i0, hi, hz0, hz1, hz2⟩ := info_parts info_u8p
  have HL := Lib.hid (show _ ∧ _ ∧ _ from ⟨hk, hiv, hp⟩)
  have HS := Lib.hid (show _ ∧ _ ∧ _ from ⟨h1, h2, h3⟩)
  have HK1 := Lib.hid (SeesP.iff_sees.1 h1)
  have d16 : (((16 : Int) * (m : Int)) % 16 != 0) = false := by rw [bne_eq_false_iff_eq]; omega
  clear hk hiv hp h1 h2 h3
  go_enter Try.func36, Try.ntmps36
  go_wp2_with (go_at_call 50; ((with_reducible refine (ref_ready key A1 _ _ HL.out.1 HK1.out).mono ?_); rintro e w1 ⟨gc, rfl, hrd, hb1⟩); have HR := Lib.hid hrd; have HB1 := Lib.hid hb1; clear hrd hb1)
  have HI := Lib.hid (show RsR key iv p 0 A2 (.slice none 0 0) w1 w1 from ⟨(HS.out.2.1.keep fun q hq => HB1.out.cell hq).imp fun q hq => Nat.lt_of_lt_of_le hq HB1.out.size, World.ownsRow_nil _ _ _ _, Below.refl _ _⟩)
  have HP1 := Lib.hid (show SeesP w1 (· < w1.heap.size) A3 (Us p) from (HS.out.2.2.keep fun q hq => HB1.out.cell hq).imp fun q hq => Nat.lt_of_lt_of_le hq HB1.out.size)
  go_loopw [9, 10, 11] (fun l o i wr => ∃ (k : Nat) (A : Option Addr) (c : Nat) (v : Value), k ≤ m ∧ l = .slice A 16 c ∧ i = .int .i64 (16 * (k : Int)) ∧ v = o ∧ Hid (RsR key iv p k A v w1 wr)) (fun _ _ i _ => (16 * (m : Int) - intOf i).toNat)
  case atStart => exact ⟨0, A2, c2, _, Nat.zero_le _, rfl, rfl, rfl, HI⟩
  case round =>
    clear HI
    obtain ⟨k, A, c, v, hkm, rfl, rfl, rfl, HI⟩ := hrel
    obtain ⟨w2, rfl⟩ : ∃ w2, w2 = wr := ⟨_, rfl⟩
    by_cases hlt : k < m
    · have d1 : (16 : Int) * (k : Int) < 16 * (m : Int) := by omega
      obtain ⟨x, hx⟩ : ∃ x, x = blk16 p k := ⟨_, rfl⟩
      obtain ⟨y, hy⟩ : ∃ y, y = stN key iv p k := ⟨_, rfl⟩
      have HX := Lib.hid (show x.length = 16 ∧ ∀ j, j < 16 → x.getD j 0 = p.getD (16 * k + j) 0 from ⟨by rw [hx]; exact blk16_length HL.out.2.2 hlt, fun j hj => by rw [hx]; exact blk_get (by rw [HL.out.2.2]; omega) hj⟩)
      have HY := Lib.hid (show y.length = 16 by rw [hy]; exact stN_length HL.out.2.1 k)
      have HN := Lib.hid (show stN key iv p (k + 1) = encL key (xor16 x y) from by rw [stN, hx, hy])
      have hsy := HI.out.1
      rw [← hy] at hsy
      obtain ⟨b2, o2, rfl, hb2, hc2⟩ := seen_addr hsy (by rw [HY.out]; decide)
      obtain ⟨b3, o3, rfl, hb3, hc3⟩ := seen_addr HP1.out (by rw [HL.out.2.2]; omega)
      have HC := Lib.hid (show (∀ j, j < 16 → w2.cell? ⟨b2, o2 + j, none⟩ = some (.int .u8 ((y.getD j 0).toNat : Int))) ∧ (∀ j, j < 16 → w2.cell? ⟨b3, o3 + (16 * k + j), none⟩ = some (.int .u8 ((x.getD j 0).toNat : Int))) ∧ b2 < w2.heap.size ∧ b3 < w2.heap.size from
        ⟨fun j hj => hc2 j (by rw [HY.out]; exact hj), fun j hj => by rw [HX.out.2 j hj, HI.out.2.2.cell (p := ⟨b3, o3 + (16 * k + j), none⟩) hb3]; exact hc3 _ (by rw [HL.out.2.2]; omega), hb2, Nat.lt_of_lt_of_le hb3 HI.out.2.2.size⟩)
      clear hx hy hsy hb2 hc2 hb3 hc3
      go_wp2_with ((with_reducible refine wpList_alloc_b (op := ⟨some 12, _, _, _, _, _⟩) rfl 50 rfl 16 info_s ?_); intro gx w3 hf hr; have HJ := Lib.hid (show RqR x y gx 0 w2 w3 from ⟨by rw [hf.1]; exact Nat.le_refl _, hf.bw, by rw [xorK_zero]; exact hr⟩); clear hf hr)
      go_loopw [13] (fun i wq => ∃ j : Nat, j ≤ 16 ∧ i = .int .i64 (j : Int) ∧ Hid (RqR x y gx j w2 wq)) (fun i _ => 16 - (intOf i).toNat)
      case atStart => exact ⟨0, by decide, rfl, HJ⟩
      case round =>
        clear HJ
        obtain ⟨j, hj, rfl, HJ⟩ := hrel
        by_cases h16 : j < 16
        · obtain ⟨a, ha⟩ : ∃ a, a = x.getD j 0 := ⟨_, rfl⟩
          obtain ⟨b, hb⟩ : ∃ b, b = y.getD j 0 := ⟨_, rfl⟩
          have y1 := (HJ.out.2.1.cell (p := ⟨b2, o2 + j, none⟩) HC.out.2.2.1).trans (HC.out.1 j h16)
          have y2 := (HJ.out.2.1.cell (p := ⟨b3, o3 + (16 * k + j), none⟩) HC.out.2.2.2).trans (HC.out.2.1 j h16)
          rw [← hb] at y1
          rw [← ha] at y2
          have y3 := HJ.out.2.2.cell (k := j) (by rw [xorK_length]; exact h16)
          have y4 := HJ.out.2.2.free j
          have HAB := Lib.hid (And.intro ha hb)
          have q1 : IntKind.i64.wrap (16 * (k : Int) + (j : Int)) = 16 * (k : Int) + (j : Int) := by rw [IntKind.wrap_i64]; omega
          have r1 : (0 : Int) ≤ 16 * (k : Int) + (j : Int) ∧ 16 * (k : Int) + (j : Int) < 16 * (m : Int) := by omega
          have r2 : (j : Int) < 16 := by omega
          have n1 : (16 * (k : Int) + (j : Int)).toNat = 16 * k + j := by omega
          clear ha hb
          go_wp2_with fail
          go_still_tail 13, (by kernel_rfl)
          change wpList _ _ _ _ _ wr.drew
          have y3' : wr.drew.cell? ⟨gx, j, none⟩ = some (.int .u8 (((xorK x y j).getD j 0).toNat : Int)) := y3
          have y4' : wr.drew.frozen? ⟨gx, j, none⟩ = false := y4
          have HJ2 := Lib.hid HJ.out.drew
          clear HJ y1 y2 y3 y4 q1 n1 r1
          generalize wr.drew = w4 at *
          go_wp2_with fail
          go_roundw
          case rel => exact ⟨j + 1, by omega, by go_num, Lib.hid (HJ2.out.step HAB.out.1 HAB.out.2)⟩
          case measure => simp [intOf]; omega
        · have hj16 : j = 16 := by omega
          have dj : ¬ ((j : Int) < 16) := by omega
          obtain ⟨r, hr⟩ : ∃ r, r = encL key (xor16 x y) := ⟨_, rfl⟩
          have HE := Lib.hid (show encL key (xor16 x y) = r ∧ r.length = 16 ∧ (xor16 x y).length = 16 from ⟨hr.symm, by rw [hr]; exact encL_length _ _, xor16_length _ _⟩)
          have HQ := Lib.hid (show w2.heap.size ≤ gx ∧ Below w2.heap.size w2 wr ∧ RowB wr gx (xor16 x y) from by have h := HJ.out; rw [hj16] at h; exact ⟨h.1, h.2.1, by have h2 := h.2.2; rw [xorK_all] at h2; exact h2⟩)
          have HRd := Lib.hid (show Rdy wr key gc from HR.out.on (HI.out.2.2.trans (HQ.out.2.1.mono HI.out.2.2.size)))
          have HSx := Lib.hid (HQ.out.2.2.sees (· < wr.heap.size) HQ.out.2.2.lt)
          have hsz1 := HI.out.2.2.size
          have hszq := HQ.out.2.1.size
          have hb16 : 16 * k + 16 ≤ 140737488351300 := by omega
          clear HJ hj16 hr hj h16
          have HO := Lib.hid (own_below HI.out.2.1 HQ.out.2.1)
          go_wp2_with (first
            | (go_at_call 51; ((with_reducible refine (menc_n (r := r) HL.out.1 HE.out.2.2 HE.out.1 HRd.out HSx.out).mono ?_); rintro e w4 ⟨A4, c4, rfl, hs4, hb4⟩); have H4 := Lib.hid (show SeesP w4 (fun b => wr.heap.size ≤ b ∧ b < w4.heap.size) A4 (Us r) ∧ Below wr.heap.size wr w4 ∧ w1.heap.size ≤ w4.heap.size from ⟨hs4, hb4, Nat.le_trans (Nat.le_trans hsz1 hszq) hb4.size⟩); have HO4 := Lib.hid (own_below HO.out hb4); clear hs4 hb4)
            | (at_builtin; ((with_reducible refine app_bytes_m rfl (.tmp 55) (.tmp 56) 26 rfl w1.heap.size 5 i0 (.int .u8 0) Try.underlying26 hi hz0 hz1 hz2 rfl v (16 * k) _ rfl HO4.out A4 c4 16 r _ HE.out.2.1 n16p rfl H4.out.1 hb16 H4.out.2.2 ?_); intro v5 w5 ho5 hg5); have H5 := Lib.hid (RsR.next HI.out HQ.out.2.1 H4.out.2.1 H4.out.1 (HN.out.trans HE.out.1) ho5 hg5); clear ho5 hg5))
          go_roundw
          case rel => exact ⟨k + 1, A4, c4, v5, by omega, rfl, congrArg (Value.int .i64) (by omega), rfl, H5⟩
          case measure => simp only [intOf]; omega
    · have hkm2 : k = m := by omega
      have d1 : ¬ ((16 : Int) * (k : Int) < 16 * (m : Int)) := by omega
      have HF := Lib.hid (show ∀ v, _ → GivesC w (sealN key iv p m) 0 (.returned (.tuple #[v, .int .i64 0])) w2 from fun v (hv : w2.ownsRow w1.heap.size 5 1 v (16 * k) (Us (sealN key iv p k))) => by
        rw [hkm2] at hv
        exact givesC_own hv (HB1.out.trans (HI.out.2.2.mono HB1.out.size)) (sealN_length HL.out.2.1 m).symm)
      have HO := Lib.hid HI.out.2.1
      clear hlt hkm hkm2 HI
      go_wp2_with fail
      go_ret2
      exact HF.out _ HO.out

/-- the last sixteen bytes combined with a mask, up to byte j -/
def tlT (l m : List UInt8) (j : Nat) : List UInt8 := l.take (l.length - 16) ++ (List.range 16).map fun i => if i < j then (l.drop (l.length - 16)).getD i 0 ^^^ m.getD i 0 else (l.drop (l.length - 16)).getD i 0
theorem tlT_length {l m : List UInt8} (h : 16 ≤ l.length) (j : Nat) : (tlT l m j).length = l.length := by
  rw [tlT, List.length_append, List.length_take, List.length_map, List.length_range]
  omega
theorem tlT_0 {l m : List UInt8} (h : 16 ≤ l.length) : tlT l m 0 = l := by
  have e : (List.range 16).map (fun i => if i < 0 then (l.drop (l.length - 16)).getD i 0 ^^^ m.getD i 0 else (l.drop (l.length - 16)).getD i 0) = l.drop (l.length - 16) := by
    apply List.ext_getElem
    · simp; omega
    · intro i h1 h2
      simp only [List.getElem_map, List.getElem_range, Nat.not_lt_zero, if_false]
      rw [getD_b h2]
  rw [tlT, e, List.take_append_drop]
theorem tlT_16 (l m : List UInt8) : tlT l m 16 = tailX l m := by
  rw [tlT, tailX]
  congr 1
  first
    | done
    | (apply List.map_congr_left
       intro i hi
       rw [List.mem_range] at hi
       rw [if_pos hi])
theorem tlT_get {l m : List UInt8} (h : 16 ≤ l.length) {j : Nat} (hj : j < 16) : (tlT l m j).getD (l.length - 16 + j) 0 = (l.drop (l.length - 16)).getD j 0 := by
  unfold tlT
  rw [List.getD, List.getElem?_append_right (by rw [List.length_take]; omega), List.length_take, show l.length - 16 + j - min (l.length - 16) l.length = j by omega, List.getElem?_map, List.getElem?_range hj]
  simp
theorem tlT_set {l m : List UInt8} (h : 16 ≤ l.length) {j : Nat} (hj : j < 16) : (tlT l m j).set (l.length - 16 + j) ((l.drop (l.length - 16)).getD j 0 ^^^ m.getD j 0) = tlT l m (j + 1) := by
  unfold tlT
  rw [List.set_append_right _ _ (by rw [List.length_take]; omega), List.length_take, show l.length - 16 + j - min (l.length - 16) l.length = j by omega]
  congr 1
  apply List.ext_getElem
  · simp
  · intro i h1 h2
    rw [List.getElem_set]
    simp only [List.getElem_map, List.getElem_range]
    by_cases hi : j = i
    · subst hi
      simp
    · rw [if_neg hi]
      have : (i < j + 1) = (i < j) := by apply propext; omega
      simp only [this]
def TxR (w : World) (l m : List UInt8) (gk g L c j : Nat) (wr : World) : Prop :=
  wr.ownsRow w.heap.size 5 1 (.slice (some ⟨g, 0, none⟩) L c) L (Us (tlT l m j)) ∧ RowB wr gk m ∧ gk ≠ g ∧ w.heap.size ≤ g ∧ Below w.heap.size w wr
theorem TxR.step {w wr : World} {l m : List UInt8} {gk g L c j n k : Nat} {x y : UInt8} (h : TxR w l m gk g L c j wr) (h16 : 16 ≤ L) (hL : l.length = L) (hn : n = L - 16) (hj : j < 16) (hx : x = (l.drop n).getD j 0) (hy : y = m.getD j 0) :
    TxR w l m gk g L c (j + 1) ((wr.setCell ⟨g, n + j, none⟩ (.int .u8 (bits .xor .u8 (x.toNat : Int) (y.toNat : Int)))).drewN k) := by
  subst hL hn
  obtain ⟨h1, h2, h3, h5, h4⟩ := h
  rw [b_xor]
  have e := (h1.stored (l.length - 16 + j) (U (x ^^^ y))).1
  rw [Us_set, hx, hy, tlT_set h16 hj] at e
  refine ⟨?_, ?_, h3, h5, below_dn (h4.setCell (p := ⟨g, l.length - 16 + j, none⟩) h5 _) k⟩
  · rw [hx, hy]
    exact e
  · obtain ⟨t, ht⟩ := h2
    exact ⟨t, (heap_setCell_other wr ⟨g, l.length - 16 + j, none⟩ gk (.int .u8 ((x ^^^ y).toNat : Int)) h3).trans ht⟩
theorem TxR.rd {w wr : World} {l m : List UInt8} {gk g L c j n : Nat} (h : TxR w l m gk g L c j wr) (h16 : 16 ≤ L) (hL : l.length = L) (hn : n = L - 16) (hm : m.length = 16) (hj : j < 16) :
    wr.cell? ⟨g, n + j, none⟩ = some (.int .u8 (((l.drop n).getD j 0).toNat : Int)) ∧ wr.frozen? ⟨g, n + j, none⟩ = false ∧ wr.cell? ⟨gk, j, none⟩ = some (.int .u8 ((m.getD j 0).toNat : Int)) := by
  subst hL hn
  refine ⟨?_, h.1.frozenAt _, h.2.1.cell (by omega)⟩
  have hlt : l.length - 16 + j < (tlT l m j).length := by rw [tlT_length h16]; omega
  rw [h.1.cellAt _ (by omega), Us_get hlt, ← getD_b hlt, tlT_get h16 hj]
theorem own_pos {w : World} {base n : Nat} {e : TypeId} {v : Value} {xs : List Value} (h : w.ownsRow base e 1 v n xs) (hn : 0 < n) : ∃ g c, v = .slice (some ⟨g, 0, none⟩) n c ∧ base ≤ g ∧ n ≤ c := by
  rcases h.2 with ⟨_, h0⟩ | ⟨g, cap, cur, h1, h2, h3, h4, _⟩
  · omega
  · exact ⟨g, cap, h1, h2, h4⟩
theorem own_base {w : World} {base base2 n : Nat} {e : TypeId} {v : Value} {xs : List Value} (h : w.ownsRow base e 1 v n xs) (hb : base2 ≤ base) : w.ownsRow base2 e 1 v n xs := by
  refine ⟨h.1, ?_⟩
  rcases h.2 with h0 | ⟨g, cap, cur, h1, h2, h3⟩
  · exact .inl h0
  · exact .inr ⟨g, cap, cur, h1, Nat.le_trans hb h2, h3⟩
theorem SeesP.dropN {w : World} {p : Nat → Prop} {b o : Nat} {S : List UInt8} (n : Nat) (h : SeesP w p (some ⟨b, o, none⟩) (Us S)) : SeesP w p (some ⟨b, o + n, none⟩) (Us (S.drop n)) := by
  rcases h with h | ⟨b', o', e, hp, hc⟩
  · left
    have : S = [] := List.eq_nil_of_length_eq_zero (by simpa [Us] using congrArg List.length h)
    subst this
    simp [Us]
  · injection e with e
    injection e with e1 e2
    subst e1 e2
    refine .inr ⟨b, o + n, rfl, hp, fun j hj => ?_⟩
    rw [Us_length, List.length_drop] at hj
    have h2 := hc (n + j) (by rw [Us_length]; omega)
    rw [show o + n + j = o + (n + j) by omega, h2]
    rw [Us_get (by omega), Us_get (by rw [List.length_drop]; omega), List.getElem_drop]
theorem seal_last {key iv p : List UInt8} {L n : Nat} (hiv : iv.length = 16) (h16 : 16 ≤ L) (hm : L % 16 = 0) (hn : n = L - 16) : (sealN key iv p (L / 16)).drop n = stN key iv p (L / 16) := by
  obtain ⟨k, hk⟩ : ∃ k, L / 16 = k + 1 := ⟨L / 16 - 1, by omega⟩
  rw [hk, sealN, show n = (sealN key iv p k).length by rw [sealN_length hiv]; omega, List.drop_left]
theorem seal_ok_n {key iv p : List UInt8} {L : Nat} {A1 A2 A3 : Option Addr} {c1 c2 c3 : Nat} {w : World} (hk : key.length = 16) (hiv : iv.length = 16) (hp : p.length = L) (hm : L % 16 = 0) (h16 : 16 ≤ L) (hr : L ≤ 140737488351300)
    (h1 : SeesP w (· < w.heap.size) A1 (Us key)) (h2 : SeesP w (· < w.heap.size) A2 (Us iv)) (h3 : SeesP w (· < w.heap.size) A3 (Us p)) :
    Calls Try.prog 36 #[.slice A1 16 c1, .slice A2 16 c2, .slice A3 L c3] w fun e w' => ∃ b o c, e = .returned (.tuple #[.slice (some ⟨b, o, none⟩) L c, .int .i64 0]) ∧ L ≤ c ∧ SeesP w' (· < w'.heap.size) (some ⟨b, o, none⟩) (Us (sealN key iv p (L / 16))) ∧ Below w.heap.size w w' := by
  have h := ref_seal_okc key iv p (L / 16) A1 A2 A3 c1 c2 c3 w hk hiv (by omega) (by omega) h1 h2 h3
  rw [show 16 * (L / 16) = L by omega] at h
  have hl : (sealN key iv p (L / 16)).length = L := by rw [sealN_length hiv]; omega
  refine h.mono ?_
  rintro e w' ⟨A, c, rfl, hc, hs, hb⟩
  rw [hl] at hc ⊢
  obtain ⟨b, o, rfl, _, _⟩ := seen_addr hs (by omega)
  exact ⟨b, o, c, rfl, hc, hs, hb⟩
set_option maxRecDepth 40000 in
set_option maxHeartbeats 1000000 in
theorem ref_code_ok (key b : List UInt8) (A1 A2 : Option Addr) (c1 c2 : Nat) (w : World) (hk : key.length = 16) (hl : b.length ≤ 140737488351250) (hc2 : A2 = none → c2 = 0) (h1 : SeesP w (· < w.heap.size) A1 (Us key)) (h2 : SeesP w (· < w.heap.size) A2 (Us b)) :
    Calls Try.prog 41 #[.slice A1 16 c1, .slice A2 b.length c2] w (GivesC w (codeL key b) 0) := by
  obtain ⟨i0, hi, hz0, hz1, hz2⟩ := info_parts info_u8p
  obtain ⟨zx, hzx⟩ : ∃ x, x = zeroM := ⟨_, rfl⟩
  obtain ⟨r, hr⟩ : ∃ r, r = encL key zx := ⟨_, rfl⟩
  obtain ⟨k1, hk1⟩ : ∃ x, x = dblL r := ⟨_, rfl⟩
  have HL := Lib.hid (show key.length = 16 ∧ zx.length = 16 ∧ encL key zx = r ∧ r.length = 16 ∧ dblL r = k1 from ⟨hk, by rw [hzx]; rfl, hr.symm, by rw [hr]; exact encL_length _ _, hk1.symm⟩)
  have HCD := Lib.hid (show codeL key b = stN key zx (mskL b k1) ((mskL b k1).length / 16) from by rw [hk1, hr, hzx]; rfl)
  have HS := Lib.hid (show _ ∧ _ ∧ _ from ⟨h1, h2, hc2⟩)
  have hm : ∀ w, (Instr.makeSlice 26 (.int .i64 16) (.int .i64 16)).run Try.prog w = .ok (.slice (some ⟨w.heap.size, 0, none⟩) 16 16) (w.alloc (.cells (Us zx).toArray 5)) := fun w => by rw [hzx]; exact make_m w
  have HM := Lib.hid hm
  clear hm hzx hr hk1 hk h1 h2 hc2
  have HD0 := Lib.hid (show Below w.heap.size w w.drew from (Below.refl _ _).drew)
  go_enter Try.func41, Try.ntmps41
  go_upto_region 3 with fail
  go_cut [6] from 14 to 18 (fun v6 wx => ∃ gk, v6 = .slice (some ⟨gk, 0, none⟩) 16 16 ∧ Hid (RowB wx gk k1 ∧ Below w.heap.size w wx))
  case first =>
    refine wp_region_held_drew (S := Below w.heap.size w) (by kernel_rfl) HD0.out (fun hHeld => ?_)
    refine wpAnyH_take (i := 0) (v := _) rfl (by kernel_rfl) (by kernel_rfl) (by kernel_rfl) (fun _ _ _ h => h) (Or.inl ⟨by rfl, (by intro w hSw; go_simp; first | done | with_reducible rfl)⟩) hHeld ?_
    simp only [Act.put]
    refine wpAnyH_ready (rs := [1, 2]) (by kernel_rfl) (by simp) ?_
    refine AllReadyH.cons rfl (fun K hK => ?_) (AllReadyH.cons rfl (fun K hK => ?_) AllReadyH.nil)
    · go_simp
      go_wp2_with (go_at_call 50; ((with_reducible refine (ref_ready key A1 _ _ HL.out.1 (SeesP.iff_sees.1 (HS.out.1.on HD0.out))).mono ?_); rintro e w1 ⟨gc, rfl, hrd, hb⟩); have HR1 := Lib.hid hrd; have HB1 := Lib.hid (below_on HD0.out hb); clear hrd hb)
      refine hK.out _ _ HB1.out (fun hHeld => ?_)
      clear hK K
      refine wpAnyH_ready (rs := [2]) (by kernel_rfl) (by simp) ?_
      refine AllReadyH.cons rfl (fun K hK => ?_) AllReadyH.nil
      rw [if_pos (by rfl)]
      refine wp_make_b 26 _ _ rfl (.int .i64 16) (.int .i64 16) (by go_simp) (by go_simp) zx 16 5 (HM.out _) ?_
      intro g w2 hf hr
      have HB2 := Lib.hid (hf.bl HB1.out)
      have HR2 := Lib.hid (HR1.out.on hf.bw)
      have HZ := Lib.hid hr.lowS
      clear hf hr HR1
      refine hK.out _ _ HB2.out (fun hHeld => ?_)
      clear hK K
      refine wpAnyH_ready (rs := [3]) (by kernel_rfl) (by simp) ?_
      refine AllReadyH.cons rfl (fun K hK => ?_) AllReadyH.nil
      go_simp
      go_wp2_with (go_at_call 51; ((with_reducible refine (menc_n (r := r) HL.out.1 HL.out.2.1 HL.out.2.2.1 HR2.out HZ.out).mono ?_); rintro e w3 ⟨A3, c3, rfl, hs, hb⟩); have HSE := Lib.hid (hs.imp (p' := (· < w3.heap.size)) fun q hq => hq.2); have HB3 := Lib.hid (below_on HB2.out hb); clear hs hb)
      refine hK.out _ _ HB3.out (fun hHeld => ?_)
      clear hK K
      refine wpAnyH_ready (rs := [4]) (by kernel_rfl) (by simp) ?_
      refine AllReadyH.cons rfl (fun K hK => ?_) AllReadyH.nil
      go_simp
      go_wp2_with (go_at_call 61; ((with_reducible refine (ref_double r A3 c3 _ HL.out.2.2.2.1 HSE.out).mono ?_); rintro e w4 ⟨gk, rfl, hg, hr, hb⟩); rw [HL.out.2.2.2.2] at hr; have HB4 := Lib.hid (below_on HB3.out hb); have HK4 := Lib.hid hr; clear hg hr hb)
      refine hK.out _ _ HB4.out (fun hHeld => ?_)
      clear hK K
      refine wpAnyH_ready (rs := [5]) (by kernel_rfl) (by simp) ?_
      refine AllReadyH.cons rfl (fun K hK => ?_) AllReadyH.nil
      go_simp
      refine hK.out _ _ HB4.out (fun hHeld => ?_)
      clear hK K
      refine wpAnyH_done (by kernel_rfl) ?_ _
      clear HSE HB3 HB2 HB1 HR2 HZ hHeld
      go_wp2_with fail
      go_meet
      exact ⟨gk, rfl, Lib.hid ⟨HK4.out, HB4.out⟩⟩
    · rw [if_pos (by rfl)]
      refine wp_make_b 26 _ _ rfl (.int .i64 16) (.int .i64 16) (by go_simp) (by go_simp) zx 16 5 (HM.out _) ?_
      intro g w1 hf hr
      have HB1 := Lib.hid (hf.bl HD0.out)
      have HR1 := Lib.hid hr
      clear hf hr
      refine hK.out _ _ HB1.out (fun hHeld => ?_)
      clear hK K
      refine wpAnyH_ready (rs := [1]) (by kernel_rfl) (by simp) ?_
      refine AllReadyH.cons rfl (fun K hK => ?_) AllReadyH.nil
      go_simp
      go_wp2_with (go_at_call 50; ((with_reducible refine (ref_ready key A1 _ _ HL.out.1 (SeesP.iff_sees.1 (HS.out.1.on HB1.out))).mono ?_); rintro e w2 ⟨gc, rfl, hrd, hb⟩); have HR2 := Lib.hid hrd; have HZ := Lib.hid (HR1.out.on hb).lowS; have HB2 := Lib.hid (below_on HB1.out hb); clear hrd hb)
      refine hK.out _ _ HB2.out (fun hHeld => ?_)
      clear hK K
      refine wpAnyH_ready (rs := [3]) (by kernel_rfl) (by simp) ?_
      refine AllReadyH.cons rfl (fun K hK => ?_) AllReadyH.nil
      go_simp
      go_wp2_with (go_at_call 51; ((with_reducible refine (menc_n (r := r) HL.out.1 HL.out.2.1 HL.out.2.2.1 HR2.out HZ.out).mono ?_); rintro e w3 ⟨A3, c3, rfl, hs, hb⟩); have HSE := Lib.hid (hs.imp (p' := (· < w3.heap.size)) fun q hq => hq.2); have HB3 := Lib.hid (below_on HB2.out hb); clear hs hb)
      refine hK.out _ _ HB3.out (fun hHeld => ?_)
      clear hK K
      refine wpAnyH_ready (rs := [4]) (by kernel_rfl) (by simp) ?_
      refine AllReadyH.cons rfl (fun K hK => ?_) AllReadyH.nil
      go_simp
      go_wp2_with (go_at_call 61; ((with_reducible refine (ref_double r A3 c3 _ HL.out.2.2.2.1 HSE.out).mono ?_); rintro e w4 ⟨gk, rfl, hg, hr, hb⟩); rw [HL.out.2.2.2.2] at hr; have HB4 := Lib.hid (below_on HB3.out hb); have HK4 := Lib.hid hr; clear hg hr hb)
      refine hK.out _ _ HB4.out (fun hHeld => ?_)
      clear hK K
      refine wpAnyH_ready (rs := [5]) (by kernel_rfl) (by simp) ?_
      refine AllReadyH.cons rfl (fun K hK => ?_) AllReadyH.nil
      go_simp
      refine hK.out _ _ HB4.out (fun hHeld => ?_)
      clear hK K
      refine wpAnyH_done (by kernel_rfl) ?_ _
      clear HSE HB3 HB2 HB1 HR2 HZ hHeld
      go_wp2_with fail
      go_meet
      exact ⟨gk, rfl, Lib.hid ⟨HK4.out, HB4.out⟩⟩
  case rest =>
    obtain ⟨gk, rfl, HK⟩ := hcut
    go_upto_region 5 with (at_builtin; refine app_bytes rfl (.const (.slice none 0 0)) (.tmp 19) 26 rfl wc.heap.size 5 i0 (.int .u8 0) Try.underlying26 hi hz0 hz1 hz2 rfl (.slice none 0 0) 0 [] rfl (World.ownsRow_nil _ _ _ _) A2 c2 b _ rfl HS.out.2.2 (HS.out.2.1.on HK.out.2) (by unfold maxLen; omega) (by omega) (Nat.le_refl _) ?_; intro v1 w4 ho1 hg1; rw [Nat.zero_add, List.nil_append] at ho1; have H4 := Lib.hid (show w4.ownsRow wc.heap.size 5 1 v1 b.length (Us b) ∧ Below wc.heap.size wc w4 from ⟨ho1, (Below.refl _ _).grown hg1 (Nat.le_refl _) (fun k e => by cases e)⟩); clear ho1 hg1)
    have HB4 := Lib.hid (below_on HK.out.2 H4.out.2)
    have HK4 := Lib.hid (HK.out.1.on H4.out.2)
    have HKL := Lib.hid (show k1.length = 16 by rw [← HL.out.2.2.2.2]; exact dblL_length _)
    by_cases hw : b.length ≠ 0 ∧ b.length % 16 = 0
    · have d0 : ((b.length : Int) == 0) = false := by rw [beq_eq_false_iff_ne]; omega
      have d16 : ((b.length : Int) % 16 != 0) = false := by rw [bne_eq_false_iff_eq]; omega
      obtain ⟨g, c, rfl, hgb, hcc⟩ := own_pos H4.out.1 (by omega)
      have h16 : 16 ≤ b.length := by omega
      have HX0 := Lib.hid (show TxR w b k1 gk g b.length c 0 w4 from ⟨by rw [tlT_0 h16]; exact own_base H4.out.1 HK.out.2.size, HK4.out, fun e => by have := HK.out.1.lt; omega, Nat.le_trans HK.out.2.size hgb, HB4.out⟩)
      have HT0 := Lib.hid (show b.length = b.length ∧ mskL b k1 = tailX b k1 ∧ k1.length = 16 from ⟨rfl, if_pos hw, by rw [← HL.out.2.2.2.2]; exact dblL_length _⟩)
      have hmod := hw.2
      have hLs : b.length ≤ 140737488351300 := by omega
      obtain ⟨l, hl0⟩ : ∃ l, l = b := ⟨_, rfl⟩
      obtain ⟨m, hm0⟩ : ∃ m, m = k1 := ⟨_, rfl⟩
      obtain ⟨L, hL0⟩ : ∃ L, L = b.length := ⟨_, rfl⟩
      obtain ⟨gm, hgm⟩ : ∃ x, x = gk := ⟨_, rfl⟩
      have HX := Lib.hid (show TxR w l m gm g L c 0 w4 by rw [hl0, hm0, hL0, hgm]; exact HX0.out)
      have HT := Lib.hid (show l.length = L ∧ mskL b k1 = tailX l m ∧ m.length = 16 by rw [hl0, hm0, hL0]; exact HT0.out)
      rw [← hL0] at h16 hmod hLs hcc d0 d16 ⊢
      rw [← hgm] at HK HK4 ⊢
      clear HX0 HT0 H4 HK4 HB4 HK hw hl hgb hl0 hm0 hL0 hgm
      go_wp2_with fail
      obtain ⟨n, hn⟩ : ∃ n, n = L - 16 := ⟨_, rfl⟩
      have e2 : (L : Int) - 16 = (n : Int) := by omega
      have HN := Lib.hid hn
      have hne : ¬ L = n := by omega
      have hnN : n ≤ L := by omega
      have hnI : (n : Int) ≤ (L : Int) := by omega
      have es : L - n = 16 := by omega
      clear hn
      go_loopw [8] (fun i wr => ∃ j : Nat, j ≤ 16 ∧ i = .int .i64 (j : Int) ∧ Hid (TxR w l m gm g L c j wr)) (fun i _ => 16 - (intOf i).toNat)
      case atStart => exact ⟨0, by decide, rfl, HX⟩
      case round =>
        clear HX
        obtain ⟨j, hk, rfl, HR⟩ := hrel
        by_cases hlt : j < 16
        · obtain ⟨y1, y2, y3⟩ := HR.out.rd h16 HT.out.1 HN.out HT.out.2.2 hlt
          obtain ⟨x, hx⟩ : ∃ x, x = (l.drop n).getD j 0 := ⟨_, rfl⟩
          obtain ⟨y, hy⟩ : ∃ y, y = m.getD j 0 := ⟨_, rfl⟩
          rw [← hx] at y1
          rw [← hy] at y3
          have HXY := Lib.hid (And.intro hx hy)
          clear hx hy
          have i1 : (n : Int) + (j : Int) < (L : Int) := by omega
          have i2 : n + j < L := by omega
          have i3 : (j : Int) < 16 := by omega
          go_wp2
          go_region
          all_goals
            have HS2 := Lib.hid (fun k => HR.out.step (k := k) h16 HT.out.1 HN.out hlt HXY.out.1 HXY.out.2)
            clear y1 y2 y3 HR
            go_wp2
            go_roundw
            case rel => exact ⟨j + 1, by omega, by go_num, Lib.hid (HS2.out 1)⟩
            case measure => simp [intOf]; omega
        · obtain rfl : j = 16 := by omega
          have HB := Lib.hid HR.out.2.2.2.2
          have HP := Lib.hid (show SeesP wr (· < wr.heap.size) (some ⟨g, 0, none⟩) (Us (mskL b k1)) from by
            have h := HR.out.1
            rw [tlT_16, ← HT.out.2.1] at h
            exact (SeesP.iff_sees.2 (Sees.of_own h)).imp fun q hq => hq)
          have HPL := Lib.hid (show (mskL b k1).length = L by rw [HT.out.2.1, tailX_length (by rw [HT.out.1]; exact h16), HT.out.1])
          clear HR hlt hk
          have hm := HM.out
          go_wp2_with (go_at_call 36; ((with_reducible refine (seal_ok_n (p := mskL b k1) (iv := zx) HL.out.1 HL.out.2.1 HPL.out hmod h16 hLs ((HS.out.1.on HB.out).on ((Below.refl _ _).alloc (Nat.le_refl _) _)) ((RowB.new rfl).lowS) (HP.out.on ((Below.refl _ _).alloc (Nat.le_refl _) _))).mono ?_); rintro e w6 ⟨b6, o6, c6, rfl, hc6, hs, hb⟩); have HF := Lib.hid (show GivesC w (codeL key b) 0 (.returned (.tuple #[.slice (some ⟨b6, o6 + n, none⟩) 16 (c6 - n), .int .i64 0])) w6 from (by
              have e := hs.dropN n
              rw [seal_last HL.out.2.1 h16 hmod HN.out, ← HPL.out, ← HCD.out] at e
              exact ⟨_, _, by rw [codeL_length], by rw [codeL_length]; omega, e, below_on (HB.out.alloc HB.out.size _) hb⟩)); clear hs hb)
          go_ret2
          exact HF.out
    · by_cases h0 : b.length = 0
      · have d0 : ((b.length : Int) == 0) = true := by rw [beq_iff_eq]; omega
        clear h0
        go_wp2_with (first
          | (go_at_call 61; ((with_reducible refine (ref_double k1 _ _ _ HKL.out HK4.out.lowS).mono ?_); rintro e w5 ⟨gm, rfl, hg, hr, hb⟩); have H5 := Lib.hid (show RowB w5 gm (dblL k1) ∧ Below w.heap.size w w5 from ⟨hr, below_on HB4.out hb⟩); clear hg hr hb)
          | (go_at_call 32; ((with_reducible refine (ref_pad_own b A2 c2 _ (by omega) HS.out.2.2 (HS.out.2.1.on H5.out.2)).mono ?_); rintro e w6 ⟨v, rfl, hr⟩); have H6 := Lib.hid hr; clear hr; obtain ⟨g, c, rfl, hgb, hcc⟩ := own_pos H6.out.1 (by have := padM_pos b; omega)))
        have h16 : 16 ≤ (padM b).length := padM_pos b
        have HX0 := Lib.hid (show TxR w (padM b) (dblL k1) gm g (padM b).length c 0 w6 from ⟨by rw [tlT_0 h16]; exact own_base H6.out.1 H5.out.2.size, H5.out.1.on H6.out.2, fun e => by have := H5.out.1.lt; omega, Nat.le_trans H5.out.2.size hgb, below_on H5.out.2 H6.out.2⟩)
        have HT0 := Lib.hid (show (padM b).length = (padM b).length ∧ mskL b k1 = tailX (padM b) (dblL k1) ∧ (dblL k1).length = 16 from ⟨rfl, if_neg hw, dblL_length _⟩)
        have hmod := padM_whole b
        have hLs : (padM b).length ≤ 140737488351300 := by rw [padM_length]; omega
        obtain ⟨l, hl0⟩ : ∃ l, l = padM b := ⟨_, rfl⟩
        obtain ⟨m, hm0⟩ : ∃ m, m = dblL k1 := ⟨_, rfl⟩
        rw [← hl0, ← hm0] at HX0 HT0
        rw [← hl0] at hmod hLs h16 hcc ⊢
        obtain ⟨L, hL0⟩ : ∃ L, L = l.length := ⟨_, rfl⟩
        rw [← hL0] at HX0 HT0 hmod hLs h16 hcc ⊢
        have HX := HX0
        have HT := Lib.hid (show l.length = L ∧ mskL b k1 = tailX l m ∧ m.length = 16 from ⟨hL0.symm, HT0.out.2⟩)
        clear HX0 HT0 H4 HK4 HB4 HK H5 H6 hw hl hgb hl0 hm0 hL0 HKL
        obtain ⟨n, hn⟩ : ∃ n, n = L - 16 := ⟨_, rfl⟩
        have e2 : (L : Int) - 16 = (n : Int) := by omega
        have HN := Lib.hid hn
        have hne : ¬ L = n := by omega
        have hnN : n ≤ L := by omega
        have hnI : (n : Int) ≤ (L : Int) := by omega
        have es : L - n = 16 := by omega
        clear hn
        go_loopw [8] (fun i wr => ∃ j : Nat, j ≤ 16 ∧ i = .int .i64 (j : Int) ∧ Hid (TxR w l m gm g L c j wr)) (fun i _ => 16 - (intOf i).toNat)
        case atStart => exact ⟨0, by decide, rfl, HX⟩
        case round =>
          clear HX
          obtain ⟨j, hk, rfl, HR⟩ := hrel
          by_cases hlt : j < 16
          · obtain ⟨y1, y2, y3⟩ := HR.out.rd h16 HT.out.1 HN.out HT.out.2.2 hlt
            obtain ⟨x, hx⟩ : ∃ x, x = (l.drop n).getD j 0 := ⟨_, rfl⟩
            obtain ⟨y, hy⟩ : ∃ y, y = m.getD j 0 := ⟨_, rfl⟩
            rw [← hx] at y1
            rw [← hy] at y3
            have HXY := Lib.hid (And.intro hx hy)
            clear hx hy
            have i1 : (n : Int) + (j : Int) < (L : Int) := by omega
            have i2 : n + j < L := by omega
            have i3 : (j : Int) < 16 := by omega
            go_wp2
            go_region
            all_goals
              have HS2 := Lib.hid (fun k => HR.out.step (k := k) h16 HT.out.1 HN.out hlt HXY.out.1 HXY.out.2)
              clear y1 y2 y3 HR
              go_wp2
              go_roundw
              case rel => exact ⟨j + 1, by omega, by go_num, Lib.hid (HS2.out 1)⟩
              case measure => simp [intOf]; omega
          · obtain rfl : j = 16 := by omega
            have HB := Lib.hid HR.out.2.2.2.2
            have HP := Lib.hid (show SeesP wr (· < wr.heap.size) (some ⟨g, 0, none⟩) (Us (mskL b k1)) from by
              have h := HR.out.1
              rw [tlT_16, ← HT.out.2.1] at h
              exact (SeesP.iff_sees.2 (Sees.of_own h)).imp fun q hq => hq)
            have HPL := Lib.hid (show (mskL b k1).length = L by rw [HT.out.2.1, tailX_length (by rw [HT.out.1]; exact h16), HT.out.1])
            clear HR hlt hk
            have hm := HM.out
            go_wp2_with (go_at_call 36; ((with_reducible refine (seal_ok_n (p := mskL b k1) (iv := zx) HL.out.1 HL.out.2.1 HPL.out hmod h16 hLs ((HS.out.1.on HB.out).on ((Below.refl _ _).alloc (Nat.le_refl _) _)) ((RowB.new rfl).lowS) (HP.out.on ((Below.refl _ _).alloc (Nat.le_refl _) _))).mono ?_); rintro e w6 ⟨b6, o6, c6, rfl, hc6, hs, hb⟩); have HF := Lib.hid (show GivesC w (codeL key b) 0 (.returned (.tuple #[.slice (some ⟨b6, o6 + n, none⟩) 16 (c6 - n), .int .i64 0])) w6 from (by
                have e := hs.dropN n
                rw [seal_last HL.out.2.1 h16 hmod HN.out, ← HPL.out, ← HCD.out] at e
                exact ⟨_, _, by rw [codeL_length], by rw [codeL_length]; omega, e, below_on (HB.out.alloc HB.out.size _) hb⟩)); clear hs hb)
            go_ret2
            exact HF.out
      · have d0 : ((b.length : Int) == 0) = false := by rw [beq_eq_false_iff_ne]; omega
        have d16 : ((b.length : Int) % 16 != 0) = true := by rw [bne_iff_ne]; omega
        go_wp2_with (first
          | (go_at_call 61; ((with_reducible refine (ref_double k1 _ _ _ HKL.out HK4.out.lowS).mono ?_); rintro e w5 ⟨gm, rfl, hg, hr, hb⟩); have H5 := Lib.hid (show RowB w5 gm (dblL k1) ∧ Below w.heap.size w w5 from ⟨hr, below_on HB4.out hb⟩); clear hg hr hb)
          | (go_at_call 32; ((with_reducible refine (ref_pad_own b A2 c2 _ (by omega) HS.out.2.2 (HS.out.2.1.on H5.out.2)).mono ?_); rintro e w6 ⟨v, rfl, hr⟩); have H6 := Lib.hid hr; clear hr; obtain ⟨g, c, rfl, hgb, hcc⟩ := own_pos H6.out.1 (by have := padM_pos b; omega)))
        have h16 : 16 ≤ (padM b).length := padM_pos b
        have HX0 := Lib.hid (show TxR w (padM b) (dblL k1) gm g (padM b).length c 0 w6 from ⟨by rw [tlT_0 h16]; exact own_base H6.out.1 H5.out.2.size, H5.out.1.on H6.out.2, fun e => by have := H5.out.1.lt; omega, Nat.le_trans H5.out.2.size hgb, below_on H5.out.2 H6.out.2⟩)
        have HT0 := Lib.hid (show (padM b).length = (padM b).length ∧ mskL b k1 = tailX (padM b) (dblL k1) ∧ (dblL k1).length = 16 from ⟨rfl, if_neg hw, dblL_length _⟩)
        have hmod := padM_whole b
        have hLs : (padM b).length ≤ 140737488351300 := by rw [padM_length]; omega
        obtain ⟨l, hl0⟩ : ∃ l, l = padM b := ⟨_, rfl⟩
        obtain ⟨m, hm0⟩ : ∃ m, m = dblL k1 := ⟨_, rfl⟩
        rw [← hl0, ← hm0] at HX0 HT0
        rw [← hl0] at hmod hLs h16 hcc ⊢
        obtain ⟨L, hL0⟩ : ∃ L, L = l.length := ⟨_, rfl⟩
        rw [← hL0] at HX0 HT0 hmod hLs h16 hcc ⊢
        have HX := HX0
        have HT := Lib.hid (show l.length = L ∧ mskL b k1 = tailX l m ∧ m.length = 16 from ⟨hL0.symm, HT0.out.2⟩)
        clear HX0 HT0 H4 HK4 HB4 HK H5 H6 hw hl hgb hl0 hm0 hL0 HKL
        obtain ⟨n, hn⟩ : ∃ n, n = L - 16 := ⟨_, rfl⟩
        have e2 : (L : Int) - 16 = (n : Int) := by omega
        have HN := Lib.hid hn
        have hne : ¬ L = n := by omega
        have hnN : n ≤ L := by omega
        have hnI : (n : Int) ≤ (L : Int) := by omega
        have es : L - n = 16 := by omega
        clear hn
        go_loopw [8] (fun i wr => ∃ j : Nat, j ≤ 16 ∧ i = .int .i64 (j : Int) ∧ Hid (TxR w l m gm g L c j wr)) (fun i _ => 16 - (intOf i).toNat)
        case atStart => exact ⟨0, by decide, rfl, HX⟩
        case round =>
          clear HX
          obtain ⟨j, hk, rfl, HR⟩ := hrel
          by_cases hlt : j < 16
          · obtain ⟨y1, y2, y3⟩ := HR.out.rd h16 HT.out.1 HN.out HT.out.2.2 hlt
            obtain ⟨x, hx⟩ : ∃ x, x = (l.drop n).getD j 0 := ⟨_, rfl⟩
            obtain ⟨y, hy⟩ : ∃ y, y = m.getD j 0 := ⟨_, rfl⟩
            rw [← hx] at y1
            rw [← hy] at y3
            have HXY := Lib.hid (And.intro hx hy)
            clear hx hy
            have i1 : (n : Int) + (j : Int) < (L : Int) := by omega
            have i2 : n + j < L := by omega
            have i3 : (j : Int) < 16 := by omega
            go_wp2
            go_region
            all_goals
              have HS2 := Lib.hid (fun k => HR.out.step (k := k) h16 HT.out.1 HN.out hlt HXY.out.1 HXY.out.2)
              clear y1 y2 y3 HR
              go_wp2
              go_roundw
              case rel => exact ⟨j + 1, by omega, by go_num, Lib.hid (HS2.out 1)⟩
              case measure => simp [intOf]; omega
          · obtain rfl : j = 16 := by omega
            have HB := Lib.hid HR.out.2.2.2.2
            have HP := Lib.hid (show SeesP wr (· < wr.heap.size) (some ⟨g, 0, none⟩) (Us (mskL b k1)) from by
              have h := HR.out.1
              rw [tlT_16, ← HT.out.2.1] at h
              exact (SeesP.iff_sees.2 (Sees.of_own h)).imp fun q hq => hq)
            have HPL := Lib.hid (show (mskL b k1).length = L by rw [HT.out.2.1, tailX_length (by rw [HT.out.1]; exact h16), HT.out.1])
            clear HR hlt hk
            have hm := HM.out
            go_wp2_with (go_at_call 36; ((with_reducible refine (seal_ok_n (p := mskL b k1) (iv := zx) HL.out.1 HL.out.2.1 HPL.out hmod h16 hLs ((HS.out.1.on HB.out).on ((Below.refl _ _).alloc (Nat.le_refl _) _)) ((RowB.new rfl).lowS) (HP.out.on ((Below.refl _ _).alloc (Nat.le_refl _) _))).mono ?_); rintro e w6 ⟨b6, o6, c6, rfl, hc6, hs, hb⟩); have HF := Lib.hid (show GivesC w (codeL key b) 0 (.returned (.tuple #[.slice (some ⟨b6, o6 + n, none⟩) 16 (c6 - n), .int .i64 0])) w6 from (by
                have e := hs.dropN n
                rw [seal_last HL.out.2.1 h16 hmod HN.out, ← HPL.out, ← HCD.out] at e
                exact ⟨_, _, by rw [codeL_length], by rw [codeL_length]; omega, e, below_on (HB.out.alloc HB.out.size _) hb⟩)); clear hs hb)
            go_ret2
            exact HF.out

theorem SeesP.takeN {w : World} {p : Nat → Prop} {A : Option Addr} {S : List UInt8} (n : Nat) (h : SeesP w p A (Us S)) : SeesP w p A (Us (S.take n)) := by
  rcases h with h | ⟨b, o, e, hp, hc⟩
  · left
    have : S = [] := List.eq_nil_of_length_eq_zero (by simpa [Us] using congrArg List.length h)
    subst this
    simp [Us]
  · refine .inr ⟨b, o, e, hp, fun j hj => ?_⟩
    rw [Us_length, List.length_take] at hj
    rw [hc j (by rw [Us_length]; omega), Us_get (by omega), Us_get (by rw [List.length_take]; omega), List.getElem_take]
theorem gives_nil {w w' : World} {er : Int} (h : Below w.heap.size w w') : GivesS w 0 [] er (.returned (.tuple #[.slice none 0 0, .int .i64 er])) w' := ⟨none, 0, rfl, .inl rfl, h⟩
theorem cd_16 {key b : List UInt8} (h : key.length = 16) : cdB key b = codeL key b ∧ cdE key.length = 0 ∧ ckB key b = (codeL key b).take 8 := by
  have e : cdB key b = codeL key b := if_pos h
  exact ⟨e, if_pos h, by rw [ckB, e]⟩
theorem cd_no {key b : List UInt8} (h : key.length ≠ 16) : cdB key b = [] ∧ cdE key.length = 14 ∧ ckB key b = [] := by
  have e : cdB key b = [] := if_neg h
  exact ⟨e, if_neg h, by rw [ckB, e]; rfl⟩
theorem ck8 (key b : List UInt8) : ((codeL key b).take 8).length = 8 := by rw [List.length_take, codeL_length]; rfl
theorem ckB_le (key b : List UInt8) : (ckB key b).length ≤ 16 := by
  have := cdB_le key b
  rw [ckB, List.length_take]
  omega
set_option maxHeartbeats 400000 in
theorem ref_code_no (A1 A2 : Option Addr) (n c1 n2 c2 : Nat) (w : World) (h : n ≠ 16) (hl : n ≤ 140737488351250) : Calls Try.prog 41 #[.slice A1 n c1, .slice A2 n2 c2] w (GivesS w 0 [] 14) := by
  have d2 : ((n : Int) != 16) = true := by rw [bne_iff_ne]; omega
  go_enter Try.func41, Try.ntmps41
  go_wp2
  (first | go_ret2 | go_ret)
  exact gives_nil (Below.refl _ _)
theorem code_p (key b : List UInt8) (A1 A2 : Option Addr) (c1 c2 : Nat) (w : World) (m1 : key.length ≤ 140737488351250) (m2 : b.length ≤ 140737488351250) (h1 : SeesP w (· < w.heap.size) A1 (Us key)) (h2 : SeesP w (· < w.heap.size) A2 (Us b)) :
    Calls Try.prog 40 #[.slice A1 key.length c1, .slice A2 b.length c2] w (GivesS w (cdB key b).length (cdB key b) (cdE key.length)) := by
  refine (modes_code key b A1 A2 c1 c2 w (by omega) (by omega) h1 h2).mono fun e w' ⟨ha, hb⟩ => ?_
  by_cases h16 : key.length = 16
  · rw [(cd_16 h16).1, (cd_16 (b := b) h16).2.1, codeL_length]
    obtain ⟨g, rfl, hg, hr, hb⟩ := ha h16
    exact ⟨_, _, rfl, hr.lowS, hb⟩
  · rw [(cd_no h16).1, (cd_no (b := b) h16).2.1]
    obtain ⟨rfl, hbb⟩ := hb h16
    exact gives_nil hbb
theorem code_r (key b : List UInt8) (A1 A2 : Option Addr) (c1 c2 : Nat) (w : World) (m1 : key.length ≤ 140737488351250) (m2 : b.length ≤ 140737488351250) (ha : A2 = none → c2 = 0) (h1 : SeesP w (· < w.heap.size) A1 (Us key)) (h2 : SeesP w (· < w.heap.size) A2 (Us b)) :
    Calls Try.prog 41 #[.slice A1 key.length c1, .slice A2 b.length c2] w (GivesS w (cdB key b).length (cdB key b) (cdE key.length)) := by
  by_cases h16 : key.length = 16
  · rw [(cd_16 h16).1, (cd_16 (b := b) h16).2.1, h16]
    exact (ref_code_ok key b A1 A2 c1 c2 w h16 m2 ha h1 h2).mono fun e w' ⟨A, c, he, _, hs, hb⟩ => ⟨A, c, he, hs, hb⟩
  · rw [(cd_no h16).1, (cd_no (b := b) h16).2.1]
    exact ref_code_no A1 A2 _ c1 _ c2 w h16 m1
set_option maxHeartbeats 400000 in
theorem check_p (key b : List UInt8) (A1 A2 : Option Addr) (c1 c2 : Nat) (w : World) (m1 : key.length ≤ 140737488351250) (m2 : b.length ≤ 140737488351250) (h1 : SeesP w (· < w.heap.size) A1 (Us key)) (h2 : SeesP w (· < w.heap.size) A2 (Us b)) :
    Calls Try.prog 42 #[.slice A1 key.length c1, .slice A2 b.length c2] w (GivesS w (ckB key b).length (ckB key b) (cdE key.length)) := by
  have HC := Lib.hid (modes_code key b A1 A2 c1 c2 w (by omega) (by omega) h1 h2)
  clear h1 h2
  by_cases h16 : key.length = 16
  · rw [(cd_16 h16).2.2, (cd_16 (b := b) h16).2.1, ck8]
    have HC := Lib.hid (show Calls _ _ _ w (Row16 w (codeL key b)) from HC.out.mono fun e w' h => h.1 h16)
    rw [h16] at HC ⊢
    clear m1 h16
    go_enter Try.func42, Try.ntmps42
    go_wp2_with (go_at_call 40; (with_reducible refine HC.out.mono ?_); rintro e w1 ⟨g, rfl, hg, hr, hb⟩; have H1 := Lib.hid (show _ ∧ _ ∧ _ from ⟨hg, hr, hb⟩); clear hg hr hb)
    (first | go_ret2 | go_ret)
    exact ⟨_, _, rfl, H1.out.2.1.lowS.takeN 8, H1.out.2.2⟩
  · rw [(cd_no h16).2.2, (cd_no (b := b) h16).2.1]
    have HC := Lib.hid (show Calls _ _ _ w (fun e w' => e = .returned (.tuple #[.slice none 0 0, .int .i64 14]) ∧ Below w.heap.size w w') from HC.out.mono fun e w' h => h.2 h16)
    obtain ⟨n, hn⟩ : ∃ n, n = key.length := ⟨_, rfl⟩
    rw [← hn] at HC ⊢
    clear m1 h16 hn
    go_enter Try.func42, Try.ntmps42
    go_wp2_with (go_at_call 40; (with_reducible refine HC.out.mono ?_); rintro e w1 ⟨rfl, hb⟩; have H1 := Lib.hid hb; clear hb)
    (first | go_ret2 | go_ret)
    exact gives_nil H1.out
set_option maxHeartbeats 400000 in
theorem check_r (key b : List UInt8) (A1 A2 : Option Addr) (c1 c2 : Nat) (w : World) (m1 : key.length ≤ 140737488351250) (m2 : b.length ≤ 140737488351250) (ha : A2 = none → c2 = 0) (h1 : SeesP w (· < w.heap.size) A1 (Us key)) (h2 : SeesP w (· < w.heap.size) A2 (Us b)) :
    Calls Try.prog 43 #[.slice A1 key.length c1, .slice A2 b.length c2] w (GivesS w (ckB key b).length (ckB key b) (cdE key.length)) := by
  by_cases h16 : key.length = 16
  · have HC := Lib.hid (ref_code_ok key b A1 A2 c1 c2 w h16 m2 ha h1 h2)
    rw [(cd_16 h16).2.2, (cd_16 (b := b) h16).2.1, ck8, h16]
    clear m1 h16 h1 h2
    go_enter Try.func43, Try.ntmps43
    go_wp2_with (go_at_call 41; (with_reducible refine HC.out.mono ?_); rintro e w1 ⟨A, c, rfl, hc, hs, hb⟩; rw [codeL_length] at hc ⊢; obtain ⟨bb, oo, rfl, _, _⟩ := seen_addr hs (by rw [codeL_length]; decide); have H1 := Lib.hid (show _ ∧ _ from ⟨hs, hb⟩); have hc8 : 8 ≤ c := (by omega); have hc8i : (8 : Int) ≤ (c : Int) := (by omega); clear hs hb)
    (first | go_ret2 | go_ret)
    exact ⟨_, _, rfl, H1.out.1.takeN 8, H1.out.2⟩
  · rw [(cd_no h16).2.2, (cd_no (b := b) h16).2.1]
    obtain ⟨n, hn⟩ : ∃ n, n = key.length := ⟨_, rfl⟩
    have HC := Lib.hid (ref_code_no A1 A2 n c1 b.length c2 w (by omega) (by omega))
    rw [← hn]
    clear m1 h16 hn h1 h2
    go_enter Try.func43, Try.ntmps43
    go_wp2_with (go_at_call 41; (with_reducible refine HC.out.mono ?_); rintro e w1 ⟨A, c, rfl, hs, hb⟩; have H1 := Lib.hid hb; clear hs hb)
    (first | go_ret2 | go_ret)
    exact gives_nil H1.out
section
variable {key b B : List UInt8} {E : Int} {A1 A2 : Option Addr} {n1 n2 c1 c2 k : Nat} {w : World}
theorem code_pg (e1 : key.length = n1) (e2 : b.length = n2) (eE : cdE n1 = E) (eB : cdB key b = B) (eK : B.length = k) (m1 : n1 ≤ 140737488351250) (m2 : n2 ≤ 140737488351250)
    (h1 : SeesP w (· < w.heap.size) A1 (Us key)) (h2 : SeesP w (· < w.heap.size) A2 (Us b)) : Calls Try.prog 40 #[.slice A1 n1 c1, .slice A2 n2 c2] w (GivesS w k B E) := by
  subst e1 e2 eE eB eK
  exact code_p key b A1 A2 c1 c2 w m1 m2 h1 h2
theorem code_rg (e1 : key.length = n1) (e2 : b.length = n2) (eE : cdE n1 = E) (eB : cdB key b = B) (eK : B.length = k) (m1 : n1 ≤ 140737488351250) (m2 : n2 ≤ 140737488351250) (ha : A2 = none → c2 = 0)
    (h1 : SeesP w (· < w.heap.size) A1 (Us key)) (h2 : SeesP w (· < w.heap.size) A2 (Us b)) : Calls Try.prog 41 #[.slice A1 n1 c1, .slice A2 n2 c2] w (GivesS w k B E) := by
  subst e1 e2 eE eB eK
  exact code_r key b A1 A2 c1 c2 w m1 m2 ha h1 h2
theorem check_pg (e1 : key.length = n1) (e2 : b.length = n2) (eE : cdE n1 = E) (eB : ckB key b = B) (eK : B.length = k) (m1 : n1 ≤ 140737488351250) (m2 : n2 ≤ 140737488351250)
    (h1 : SeesP w (· < w.heap.size) A1 (Us key)) (h2 : SeesP w (· < w.heap.size) A2 (Us b)) : Calls Try.prog 42 #[.slice A1 n1 c1, .slice A2 n2 c2] w (GivesS w k B E) := by
  subst e1 e2 eE eB eK
  exact check_p key b A1 A2 c1 c2 w m1 m2 h1 h2
theorem check_rg (e1 : key.length = n1) (e2 : b.length = n2) (eE : cdE n1 = E) (eB : ckB key b = B) (eK : B.length = k) (m1 : n1 ≤ 140737488351250) (m2 : n2 ≤ 140737488351250) (ha : A2 = none → c2 = 0)
    (h1 : SeesP w (· < w.heap.size) A1 (Us key)) (h2 : SeesP w (· < w.heap.size) A2 (Us b)) : Calls Try.prog 43 #[.slice A1 n1 c1, .slice A2 n2 c2] w (GivesS w k B E) := by
  subst e1 e2 eE eB eK
  exact check_r key b A1 A2 c1 c2 w m1 m2 ha h1 h2
end

end Go.Proofs.Ytddobbigpoplpaa
