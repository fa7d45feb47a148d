/-
  What is proved here: what the program's appendList appends, where there is room: the encodings of the objects; for objects that lie in memory.
-/
import Derived.Test.YtkgfdbbdmchmeaaDoorRows
import Derived.Test.YtkgfdbbdmchmeaaDoorZ0
import Derived.Test.YtkgfdbbdmchmeaaDoorZ5
import Derived.Laws.ResultCell
import Derived.Laws.Rows
import Derived.Test.YtkgfdbbdmchmeaaDoorZ2
import Derived.Test.YtkgfdbbdmchmeaaDoorZ4
namespace Go.Proofs.YtkgfdbbdmchmeaaDoor
open Go.RowKit
set_option maxRecDepth 8000
def enc : F → List UInt8
  | .nil => []
  | .cons t v k r => tagL t.toNat ++ lenL (v.length + encN k) ++ v ++ enc k ++ enc r
theorem tagN_nat (t : Int) : tagN (t.toNat : Int) = tagN t := by
  unfold tagN
  by_cases h : 255 < t
  · rw [if_pos h, if_pos (by omega)]
  · rw [if_neg h, if_neg (by omega)]
theorem enc_length : ∀ f : F, (enc f).length = encN f
  | .nil => rfl
  | .cons t v k r => by
    simp only [enc, encN, List.length_append, enc_length k, enc_length r, lenL_length, tagL_length, tagN_nat]
    omega
def F.tags : F → Prop
  | .nil => True
  | .cons t _ k r => (0 < t ∧ t ≤ 65535) ∧ k.tags ∧ r.tags
theorem Out.ge {w : World} {B g k cap : Nat} {l : List UInt8} (h : Out w B g k cap l) : B ≤ g ∧ g < w.heap.size := by
  rcases h.2 with ⟨h1, _⟩ | ⟨g', cap', cur, h1, h2, h3, _⟩
  · cases h1
  · injection h1 with h1 _ _
    injection h1 with h1
    injection h1 with h1
    subst h1
    refine ⟨h2, ?_⟩
    rcases Nat.lt_or_ge g w.heap.size with h | h
    · exact h
    · rw [Array.getElem?_eq_none h] at h3; cases h3
theorem grown_cell {a b : World} {g : Nat} (h : a.grownBy b (some g)) {p : Addr} (h1 : p.block < a.heap.size) (h2 : p.block ≠ g) : b.cell? p = a.cell? p :=
  by
  obtain ⟨_, _, _, _, h5⟩ := h
  exact World.cell?_of_block (w := a) (h5 p.block h1 (by simpa using fun e => h2 e))
def St (w0 : World) (B g k cap : Nat) (l : List UInt8) (N : Nat) (a b c : Value) (w : World) : Prop :=
  Out w B g k cap l ∧ w0.grownBy w (some g) ∧ (N ≠ g ∧ N < w.heap.size) ∧ w.cell? ⟨N, 0, none⟩ = some a ∧ w.cell? ⟨N, 1, none⟩ = some b ∧ w.cell? ⟨N, 2, none⟩ = some c
section
variable {w0 w w' : World} {B g k k' cap N : Nat} {l l' : List UInt8} {a b c : Value}
theorem St.new (ho : Out w B g k cap l) (hg : w0.grownBy w (some g)) (t : TypeId) : St w0 B g k cap l w.heap.size a b c (w.alloc (.cells #[a, b, c] t)) := by
  have hn := World.news_of_block (w := w.alloc (.cells #[a, b, c] t)) (heap_alloc_new w (.cells #[a, b, c] t))
  have := ho.ge
  refine ⟨ho.alloc _, grown_trans hg (grown_alloc w _ (some g)), ⟨by omega, by simp⟩, ?_, ?_, ?_⟩
  · exact hn 0 a (by simp)
  · exact hn 1 b (by simp)
  · exact hn 2 c (by simp)
theorem St.puts (h : St w0 B g k cap l N a b c w) (ho : Out w' B g k' cap l') (hg : w.grownBy w' (some g)) : St w0 B g k' cap l' N a b c w' := by
  obtain ⟨h1, h2, h3, h4, h5, h6⟩ := h
  exact ⟨ho, grown_trans h2 hg, ⟨h3.1, Nat.lt_of_lt_of_le h3.2 hg.size⟩, (grown_cell hg (p := ⟨N, 0, none⟩) h3.2 h3.1).trans h4, (grown_cell hg (p := ⟨N, 1, none⟩) h3.2 h3.1).trans h5, (grown_cell hg (p := ⟨N, 2, none⟩) h3.2 h3.1).trans h6⟩
theorem St.below (h : St w0 B g k cap l N a b c w) (hb : Below w.heap.size w w') : St w0 B g k cap l N a b c w' :=
  h.puts (own_new h.1 (grown_below hb)) (grown_below hb)
theorem grown_sees {A : Option Addr} {f : F} (hg : w0.grownBy w (some g)) (hs : SeesF w0 (· < B) A f) (hB : B ≤ w0.heap.size) (hBg : B ≤ g) : SeesF w (· < B) A f :=
  hs.keep fun _ hq => grown_cell hg (Nat.lt_of_lt_of_le hq hB) (Nat.ne_of_lt (Nat.lt_of_lt_of_le hq hBg))
theorem grown_seesP {A : Option Addr} {cs : List Value} (hg : w0.grownBy w (some g)) (hs : SeesP w0 (· < B) A cs) (hB : B ≤ w0.heap.size) (hBg : B ≤ g) : SeesP w (· < B) A cs :=
  hs.keep fun _ hq => grown_cell hg (Nat.lt_of_lt_of_le hq hB) (Nat.ne_of_lt (Nat.lt_of_lt_of_le hq hBg))
end
theorem apl_none {w : World} {p : Nat → Prop} {Av : Option Addr} {cv : Nat} {v : List UInt8} (h : Av = none → cv = 0) (hs : SeesP w p Av (Us v)) : Av = none → v.length = 0 ∧ cv = 0 := by
  intro e
  subst e
  have := hs.none_nil
  exact ⟨by simpa [Us] using this, h rfl⟩
def AplAll (n : Nat) : Prop := ∀ (f : F) (A : Option Addr) (c B g k cap : Nat) (l : List UInt8) (w : World), f.size < n → f.ok → f.tags → encN f ≤ 4096 → SeesF w (· < B) A f → B ≤ w.heap.size → Out w B g k cap l → k + encN f ≤ cap →
    Calls Tryd.prog 43 #[.slice (some ⟨g, 0, none⟩) k cap, .slice A f.len c] w (Puts w B g (k + encN f) cap (l ++ enc f))
set_option maxHeartbeats 1000000 in
theorem app_list (n : Nat) (hb : n ≤ 1125899906842624) : AplAll n := by
  induction n with
  | zero => intro f A c B g k cap l w hn; omega
  | succ n ih =>
    intro f A c B g k cap l w hn hok htg hbd hs hB hown hcap
    obtain ⟨i0, hi, hz0, hz1, hz2⟩ := info_parts info_u8b
    obtain ⟨cs, s1, s2⟩ := hs
    have IH := Lib.hid (ih (by omega))
    have hSZ := tlv_size n (by omega)
    have HSZ := Lib.hid hSZ
    have hlen := f.len_le_size
    have hBg := hown.ge.1
    have HOK := Lib.hid (show f.ok ∧ f.tags from ⟨hok, htg⟩)
    have S2 := Lib.hid s2
    have HO := Lib.hid hown
    clear hok htg s2 ih hSZ hown
    go_enter Tryd.func43, Tryd.ntmps43
    go_wp2_with fail
    go_loopw [0, 9] (fun q i wr => ∃ (j m : Nat) (rest : F) (d : List UInt8), j + rest.len = f.len ∧ i = .int .i64 j ∧ q = .slice (some ⟨g, 0, none⟩) (k + m) cap ∧ m + encN rest = encN f ∧
      Hid (rest.ok ∧ rest.tags ∧ rest.size ≤ f.size ∧ HoldsP w (· < B) rest (cs.drop (3 * j)) ∧ d ++ enc rest = l ++ enc f ∧ Out wr B g (k + m) cap d ∧ w.grownBy wr (some g))) (fun _ i _ => f.len - (intOf i).toNat)
    case atStart => exact ⟨0, 0, f, l, by omega, rfl, rfl, by omega, Lib.hid ⟨HOK.out.1, HOK.out.2, Nat.le_refl _, S2.out, rfl, HO.out, World.grownBy.refl _ _⟩⟩
    case round =>
      clear S2 HOK HO
      obtain ⟨j, m, rest, d, hj, rfl, rfl, hm, HG⟩ := hrel
      cases rest with
      | nil =>
        have hm2 : m = encN f := hm
        have hk2 : j = f.len := hj
        have hp : Puts w B g (k + m) cap (l ++ enc f) (.returned (.slice (some ⟨g, 0, none⟩) (k + m) cap)) wr := by
          obtain ⟨_, _, _, _, e, ho, hg⟩ := HG.out
          have e2 : d = l ++ enc f := by simpa [enc] using e
          rw [e2] at ho
          exact ⟨rfl, ho, hg⟩
        have HP := Lib.hid hp
        clear hj hm HG s1 hp
        subst hm2
        go_wp2_with fail
        go_ret
        exact HP.out
      | cons t v kk r =>
        obtain ⟨⟨⟨lo, hi2⟩, hvl, hko, hro⟩, ⟨⟨t0, t1⟩, htk, htr⟩, hgs, hh, hd, ho, hg⟩ := HG.out
        obtain ⟨T, rfl⟩ := Int.eq_ofNat_of_zero_le (show 0 ≤ t by omega)
        have hj1 : j + r.len + 1 = f.len := hj
        have hgs : kk.size + r.size + 1 ≤ f.size := hgs
        obtain ⟨a, ha⟩ : ∃ a, a = tagN T := ⟨_, rfl⟩
        obtain ⟨x, hx⟩ : ∃ x, x = v.length + encN kk := ⟨_, rfl⟩
        have hm1 : m + ((a + 1 + lb x + x) + encN r) = encN f := by rw [ha, hx]; exact hm
        have hd1 : d ++ (tagL T ++ lenL x ++ v ++ enc kk ++ enc r) = l ++ enc f := by rw [← hd, hx]; simp only [enc, Int.toNat_natCast]
        have ha2 : a ≤ 2 := by rw [ha]; exact tagN_le T
        obtain ⟨b, off, Av, cv, Ak, ck, rfl, hp, g0, g1, g2, sv, sk, hr, hnv⟩ := node_at s1 hh
        have hp' : b < w.heap.size := Nat.lt_of_lt_of_le hp hB
        have hpg : b ≠ g := Nat.ne_of_lt (Nat.lt_of_lt_of_le hp hBg)
        have g0 := (grown_cell hg (p := ⟨b, off + j * 3, none⟩) hp' hpg).trans g0
        have g1 := (grown_cell hg (p := ⟨b, off + j * 3 + 1, none⟩) hp' hpg).trans g1
        have g2 := (grown_cell hg (p := ⟨b, off + j * 3 + 2, none⟩) hp' hpg).trans g2
        have st := St.new (a := .int .i64 (T : Int)) (b := .slice Av v.length cv) (c := .slice Ak kk.len ck) ho hg 50
        obtain ⟨N, hN⟩ : ∃ N, N = wr.heap.size := ⟨_, rfl⟩
        have ST := Lib.hid st
        have HR := Lib.hid (show r.ok ∧ r.tags ∧ HoldsP w (· < B) r (cs.drop (3 * (j + 1))) ∧ kk.ok ∧ kk.tags ∧ SeesP w (· < B) Av (Us v) ∧ SeesF w (· < B) Ak kk ∧ d ++ (tagL T ++ lenL x ++ v ++ enc kk ++ enc r) = l ++ enc f ∧ (Av = none → cv = 0) from ⟨hro, htr, hr, hko, htk, sv, sk, hd1, hnv⟩)
        have HX := Lib.hid hx
        have HA := Lib.hid ha
        clear ha hx
        clear hj hm HG s1 hro htr hr hko htk sv sk hd hd1 st ho hg hh hnv hp hp' hpg
        go_wp2_with fail
        rw [← hN] at ST ⊢
        clear hN g0 g1 g2
        refine (app_tag T B g (k + m) cap d (by omega) (by have := HA.out; omega) _ ST.out.1).mono ?_
        rintro e w1 ⟨rfl, ho, hg⟩
        have ST := Lib.hid (ST.out.puts ho hg)
        obtain ⟨_, _, _, c0, c1, c2⟩ := ST.out
        rw [← HA.out] at ST ⊢
        clear ho hg
        go_wp2_with fail
        refine (content_nat T v.length cv kk.len ck (encN kk) x Av Ak HX.out (by have := HX.out; omega) _ (Lib.hid (HSZ.out.c (by omega) HR.out.2.2.2.1 (by have := HX.out; omega) ((grown_sees ST.out.2.1 HR.out.2.2.2.2.2.2.1 hB hBg).imp fun _ h => Nat.lt_of_lt_of_le h (Nat.le_trans hB ST.out.2.1.size)) (Below.refl _ _)))).mono ?_
        rintro e w2 ⟨rfl, hb2⟩
        have ST := Lib.hid (ST.out.below hb2)
        clear c0 c1 c2 hb2
        obtain ⟨_, _, _, c0, c1, c2⟩ := ST.out
        go_wp2_with fail
        refine (app_length x B g (k + m + a) cap _ (by omega) (by omega) _ ST.out.1).mono ?_
        rintro e w3 ⟨rfl, ho, hg⟩
        have ST := Lib.hid (ST.out.puts ho hg)
        clear c0 c1 c2 ho hg
        obtain ⟨_, _, _, c0, c1, c2⟩ := ST.out
        have HS := Lib.hid (grown_seesP ST.out.2.1 HR.out.2.2.2.2.2.1 hB hBg)
        go_wp2_with (at_builtin; refine wpList_append_fits_any _ rfl (.tmp 21) (.tmp 23) 35 rfl B 5 i0 1 Tryd.underlying35 hi hz1 g (k + m + a + (1 + lb x)) cap _ rfl ST.out.1 Av v.length cv (Us v) rfl (by simp [Us]) (apl_none HR.out.2.2.2.2.2.2.2.2 HS.out) HS.out.src (Us_one _) (by have := HX.out; omega) ?_; intro w4 ho hg; rw [← Us_append] at ho; have ST := Lib.hid (ST.out.puts ho hg); clear c0 c1 c2 ho hg; obtain ⟨_, _, _, c0, c1, c2⟩ := ST.out)
        have hi3 := IH.out kk Ak ck B g (k + m + a + (1 + lb x) + v.length) cap _ w4 (by omega) HR.out.2.2.2.1 HR.out.2.2.2.2.1 (by have := HX.out; omega) (grown_sees ST.out.2.1 HR.out.2.2.2.2.2.2.1 hB hBg) (Nat.le_trans hB ST.out.2.1.size) ST.out.1 (by have := HX.out; omega)
        obtain ⟨M, hM⟩ : ∃ M, M = m + (a + 1 + lb x + x) := ⟨_, rfl⟩
        rw [show k + m + a + (1 + lb x) + v.length + encN kk = k + M by have := HX.out; omega] at hi3
        refine hi3.mono ?_
        rintro e w5 ⟨rfl, ho, hg⟩
        have HF := Lib.hid (show _ ∧ _ from ⟨ho, grown_trans ST.out.2.1 hg⟩)
        clear c0 c1 c2 ho hg hi3 ST HS
        go_wp2_with fail
        go_roundw
        case rel => exact ⟨j + 1, M, r, _, by omega, by go_num, (by rw [hM]), by omega, Lib.hid ⟨HR.out.1, HR.out.2.1, by omega, HR.out.2.2.1, (by rw [← HR.out.2.2.2.2.2.2.2.1]; simp only [List.append_assoc]), HF.out.1, HF.out.2⟩⟩
        case measure => simp [intOf]; omega
end Go.Proofs.YtkgfdbbdmchmeaaDoor
namespace Go.Proofs.YtkgfdbbdmchmeaaDoor
open Go.RowKit
theorem block_set {w : World} {b i : Nat} {cs : Array Value} {t : TypeId} (h : w.heap[b]? = some (.cells cs t (0, 0))) (u : Value) : (w.setCell ⟨b, i, none⟩ u).heap[b]? = some (.cells (cs.setIfInBounds i u) t (0, 0)) := by
  have hlt := lt_of_block h
  have h' : w.heap[b] = .cells cs t (0, 0) := by simpa [Array.getElem?_eq_getElem hlt] using h
  show (w.heap.modify b _)[b]? = _
  rw [Array.getElem?_eq_getElem (by simpa using hlt), Array.getElem_modify_self, h']
  rfl
theorem block_far {w : World} {b : Nat} {a : Addr} {o : Obj} (h : w.heap[b]? = some o) (hb : b ≠ a.block) (u : Value) : (w.setCell a u).heap[b]? = some o := by
  rw [Below.heap_setCell w a u b hb]; exact h
theorem block_alloc {w : World} {b : Nat} {o : Obj} (h : w.heap[b]? = some o) (o2 : Obj) : (w.alloc o2).heap[b]? = some o := by
  rw [Below.heap_alloc w o2 b (lt_of_block h)]; exact h
theorem block_next (w : World) (o o2 : Obj) : ((w.alloc o).alloc o2).heap[w.heap.size + 1]? = some o2 := by
  have := heap_alloc_new (w.alloc o) o2
  simpa using this
theorem ret_cell_tmp {P : Program} {fn : Func} {p u : Tmp} {ty : TypeId} (h : fn.results = #[.cell p ty, .tmp u]) (tmps : Array Value) (w : World) (g : Nat) (t : TypeId) (cs : Array Value) (fr : Nat × Nat) (d : TypeDesc)
    (hp : tmps.getD p undef = .pointer (some ⟨g, 0, none⟩)) (hg : w.heap[g]? = some (.cells cs t fr))
    (hu : P.underlying ty = some d) (hd : (match d with | .struct _ | .array _ _ => true | _ => false) = true) (hi : (P.info? ty).map (·.size) = some cs.size) :
    (results fn tmps).run P w = .ok (.tuple #[.agg cs, tmps.getD u undef]) w := by
  have hp' : tmps[p]?.getD undef = .pointer (some ⟨g, 0, none⟩) := by simpa using hp
  rw [results_cell_tmp h]
  simp [hp', asAddr, run_loadVar_row w g t ty cs fr d hg hu hd hi, Result.andThen]
end Go.Proofs.YtkgfdbbdmchmeaaDoor
namespace Go.Proofs.YtkgfdbbdmchmeaaDoor
open Go.RowKit
set_option maxRecDepth 8000
def tagE : List UInt8 → Int
  | [] => 6
  | [a] => if a.toNat % 32 = 31 then 6 else if validB a.toNat then 0 else 4
  | a :: b :: _ => if a.toNat % 32 = 31 then (if validB ((a.toNat * 256 + b.toNat : Nat) : Int) then 0 else 4) else if validB a.toNat then 0 else 4
def tagV : List UInt8 → Nat
  | [] => 0
  | [a] => a.toNat
  | a :: b :: _ => if a.toNat % 32 = 31 then a.toNat * 256 + b.toNat else a.toNat
def numL_Hdr (l : List UInt8) : Nat := l.foldl (fun n c => n * 256 + c.toNat) 0
theorem or_256 (a b : Nat) (ha : a < 4294967296) (hb : b < 256) : bits .or .i64 ((a : Int) * 256) (b : Int) = ((a * 256 + b : Nat) : Int) := by
  have h := i64_or_nat (a * 256) b (by omega) (by omega)
  have e : a * 256 ||| b = a * 256 + b := by
    have := Nat.two_pow_add_eq_or_of_lt (i := 8) (b := b) hb a
    rw [Nat.mul_comm] at this
    exact this.symm
  rw [e] at h
  simpa using h
theorem sees_byte {w : World} {p : Nat → Prop} {A : Option Addr} {x : List UInt8} {k : Nat} (h : SeesP w p A (Us x)) (hk : k < x.length) :
    ∃ b off, A = some ⟨b, off, none⟩ ∧ p b ∧ w.cell? ⟨b, off + k, none⟩ = some (.int .u8 (x[k].toNat : Int)) := by
  rcases h with h | ⟨b, off, e, hp, hc⟩
  · have : x = [] := by simpa [Us] using h
    subst this; simp at hk
  · exact ⟨b, off, e, hp, (hc k (by rw [Us_length]; exact hk)).trans (Us_get hk)⟩
def TagIs (l : List UInt8) (w : World) (e : Ending) (w' : World) : Prop := e = .returned (.tuple #[.int .i64 (if tagE l = 0 then (tagV l : Int) else 0), .int .i64 (tagE l)]) ∧ w' = w
theorem tag_bad {l : List UInt8} {x : Int} {w : World} (h : tagE l = x) (hx : x ≠ 0) : TagIs l w (.returned (.tuple #[.int .i64 0, .int .i64 x])) w := by
  unfold TagIs; rw [h, if_neg hx]; exact ⟨rfl, rfl⟩
theorem tag_good {l : List UInt8} {t : Nat} {w : World} (h : tagE l = 0) (ht : tagV l = t) : TagIs l w (.returned (.tuple #[.int .i64 (t : Int), .int .i64 0])) w := by
  unfold TagIs; rw [h, if_pos rfl, ht]; exact ⟨rfl, rfl⟩
set_option maxHeartbeats 400000 in
theorem read_tag (A : Option Addr) (c : Nat) (l : List UInt8) (w : World) (p : Nat → Prop) (hs : SeesP w p A (Us l)) (hl : l.length ≤ 140737488351232) :
    Calls Tryd.prog 82 #[.slice A l.length c] w (TagIs l w) := by
  cases l with
  | nil =>
    have hb := tag_bad (w := w) (show tagE [] = 6 from rfl) (by decide)
    have HB := Lib.hid hb
    clear hb hs
    go_enter Tryd.func82, Tryd.ntmps82
    go_wp2_with fail
    go_ret2
    exact HB.out
  | cons a r =>
    obtain ⟨b, off, rfl, hp, g0⟩ := sees_byte hs (k := 0) (by simp)
    simp only [List.getElem_cons_zero, Nat.add_zero] at g0
    have ha := UInt8.toNat_lt a
    obtain ⟨n, hn⟩ : ∃ n, n = a.toNat := ⟨_, rfl⟩
    rw [← hn] at g0 ha
    have e31 := and_31 (t := (n : Int)) (by omega) (by omega)
    have d0 : (((a :: r).length : Int) == 0) = false := by simp; omega
    have hv : ∀ (t : Nat) (q : Bool), t ≤ 65535 → validB t = q → ∀ u, Calls Tryd.prog 68 #[.int .i64 (t : Int)] u fun e w' => e = .returned (.bool q) ∧ w' = u := fun t q ht hq u => by
      have := tlv_valid t (by omega) (by omega) u
      rwa [hq] at this
    by_cases h31 : n % 32 = 31
    · have d31 : ((n : Int) % 32 == 31) = true := by simp; omega
      cases r with
      | nil =>
        have hb := tag_bad (w := w) (show tagE [a] = 6 by simp only [tagE]; rw [← hn, if_pos h31]) (by decide)
        have HB := Lib.hid hb
        clear hb hs hn hv h31
        go_enter Tryd.func82, Tryd.ntmps82
        go_wp2_with fail
        go_ret2
        exact HB.out
      | cons a2 r =>
        obtain ⟨b2, off2, e2, _, g1⟩ := sees_byte hs (k := 1) (by simp)
        injection e2 with e2
        injection e2 with e3 e4
        subst e3 e4
        simp only [List.getElem_cons_succ, List.getElem_cons_zero] at g1
        have ha2 := UInt8.toNat_lt a2
        obtain ⟨n2, hn2⟩ : ∃ n, n = a2.toNat := ⟨_, rfl⟩
        rw [← hn2] at g1 ha2
        have eor := or_256 n n2 (by omega) ha2
        obtain ⟨t, ht⟩ : ∃ t, t = n * 256 + n2 := ⟨_, rfl⟩
        rw [← ht] at eor
        have hx : tagE (a :: a2 :: r) = if validB t then 0 else 4 := by simp only [tagE]; rw [← hn, ← hn2, if_pos h31, ← ht]
        have htv : tagV (a :: a2 :: r) = t := by simp only [tagV]; rw [← hn, ← hn2, if_pos h31, ← ht]
        have d1 : (((a :: a2 :: r).length : Int) == 1) = false := by simp; omega
        cases hq : validB t
        · have hb := tag_bad (w := w) (show tagE (a :: a2 :: r) = 4 by rw [hx, hq]; rfl) (by decide)
          have HB := Lib.hid hb
          have HV := Lib.hid (hv t _ (by omega) hq)
          clear hb hs hn hn2 hv h31 hx htv ht hq
          go_enter Tryd.func82, Tryd.ntmps82
          go_wp2_with (go_at_call 68; refine (HV.out _).mono ?_; rintro e w' ⟨rfl, rfl⟩)
          go_ret2
          exact HB.out
        · have hb := tag_good (w := w) (show tagE (a :: a2 :: r) = 0 by rw [hx, hq]; rfl) htv
          have HB := Lib.hid hb
          have HV := Lib.hid (hv t _ (by omega) hq)
          clear hb hs hn hn2 hv h31 hx htv ht hq
          go_enter Tryd.func82, Tryd.ntmps82
          go_wp2_with (go_at_call 68; refine (HV.out _).mono ?_; rintro e w' ⟨rfl, rfl⟩)
          go_ret2
          exact HB.out
    · have d31 : ((n : Int) % 32 == 31) = false := by simp; omega
      have hx : tagE (a :: r) = if validB n then 0 else 4 := by cases r <;> (simp only [tagE]; rw [← hn, if_neg h31])
      have htv : tagV (a :: r) = n := by cases r <;> simp only [tagV, ← hn, if_neg h31]
      cases hq : validB n
      · have hb := tag_bad (w := w) (show tagE (a :: r) = 4 by rw [hx, hq]; rfl) (by decide)
        have HB := Lib.hid hb
        have HV := Lib.hid (hv n _ (by omega) hq)
        clear hb hs hn hv h31 hx htv hq
        go_enter Tryd.func82, Tryd.ntmps82
        go_wp2_with (go_at_call 68; refine (HV.out _).mono ?_; rintro e w' ⟨rfl, rfl⟩)
        go_ret2
        exact HB.out
      · have hb := tag_good (w := w) (show tagE (a :: r) = 0 by rw [hx, hq]; rfl) htv
        have HB := Lib.hid hb
        have HV := Lib.hid (hv n _ (by omega) hq)
        clear hb hs hn hv h31 hx htv hq
        go_enter Tryd.func82, Tryd.ntmps82
        go_wp2_with (go_at_call 68; refine (HV.out _).mono ?_; rintro e w' ⟨rfl, rfl⟩)
        go_ret2
        exact HB.out
end Go.Proofs.YtkgfdbbdmchmeaaDoor
