/-
  What is proved here: what the program's listSize and contentSize return: the number of bytes of the encodings; for objects that lie in memory.
-/
import Derived.Test.YtipmmclahngabaaRows
import Derived.Test.YtipmmclahngabaaKit
import Derived.Test.YtipmmclahngabaaTag
import Derived.Test.YtipmmclahngabaaLen
import Derived.Test.YtipmmclahngabaaChk
import Derived.Deep.RegionWith
namespace Go.Proofs.Ytipmmclahngabaa
open Go.RowKit

def tagN (t : Int) : Nat := if 255 < t then 2 else 1
/-- how many bytes the encodings of objects have -/
def encN : F → Nat
  | .nil => 0
  | .cons t v k r => (tagN t + 1 + lb (v.length + encN k) + (v.length + encN k)) + encN r

/-- listSize's answer for these objects, in every world that holds what w holds -/
def SizeC (w : World) (Ak : Option Addr) (lk ck m : Nat) : Prop := ∀ u, Below w.heap.size w u →
  Calls Try.prog 40 #[.slice Ak lk ck] u fun e w' => e = .returned (.int .i64 (m : Int)) ∧ Below u.heap.size u w'

theorem content_size (t : Int) (lv cv lk ck m : Nat) (Av Ak : Option Addr) (hm : (lv : Int) + m ≤ 9223372036854775807) (w : World) (HC : Hid (SizeC w Ak lk ck m)) :
    Calls Try.prog 57 #[.agg #[.int .i64 t, .slice Av lv cv, .slice Ak lk ck]] w fun e w' => e = .returned (.int .i64 ((lv : Int) + m)) ∧ Below w.heap.size w w' := by
  go_enter Try.func57, Try.ntmps57
  go_wp2_with fail
  go_region_with (go_at_call 40; refine (HC.out _ ?_).mono ?_; (repeat' (first | exact Below.refl _ _ | refine Below.drew ?_ | refine Below.alloc ?_ (Nat.le_refl _) _)); rintro e w' ⟨rfl, hb⟩; have gx := hb.cell (p := ⟨w.heap.size, 1, none⟩) (by simp); have hb2 : Below w.heap.size w w' := (((Below.refl _ _).alloc (Nat.le_refl _) _).drew).trans (hb.mono (by simp)); clear hb)
  all_goals
    clear gx
    go_wp2_with fail
    go_ret
    exact ⟨congrArg (fun z => Ending.returned (Value.int .i64 z)) (IntWalk.i64_in ((lv : Int) + m) ⟨by omega, hm⟩), hb2⟩

/-- what listSize answers, for every list of fewer than n objects in whatever world -/
def SizeAll (n : Nat) : Prop := ∀ (f : F) (A : Option Addr) (c : Nat) (w : World), f.size < n → f.ok → encN f ≤ 4611686018427387903 → SeesF w (· < w.heap.size) A f →
    Calls Try.prog 40 #[.slice A f.len c] w fun e w' => e = .returned (.int .i64 (encN f : Int)) ∧ Below w.heap.size w w'
theorem SizeAll.c {n : Nat} (h : SizeAll n) {f : F} {A : Option Addr} {c : Nat} {w wr : World} (hn : f.size < n) (ho : f.ok) (hb : encN f ≤ 4611686018427387903) (hs : SeesF w (· < w.heap.size) A f) (hw : Below w.heap.size w wr) : SizeC wr A f.len c (encN f) := by
  intro u hu
  exact h f A c u hn ho hb (hs.on (below_on hw hu))
theorem content_nat (t : Int) (lv cv lk ck m c : Nat) (Av Ak : Option Addr) (hc : c = lv + m) (hm : c ≤ 9223372036854775807) (w : World) (HC : Hid (SizeC w Ak lk ck m)) :
    Calls Try.prog 57 #[.agg #[.int .i64 t, .slice Av lv cv, .slice Ak lk ck]] w fun e w' => e = .returned (.int .i64 (c : Int)) ∧ Below w.heap.size w w' := by
  have h := content_size t lv cv lk ck m Av Ak (by omega) w HC
  have e : (c : Int) = (lv : Int) + m := by omega
  rw [e]
  exact h
theorem tag_sizeN (t : Int) (a : Nat) (ha : a = tagN t) (u : World) : Calls Try.prog 38 #[.int .i64 t] u fun e w' => e = .returned (.int .i64 (a : Int)) ∧ w' = u := by
  have h := tag_size t u
  have e : (a : Int) = if 255 < t then 2 else 1 := by rw [ha]; unfold tagN; split <;> rfl
  rw [e]
  exact h
theorem tagN_le (t : Int) : tagN t ≤ 2 := by unfold tagN; split <;> omega

set_option maxHeartbeats 1000000 in
theorem tlv_size (n : Nat) (hb : n ≤ 1125899906842624) : SizeAll n := by
  induction n with
  | zero => intro f A c w hn; omega
  | succ n ih =>
    intro f A c w hn hok hbd hs
    obtain ⟨cs, s1, s2⟩ := hs
    have IH := Lib.hid (ih (by omega))
    have hlen := f.len_le_size
    have HOK := Lib.hid hok
    have S2 := Lib.hid s2
    clear hok s2 ih
    go_enter Try.func40, Try.ntmps40
    go_wp2_with fail
    go_loopw [3, 9] (fun q i wr => ∃ (k m : Nat) (g : F), k + g.len = f.len ∧ i = .int .i64 k ∧ q = .int .i64 m ∧ m + encN g = encN f ∧ Hid (g.ok ∧ g.size ≤ f.size ∧ HoldsP w (· < w.heap.size) g (cs.drop (3 * k))) ∧ Below w.heap.size w wr) (fun _ i _ => f.len - (intOf i).toNat)
    case atStart => exact ⟨0, 0, f, by omega, rfl, rfl, by omega, Lib.hid ⟨HOK.out, Nat.le_refl _, S2.out⟩, Below.refl _ _⟩
    case round =>
      clear S2 HOK
      obtain ⟨k, m, g, hk, rfl, rfl, hm, HG, hbw⟩ := hrel
      cases g with
      | nil =>
        have hm2 : m = encN f := hm
        have hk2 : k = f.len := hk
        clear hk hm HG s1
        subst hm2
        go_wp2_with fail
        go_ret
        exact ⟨rfl, hbw⟩
      | cons t v kk r =>
        have hk1 : k + r.len + 1 = f.len := hk
        have hgs : kk.size + r.size + 1 ≤ f.size := HG.out.2.1
        obtain ⟨lo, hi⟩ := HG.out.1.1
        obtain ⟨a, ha⟩ : ∃ a, a = tagN t := ⟨_, rfl⟩
        obtain ⟨x, hx⟩ : ∃ x, x = v.length + encN kk := ⟨_, rfl⟩
        obtain ⟨y, hy⟩ : ∃ y, y = lb x := ⟨_, rfl⟩
        have hm1 : m + ((a + 1 + y + x) + encN r) = encN f := by rw [ha, hy, hx]; exact hm
        have hx2 : x ≤ 4611686018427387903 := by omega
        have hy2 : y ≤ 8 := by rw [hy]; exact lb_le (by omega)
        have ha2 : a ≤ 2 := by rw [ha]; exact tagN_le t
        obtain ⟨b, off, Av, cv, Ak, ck, rfl, hp, g0, g1, g2, sv, sk, hr, hnv⟩ := node_at s1 HG.out.2.2
        have HR := Lib.hid hr
        have g0 := (hbw.cell (p := ⟨b, off + k * 3, none⟩) hp).trans g0
        have g1 := (hbw.cell (p := ⟨b, off + k * 3 + 1, none⟩) hp).trans g1
        have g2 := (hbw.cell (p := ⟨b, off + k * 3 + 2, none⟩) hp).trans g2
        have HOK := Lib.hid HG.out.1.2.2.2
        have hT : ∀ u, Calls Try.prog 38 #[.int .i64 t] u fun e w' => e = .returned (.int .i64 (a : Int)) ∧ w' = u := fun u => tag_sizeN t a ha u
        have HT := Lib.hid hT
        have hL : ∀ u, Calls Try.prog 58 #[.int .i64 (x : Int)] u fun e w' => e = .returned (.int .i64 (y : Int)) ∧ w' = u := fun u => by rw [hy]; exact length_bytes x (by omega) u
        have HL := Lib.hid hL
        have hC : ∀ u, Below w.heap.size w u → Calls Try.prog 57 #[.agg #[.int .i64 t, .slice Av v.length cv, .slice Ak kk.len ck]] u fun e w' => e = .returned (.int .i64 (x : Int)) ∧ Below u.heap.size u w' :=
          fun u hu => content_nat t v.length cv kk.len ck (encN kk) x Av Ak hx (by omega) u (Lib.hid (IH.out.c (by omega) HG.out.1.2.2.1 (by omega) sk hu))
        have HC := Lib.hid hC
        clear hk hm hT hL hC hr sk sv hp hnv HG s1 ha hx hy IH
        have hbw2 := hbw.alloc hbw.size (Obj.cells #[.int .i64 t, .slice Av v.length cv, .slice Ak kk.len ck] 32)
        go_wp2_with fail
        refine (HC.out _ hbw2).mono ?_
        rintro e w2 ⟨rfl, hb3⟩
        have gx := hb3.cell (p := ⟨wr.heap.size, 0, none⟩) (by simp)
        have hbw := hbw2.trans (hb3.mono hbw2.size)
        clear HC hb3 hbw2 g0 g1 g2
        go_wp2_with (first | (go_at_call 38; refine (HT.out _).mono ?_; rintro e w' ⟨rfl, rfl⟩) | (go_at_call 58; refine (HL.out _).mono ?_; rintro e w' ⟨rfl, rfl⟩))
        go_roundw
        case rel => exact ⟨k + 1, m + (a + 1 + y + x), r, by omega, by go_num, by go_num, by omega, Lib.hid ⟨HOK.out, by omega, HR.out⟩, hbw⟩
        case measure => simp [intOf]; omega

end Go.Proofs.Ytipmmclahngabaa
