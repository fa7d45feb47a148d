/-
  What is proved here: what the library's bytes.Join answers for parts that lie in memory, no byte between them, where all together are fewer than 2 ^ 47 - 3800 bytes (the shelf's contract, laid at this program's numbers); no other condition.
-/
import Derived.Test.YtdjmehinifnbhaaDoorRows
import Derived.Test.YtdjmehinifnbhaaDoorKit
import Derived.Test.YtdjmehinifnbhaaDoorAp
import Derived.Shelf.Bytes.SlJoin
namespace Go.Proofs.YtdjmehinifnbhaaDoor
open Go.Shelf
def joinRen : Go.Shelf.Ren := ⟨fun | 14 => 24 | 15 => 33 | n => n, fun | 26 => 43 | 22 => 22 | 3 => 3 | 4 => 4 | 0 => 0 | 9 => 9 | 20 => 20 | 5 => 5 | n => n, fun | n => n⟩
theorem joinLays : Go.Proofs.SlLaysJ.n14 Tryd.prog joinRen := {
  mixed := by kernel_rfl
  f14 := Tryd.func24.trans (congrArg some (by kernel_rfl))
  f15 := Tryd.func33.trans (congrArg some (by kernel_rfl))
  t0 := Tryd.underlying0
  a0 := Tryd.isAgg0
  z0 := Tryd.sizeOf0
  v0 := Tryd.zeroValue0
  t3 := Tryd.underlying3
  a3 := Tryd.isAgg3
  z3 := Tryd.sizeOf3
  v3 := Tryd.zeroValue3
  t4 := Tryd.underlying4
  a4 := Tryd.isAgg4
  z4 := Tryd.sizeOf4
  v4 := Tryd.zeroValue4
  t9 := Tryd.underlying9
  a9 := Tryd.isAgg9
  z9 := Tryd.sizeOf9
  v9 := Tryd.zeroValue9
  t20 := Tryd.underlying20
  a20 := Tryd.isAgg20
  z20 := Tryd.sizeOf20
  v20 := Tryd.zeroValue20
  t22 := Tryd.underlying22
  a22 := Tryd.isAgg22
  z22 := Tryd.sizeOf22
  v22 := Tryd.zeroValue22
  t26 := Tryd.underlying43
  a26 := Tryd.isAgg43
  z26 := Tryd.sizeOf43
  v26 := Tryd.zeroValue43
  t5 := Tryd.underlying5
  z5 := Tryd.sizeOf5
  i5 := by kernel_rfl }
open Go.RowKit

theorem add_plain (b o i : Nat) : (⟨b, o, none⟩ : Addr).add i = ⟨b, o + i, none⟩ := by unfold Addr.add; split <;> simp_all
/-- bytes that a slice reads as, in the shelf's words -/
theorem holds_of {w : World} {p : Nat → Prop} {A : Option Addr} {l : List UInt8} {n c : Nat} (hl : l.length = n) (h : SeesP w p A (Us l)) : Lib.HoldsBytes w (.slice A n c) l := by
  subst hl
  refine ⟨A, c, rfl, ?_, ?_⟩
  · intro hA
    rcases h with h | ⟨b, off, e, _⟩
    · exact List.eq_nil_of_length_eq_zero (by have := congrArg List.length h; rwa [Us_length] at this)
    · rw [hA] at e; cases e
  · intro a ha i x hx
    have hi : i < l.length := (List.getElem?_eq_some_iff.1 hx).1
    rcases h with h | ⟨b, off, e, _, hc⟩
    · have := congrArg List.length h; rw [Us_length] at this; simp at this; subst this; simp at hi
    · rw [e] at ha
      cases ha
      rw [add_plain, hc i (by rw [Us_length]; exact hi), Us_get hi]
      rw [(List.getElem?_eq_some_iff.1 hx).2]
theorem mk_of_fresh {w w' : World} {v : Value} {l : List UInt8} (h : Lib.FreshBytes w.heap.size w' v l) (hb : Below w.heap.size w w') : Mk w l (.returned v) w' := by
  obtain ⟨g, cap, zs, rfl, hg, hl, _, hz, hr, hbs, hc, _⟩ := h
  refine ⟨some ⟨g, 0, none⟩, cap, rfl, hl, (fun e => by cases e), ?_, hb⟩
  rcases Nat.eq_zero_or_pos l.length with h0 | h0
  · exact .inl (by rw [List.eq_nil_of_length_eq_zero h0]; rfl)
  · have hlt : g < w'.heap.size := by
      rcases Nat.lt_or_ge g w'.heap.size with h1 | h1
      · exact h1
      · have := hc 0 (by omega)
        unfold World.cell? at this
        rw [Array.getElem?_eq_none h1] at this
        cases this
    refine .inr ⟨g, 0, rfl, ⟨hg, hlt⟩, fun j hj => ?_⟩
    rw [Us_length] at hj
    rw [Nat.zero_add, hc j (by omega), Us_get hj]
    have hjz : j < zs.length := by omega
    have e1 : l[j] = UInt8.ofNat (zs[j]).toNat := by
      have : (Lib.bytesOf (zs.take l.length))[j]? = some l[j] := by rw [hbs, List.getElem?_eq_getElem hj]
      simp [Lib.bytesOf, hj, hjz] at this
      exact this.symm
    have h2 := hr zs[j] (List.getElem_mem hjz)
    have e2 : zs.getD j 0 = zs[j] := by simp [List.getD, hjz]
    rw [e1, e2, UInt8.toNat_ofNat']
    congr 2
    omega
theorem join_flat (ls : List (List UInt8)) : Lib.join ls [] = ls.flatten := by
  cases ls with
  | nil => rfl
  | cons l r => rw [Lib.join_cons]; simp [Lib.joinTail]
/-- Join of parts, nothing between them -/
theorem bytes_join {w : World} {b n c : Nat} {vs : List Value} {ls : List (List UInt8)} (hn : ls.length = n) (h2 : 2 ≤ n) (hP : Lib.PartsAt w ⟨b, 0, none⟩ vs ls) (hc : n ≤ c) (hn47 : n ≤ 1000) (hlen : Lib.lens ls ≤ 140737488351500) :
    Calls Tryd.prog 24 #[.slice (some ⟨b, 0, none⟩) n c, .slice none 0 0] w (Mk w ls.flatten) := by
  refine (Any.bytes_Join_many joinLays b 0 n c vs ls (.slice none 0 0) [] w hn h2 hP hc ⟨none, 0, rfl, fun _ => rfl, fun a h => by cases h⟩ (by omega) (by simp; omega)).mono ?_
  rintro e w' ⟨v, rfl, hf, hb⟩
  rw [join_flat] at hf
  exact mk_of_fresh hf hb

end Go.Proofs.YtdjmehinifnbhaaDoor
