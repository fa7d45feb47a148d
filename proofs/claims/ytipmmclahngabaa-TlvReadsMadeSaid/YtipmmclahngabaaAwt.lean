/-
  What is proved here: the statements' own check 'awake' (of the second layer) returns true in whatever world, and turns nothing that was there.
-/
import Derived.Test.YtipmmclahngabaaStr
import Derived.Test.YtipmmclahngabaaEnc
import Derived.Test.YtipmmclahngabaaPrs
namespace Go.Proofs.Ytipmmclahngabaa
open Go.RowKit

/-- the object 30 03 02 01 05 -/
def awF : F := .cons 48 [] (.cons 2 [5] .nil .nil) .nil
theorem aw_enc : encE awF = 0 ∧ encB awF = [48, 3, 2, 1, 5] := by
  constructor <;> rfl
theorem aw_parse : parse true [48, 3, 2, 1, 5] = .ok (awF, 2) := by rfl

theorem aw_len : awF.len = 1 ∧ awF.size = 2 := ⟨rfl, rfl⟩
theorem aw_ok : awF.ok := ⟨by decide, by decide, ⟨by decide, by decide, trivial, trivial⟩, trivial⟩

theorem aw_sees (w : World) (t1 t2 : TypeId) :
    SeesF (((w.alloc (.cells #[.int .u8 5] t1)).alloc (.cells #[.int .i64 2, .slice (some ⟨w.heap.size, 0, none⟩) 1 1, .slice none 0 0] t2)).alloc (.cells #[.int .i64 48, .slice none 0 0, .slice (some ⟨w.heap.size + 1, 0, none⟩) 1 1] t2))
      (· < w.heap.size + 3) (some ⟨w.heap.size + 2, 0, none⟩) awF := by
  have b1 : (((w.alloc (.cells #[.int .u8 5] t1)).alloc (.cells #[.int .i64 2, .slice (some ⟨w.heap.size, 0, none⟩) 1 1, .slice none 0 0] t2)).alloc (.cells #[.int .i64 48, .slice none 0 0, .slice (some ⟨w.heap.size + 1, 0, none⟩) 1 1] t2)).heap[w.heap.size]? = some (.cells #[.int .u8 5] t1 (0, 0)) :=
    block_alloc (block_alloc (heap_alloc_new w _) _) _
  have b2 : (((w.alloc (.cells #[.int .u8 5] t1)).alloc (.cells #[.int .i64 2, .slice (some ⟨w.heap.size, 0, none⟩) 1 1, .slice none 0 0] t2)).alloc (.cells #[.int .i64 48, .slice none 0 0, .slice (some ⟨w.heap.size + 1, 0, none⟩) 1 1] t2)).heap[w.heap.size + 1]? = some (.cells #[.int .i64 2, .slice (some ⟨w.heap.size, 0, none⟩) 1 1, .slice none 0 0] t2 (0, 0)) :=
    block_alloc (block_next w _ _) _
  have b3 : (((w.alloc (.cells #[.int .u8 5] t1)).alloc (.cells #[.int .i64 2, .slice (some ⟨w.heap.size, 0, none⟩) 1 1, .slice none 0 0] t2)).alloc (.cells #[.int .i64 48, .slice none 0 0, .slice (some ⟨w.heap.size + 1, 0, none⟩) 1 1] t2)).heap[w.heap.size + 2]? = some (.cells #[.int .i64 48, .slice none 0 0, .slice (some ⟨w.heap.size + 1, 0, none⟩) 1 1] t2 (0, 0)) := by
    have := block_next (w.alloc (.cells #[.int .u8 5] t1)) (.cells #[.int .i64 2, .slice (some ⟨w.heap.size, 0, none⟩) 1 1, .slice none 0 0] t2) (.cells #[.int .i64 48, .slice none 0 0, .slice (some ⟨w.heap.size + 1, 0, none⟩) 1 1] t2)
    simpa using this
  have row : ∀ {W : World} {g : Nat} {cs : Array Value} {t : TypeId}, W.heap[g]? = some (.cells cs t (0, 0)) → g < w.heap.size + 3 → SeesP W (· < w.heap.size + 3) (some ⟨g, 0, none⟩) cs.toList := fun {W g cs t} h hg =>
    .inr ⟨g, 0, rfl, hg, fun j hj => by rw [Nat.zero_add, cell_of_row W g j cs t (0, 0) h]; simp⟩
  refine ⟨_, row b3 (by omega), none, 0, some ⟨w.heap.size + 1, 0, none⟩, 1, _, [], rfl, fun _ => rfl, .inl rfl, row b2 (by omega), ?_, rfl⟩
  exact ⟨some ⟨w.heap.size, 0, none⟩, 1, none, 0, [], [], rfl, (fun e => by cases e), row b1 (by omega), .inl rfl, rfl, rfl⟩

theorem sees_built2 (w : World) (l : List UInt8) (t : TypeId) : SeesP (w.alloc (.cells (Us l).toArray t)) (· < (w.alloc (.cells (Us l).toArray t)).heap.size) (some ⟨w.heap.size, 0, none⟩) (Us l) := by
  refine .inr ⟨w.heap.size, 0, rfl, by simp, fun j hj => ?_⟩
  rw [Nat.zero_add, cell_of_row _ _ j _ t (0, 0) (heap_alloc_new w _)]
  simp

theorem awake (w : World) : Calls Try.prog 11 #[] w fun e w' => e = .returned (.bool true) ∧ Below w.heap.size w w' := by
  go_enter Try.func11, Try.ntmps11
  go_wp2_with fail
  obtain ⟨W, hW⟩ : ∃ W, W = ((w.alloc (.cells #[.int .u8 5] 5)).alloc (.cells #[.int .i64 2, .slice (some ⟨w.heap.size, 0, none⟩) 1 1, .slice none 0 0] 32)).alloc (.cells #[.int .i64 48, .slice none 0 0, .slice (some ⟨w.heap.size + 1, 0, none⟩) 1 1] 32) := ⟨_, rfl⟩
  have hs : SeesF W (· < W.heap.size) (some ⟨w.heap.size + 2, 0, none⟩) awF := by
    have h := aw_sees w 5 32
    rw [← hW] at h
    exact h.imp fun b hb => by rw [hW]; simp; omega
  have hb : Below w.heap.size w W := by
    rw [hW]
    exact (((Below.refl _ _).alloc (Nat.le_refl _) _).alloc (by simp) _).alloc (by simp; omega) _
  rw [← hW]
  clear hW
  have hE := tlv_encode awF (some ⟨w.heap.size + 2, 0, none⟩) 1 W (by rw [aw_len.2]; decide) aw_ok hs
  rw [aw_enc.1, aw_enc.2] at hE
  refine Calls.mono hE ?_
  rintro e w1 ⟨A1, c1, rfl, s1, hb1⟩
  have hb := below_on hb hb1
  have HB := Lib.hid (show _ ∧ _ from ⟨hb, s1⟩)
  clear hs hb hb1 s1 hE
  go_wp2_with fail
  have hP := tlv_parse true [48, 3, 2, 1, 5] (some ⟨w1.heap.size, 0, none⟩) 5 (w1.alloc (.cells (Us [48, 3, 2, 1, 5]).toArray 5)) (by decide) (by decide) (sees_built2 w1 _ _)
  rw [aw_parse] at hP
  refine Calls.mono hP ?_
  rintro e w2 ⟨hb2, A2, c2, rfl, hk⟩
  obtain ⟨cs, k1, k2⟩ := hk
  obtain ⟨b, off, Av, cv, Ak, ck, rfl, _, _, _, g2, _⟩ := node_at (k := 0) (t := 48) (v := []) (kk := .cons 2 [5] .nil .nil) (r := .nil) k1 k2
  simp only [Nat.zero_mul, Nat.add_zero] at g2
  have g2 : w2.cell? ⟨b, off + 2, none⟩ = some (.slice Ak 1 ck) := g2
  have e1 : awF.len = 1 := rfl
  have e2 : ((S [48, 3, 2, 1, 5]).toList == [48, 3, 2, 1, 5]) = true := by rw [S_toList]; rfl
  have hb3 := below_on HB.out.1 (below_on ((Below.refl w1.heap.size w1).alloc (Nat.le_refl _) (.cells (Us [48, 3, 2, 1, 5]).toArray 5)) hb2)
  have s3 := HB.out.2.on (below_on ((Below.refl w1.heap.size w1).alloc (Nat.le_refl _) (.cells (Us [48, 3, 2, 1, 5]).toArray 5)) hb2)
  have hcv := run_conv w2 _ A1 [48, 3, 2, 1, 5] s3 5 c1 rfl
  have HB2 := Lib.hid hb3
  clear hb2 hb3 s3 k1 k2 hP HB
  go_wp2_with fail
  go_ret
  exact ⟨rfl, HB2.out⟩

end Go.Proofs.Ytipmmclahngabaa
