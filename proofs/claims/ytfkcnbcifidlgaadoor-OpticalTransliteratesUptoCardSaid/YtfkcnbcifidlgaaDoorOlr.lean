/-
  What is proved here: the two tables of letters lie in memory as their data say; what stands for a letter, in the program and in the reference.
-/
import Derived.Test.YtfkcnbcifidlgaaDoorOcr
import Derived.Test.YtfkcnbcifidlgaaDoorLy
import Derived.Lib.LaidU8
namespace Go.Proofs.YtfkcnbcifidlgaaDoor
open Go.ChangeShapes Go.WideShapes Go.ChangeAt Go.RowKit

abbrev Rw := List Nat × List UInt8
def rowsP : List Rw := [([192, 193, 194, 195, 256, 258, 260, 224, 225, 226, 227, 257, 259, 261], [65]),
  ([196, 198, 228, 230], [65, 69]),
  ([197, 229], [65, 65]),
  ([199, 262, 264, 266, 268, 231, 263, 265, 267, 269], [67]),
  ([270, 272, 208, 271, 273, 240], [68]),
  ([200, 201, 202, 203, 274, 276, 278, 280, 282, 232, 233, 234, 235, 275, 277, 279, 281, 283], [69]),
  ([284, 286, 288, 290, 285, 287, 289, 291], [71]),
  ([292, 294, 293, 295], [72]),
  ([204, 205, 206, 207, 296, 298, 300, 302, 236, 237, 238, 239, 297, 299, 301, 303, 305, 304], [73]),
  ([308, 309], [74]),
  ([310, 311], [75]),
  ([313, 315, 317, 319, 321, 314, 316, 318, 320, 322], [76]),
  ([209, 323, 325, 327, 330, 241, 324, 326, 328, 331], [78]),
  ([210, 211, 212, 213, 332, 334, 336, 242, 243, 244, 245, 333, 335, 337], [79]),
  ([214, 216, 338, 246, 248, 339], [79, 69]),
  ([340, 342, 344, 341, 343, 345], [82]),
  ([346, 348, 350, 352, 347, 349, 351, 353], [83]),
  ([223], [83, 83]),
  ([354, 356, 358, 355, 357, 359], [84]),
  ([222, 254], [84, 72]),
  ([217, 218, 219, 360, 362, 364, 366, 368, 370, 249, 250, 251, 361, 363, 365, 367, 369, 371], [85]),
  ([220, 252], [85, 69]),
  ([372, 373], [87]),
  ([221, 374, 376, 253, 375, 255], [89]),
  ([377, 379, 381, 378, 380, 382], [90])]
def rowsR : List Rw := [([192, 193, 194, 195, 256, 258, 260, 224, 225, 226, 227, 257, 259, 261], [65]),
  ([196, 198, 228, 230], [65, 69]),
  ([197, 229], [65, 65]),
  ([199, 262, 264, 266, 268, 231, 263, 265, 267, 269], [67]),
  ([270, 272, 208, 271, 273, 240], [68]),
  ([200, 201, 202, 203, 274, 276, 278, 280, 282, 232, 233, 234, 235, 275, 277, 279, 281, 283], [69]),
  ([284, 286, 288, 290, 285, 287, 289, 291], [71]),
  ([292, 294, 293, 295], [72]),
  ([204, 205, 206, 207, 296, 298, 300, 302, 236, 237, 238, 239, 297, 299, 301, 303, 305, 304], [73]),
  ([308, 309], [74]),
  ([310, 311], [75]),
  ([313, 315, 317, 319, 321, 314, 316, 318, 320, 322], [76]),
  ([209, 323, 325, 327, 330, 241, 324, 326, 328, 331], [78]),
  ([210, 211, 212, 213, 332, 334, 336, 242, 243, 244, 245, 333, 335, 337], [79]),
  ([214, 216, 338, 246, 248, 339], [79, 69]),
  ([340, 342, 344, 341, 343, 345], [82]),
  ([346, 348, 350, 352, 347, 349, 351, 353], [83]),
  ([354, 356, 358, 355, 357, 359], [84]),
  ([222, 254], [84, 72]),
  ([217, 218, 219, 360, 362, 364, 366, 368, 370, 249, 250, 251, 361, 363, 365, 367, 369, 371], [85]),
  ([220, 252], [85, 69]),
  ([372, 373], [87]),
  ([221, 374, 376, 253, 375, 255], [89]),
  ([377, 379, 381, 378, 380, 382], [90]),
  ([223], [83, 83]), ([], [])]
def rowD {H : Type} (r : Rw) : DataW H := .agg [.lit (.string (twos r.1)), .lit (.string r.2)]
theorem laid_p : Rows.laid_traveldoc_optical_rows (H := Unit) = .agg (rowsP.map rowD) := by kernel_rfl
theorem laid_r : Rows.laid_traveldoc_traveldocref10_rows (H := Unit) = .agg (rowsR.map rowD) := by kernel_rfl

/-- the rows lie in block g -/
def TabL (g : Nat) (L : List Rw) (w : World) : Prop := ∀ i, (hi : i < L.length) → w.cell? ⟨g, i * 2, none⟩ = some (.string (S (twos L[i].1))) ∧ w.cell? ⟨g, i * 2 + 1, none⟩ = some (.string (S L[i].2))

section
variable {enc : TypeId × Value → Unit} {w : World} {base : Nat} {sp : Nat → Bool} {held : Bool}
theorem str_cell {fuel : Nat} {c : Value} {x : List UInt8} {p : List MemPlace} (h : DataW.trod enc Tryd.prog w base sp held fuel 9 [c] = some (.lit (.string x), p)) : c = .string (S x) := by
  obtain ⟨s, hc, hz, _⟩ := DataW.trod_string Tryd.underlying9 h
  have h1 := (Prod.mk.inj hz).1
  have h2 : x = s.data.toList := by simpa using h1
  have h3 : c = .string s := by simpa using hc
  rw [h3, h2, ← S_of]
theorem take1 {cs : List Value} {k : Nat} (h : k < cs.length) : (cs.drop k).take 1 = [cs[k]] := by
  rw [List.take_one, List.head?_drop, List.getElem?_eq_getElem h]; rfl
theorem pair_p {fuel : Nat} {cs : List Value} {r : Rw} {p : List MemPlace} (h : DataW.trod enc Tryd.prog w base sp held fuel 68 cs = some (rowD r, p)) : cs[0]? = some (.string (S (twos r.1))) ∧ cs[1]? = some (.string (S r.2)) := by
  obtain ⟨y0, y1, n, hx, hl, h0, h1⟩ := trod_struct2 Tryd.underlying68 h
  have hl : cs.length = 2 := hl.trans (by kernel_rfl)
  rw [show Tryd.prog.cellsOf _ = 1 by kernel_rfl] at h0 h1
  dsimp only at h0 h1
  have hd := (Prod.mk.inj hx).1
  simp only [rowD, DataW.agg.injEq, List.cons.injEq, and_true] at hd
  obtain ⟨e0, e1⟩ := hd
  rw [take1 (by omega)] at h0 h1
  rw [show y0 = (y0.1, y0.2) from rfl, ← e0] at h0
  rw [show y1 = (y1.1, y1.2) from rfl, ← e1] at h1
  have k0 := str_cell h0
  have k1 := str_cell h1
  rw [List.getElem?_eq_getElem (by omega : 0 < cs.length), List.getElem?_eq_getElem (by omega : 1 < cs.length)]
  exact ⟨congrArg some k0, congrArg some k1⟩
theorem pair_r {fuel : Nat} {cs : List Value} {r : Rw} {p : List MemPlace} (h : DataW.trod enc Tryd.prog w base sp held fuel 56 cs = some (rowD r, p)) : cs[0]? = some (.string (S (twos r.1))) ∧ cs[1]? = some (.string (S r.2)) := by
  have hl : cs.length = 2 := by
    obtain ⟨_, _, _, _, hl, _⟩ := DataW.trod_array Tryd.underlying56 h
    exact hl.trans (by kernel_rfl)
  obtain ⟨f0, d0, q0, e0, h0⟩ := Lib.array_elem Tryd.underlying56 h 0 (by decide)
  obtain ⟨f1, d1, q1, e1, h1⟩ := Lib.array_elem Tryd.underlying56 h 1 (by decide)
  rw [show Tryd.prog.cellsOf _ = 1 by kernel_rfl] at h0 h1
  simp only [List.getElem?_cons_zero, List.getElem?_cons_succ, Option.some.injEq] at e0 e1
  subst e0 e1
  rw [take1 (by omega)] at h0 h1
  have k0 := str_cell h0
  have k1 := str_cell h1
  rw [List.getElem?_eq_getElem (by omega : 0 < cs.length), List.getElem?_eq_getElem (by omega : 1 < cs.length)]
  exact ⟨congrArg some k0, congrArg some k1⟩
theorem tab_l {n : String} {g n' : Nat} {t e : TypeId} {cs : Array Value} {fuel : Nat} {p : List MemPlace} {L : List Rw} (ht : Tryd.prog.underlying t = some (.array n' e)) (hn : L.length = n') (hc : Tryd.prog.cellsOf e = 2)
    (hg : Tryd.prog.globalNamed n = some g) (hv : w.var? Tryd.prog n = some cs) (hd : DataW.trod enc Tryd.prog w base sp held fuel t cs.toList = some (.agg (L.map rowD), p))
    (hp : ∀ {fuel : Nat} {cs : List Value} {r : Rw} {p : List MemPlace}, DataW.trod enc Tryd.prog w base sp held fuel e cs = some (rowD r, p) → cs[0]? = some (.string (S (twos r.1))) ∧ cs[1]? = some (.string (S r.2))) : TabL g L w := by
  intro i hi
  obtain ⟨f, d, q, e1, h1⟩ := Lib.array_elem ht hd i (by omega)
  rw [hc] at h1
  rw [List.getElem?_map, List.getElem?_eq_getElem hi] at e1
  simp only [Option.map_some, Option.some.injEq] at e1
  subst e1
  have := hp h1
  simp only [List.getElem?_take, List.getElem?_drop] at this
  rw [World.var?_cell hg hv, World.var?_cell hg hv, ← Array.getElem?_toList, ← Array.getElem?_toList]
  exact ⟨by simpa using this.1, by simpa using this.2⟩
end
theorem TabL.below {g : Nat} {L : List Rw} {w w' : World} (h : TabL g L w) (hL : 0 < L.length) (hb : Below w.heap.size w w') : TabL g L w' := by
  have hl : g < w.heap.size := by
    rcases Nat.lt_or_ge g w.heap.size with h1 | h1
    · exact h1
    · have := (h 0 hL).1
      unfold World.cell? at this
      rw [Array.getElem?_eq_none h1] at this
      cases this
  intro i hi
  exact ⟨(hb.cell (p := ⟨g, i * 2, none⟩) hl).trans (h i hi).1, (hb.cell (p := ⟨g, i * 2 + 1, none⟩) hl).trans (h i hi).2⟩

end Go.Proofs.YtfkcnbcifidlgaaDoor
