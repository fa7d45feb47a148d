/-
  What is proved here: plain facts: objects are read back from each of their encodings, whatever form the lengths have (and strictly from those in shortest form).
-/
import Derived.Test.YtipmmclahngabaaCut
import Derived.Test.YtipmmclahngabaaDicN
namespace Go.Proofs.Ytipmmclahngabaa
open Go.RowKit
set_option linter.unusedVariables false

/-- a length of n bytes, in some form: what stands ahead of the content and behind it -/
def HdOk (st : Bool) (t : Int) (n : Nat) (hd tl : List UInt8) : Prop :=
  (tl = [] ∧ hd = [UInt8.ofNat n] ∧ n ≤ 127) ∨
  (tl = [] ∧ ∃ m dg, hd = UInt8.ofNat (128 + m) :: dg ∧ dg.length = m ∧ 1 ≤ m ∧ m ≤ 4 ∧ numL dg = n ∧ (st = true → shortB (128 + m) n = true)) ∨
  (st = false ∧ hd = [128] ∧ tl = [0, 0] ∧ consB t = true)
/-- b is an encoding of the objects -/
def LooseOf (st : Bool) : F → List UInt8 → Prop
  | .nil, b => b = []
  | .cons t v k r, b => ∃ ck br hd tl, LooseOf st k ck ∧ LooseOf st r br ∧ HdOk st t (v.length + ck.length) hd tl ∧ b = tagL t.toNat ++ (hd ++ (v ++ ck ++ (tl ++ br)))

theorem LooseOf.app {st : Bool} {g : F} {bg : List UInt8} (hg : LooseOf st g bg) : ∀ {f : F} {bf : List UInt8}, LooseOf st f bf → LooseOf st (f.app g) (bf ++ bg)
  | .nil, _, h => by cases h; exact hg
  | .cons t v k r, _, ⟨ck, br, hd, tl, h1, h2, h3, e⟩ => ⟨ck, br ++ bg, hd, tl, h1, LooseOf.app hg h2, h3, by rw [e]; simp only [List.append_assoc]⟩

theorem hdr_first {t : Nat} (hv : validB (t : Int) = true) {f : Nat} (hf : f < 256) (r : List UInt8) :
    hdrZ (tagL t ++ UInt8.ofNat f :: r) = tagN (t : Int) + 1 ∧ hdrF (tagL t ++ UInt8.ofNat f :: r) = f ∧ tagE (tagL t ++ UInt8.ofNat f :: r) = 0 ∧ tagV (tagL t ++ UInt8.ofNat f :: r) = t ∧ (tagL t ++ UInt8.ofNat f :: r).drop (tagN (t : Int) + 1) = r := by
  have ht := tag_read hv (UInt8.ofNat f :: r)
  have hZ : hdrZ (tagL t ++ UInt8.ofNat f :: r) = tagN (t : Int) + 1 := by unfold hdrZ; rw [ht.2]
  refine ⟨hZ, ?_, ht.1, ht.2, ?_⟩
  · unfold hdrF
    rw [hZ, Nat.add_sub_cancel]
    have : (tagL t ++ UInt8.ofNat f :: r).getD (tagN (t : Int)) 0 = UInt8.ofNat f := by
      rw [← tagL_len]
      simp [List.getD]
    rw [this, ofNat_toNat hf]
  · rw [← tagL_len, List.drop_append]
    simp [List.drop_eq_nil_of_le]
/-- a definite length is read -/
theorem hdr_def {st : Bool} {t : Nat} {n : Nat} {hd : List UInt8} (hv : validB (t : Int) = true) (h : HdOk st (t : Int) n hd []) (X : List UInt8) :
    hdrE (tagL t ++ (hd ++ X)) = 0 ∧ hdrF (tagL t ++ (hd ++ X)) ≠ 128 ∧ hdrN (tagL t ++ (hd ++ X)) = n ∧ (tagL t ++ (hd ++ X)).drop (hdrS (tagL t ++ (hd ++ X))) = X ∧ tagV (tagL t ++ (hd ++ X)) = t ∧ (st = true → shortB (hdrF (tagL t ++ (hd ++ X))) n = true) := by
  rcases h with ⟨_, rfl, hn⟩ | ⟨_, m, dg, rfl, hm, h1, h4, hN, hS⟩ | ⟨_, _, h, _⟩
  · obtain ⟨e1, e2, e3, e4, e5⟩ := hdr_short hv hn X
    obtain ⟨_, _, _, _, hd⟩ := hdr_first hv (f := n) (by omega) X
    rw [List.singleton_append]
    refine ⟨e1, by omega, e3, by rw [e4]; exact hd, e5, fun _ => ?_⟩
    rw [e2]
    unfold shortB
    rw [lb_0 hn, if_pos rfl, decide_eq_true hn]
  · obtain ⟨z, f, te, tv, hd⟩ := hdr_first hv (f := 128 + m) (by omega) (dg ++ X)
    rw [List.cons_append]
    have hl : (tagL t ++ UInt8.ofNat (128 + m) :: (dg ++ X)).length = tagN (t : Int) + 1 + (m + X.length) := by
      rw [List.length_append, tagL_len, List.length_cons, List.length_append, hm]; omega
    refine ⟨?_, by omega, ?_, ?_, tv, fun h => by rw [f]; exact hS h⟩
    · unfold hdrE
      rw [if_neg (by omega), z, f, if_neg (by omega), if_neg (by omega), if_neg (by omega), if_neg (by omega)]
    · unfold hdrN
      rw [f, if_neg (by omega), z, hd, show 128 + m - 128 = m by omega, ← hm, List.take_left, hN]
    · unfold hdrS
      rw [f, if_neg (by omega), z, show 128 + m - 128 = m by omega, ← List.drop_drop, hd, ← hm, List.drop_left]
  · cases h
/-- the indefinite form is read -/
theorem hdr_ind {t : Nat} (hv : validB (t : Int) = true) (X : List UInt8) :
    hdrE (tagL t ++ ([128] ++ X)) = 0 ∧ hdrF (tagL t ++ ([128] ++ X)) = 128 ∧ (tagL t ++ ([128] ++ X)).drop (hdrS (tagL t ++ ([128] ++ X))) = X ∧ tagV (tagL t ++ ([128] ++ X)) = t := by
  obtain ⟨z, f, te, tv, hd⟩ := hdr_first hv (f := 128) (by omega) X
  have e : (UInt8.ofNat 128) = 128 := rfl
  rw [e] at z f te tv hd
  rw [List.singleton_append]
  have hl : (tagL t ++ 128 :: X).length = tagN (t : Int) + 1 + X.length := by
    rw [List.length_append, tagL_len, List.length_cons]; omega
  refine ⟨?_, f, ?_, tv⟩
  · unfold hdrE
    rw [if_neg (by omega), z, f, if_neg (by omega), if_neg (by omega), if_neg (by omega), if_neg (by omega)]
  · unfold hdrS
    rw [f, if_neg (by omega), z]
    exact hd
theorem adm_fine {st : Bool} {t f n c : Nat} {d : Int} (h1 : f = 128 → consB (t : Int) = true ∧ st = false) (h2 : st = true → shortB f n = true) (hd : d ≤ 8) (hc : c + 1 ≤ 256) : admE st t f n d c = 0 := by
  unfold admE
  rw [if_neg ?_, if_neg (by omega), if_neg (by omega)]
  rintro (⟨h, h'⟩ | ⟨h, h'⟩)
  · rw [(h1 h).1] at h'; cases h'
  · rw [h2 h] at h'; cases h'

/-- objects as they are read: F.gd without its bounds on how many -/
def F.fit : F → Nat → Prop
  | .nil, _ => True
  | .cons t v k r, m => 1 ≤ m ∧ validB t = true ∧ (consB t = true → v = []) ∧ (consB t = false → k = .nil) ∧ v.length ≤ 4096 ∧ k.fit (m - 1) ∧ r.fit m
theorem F.gd_fit : ∀ {f : F} {m : Nat}, f.gd m → f.fit m
  | .nil, _, _ => trivial
  | .cons t v k r, m, ⟨h1, h2, h3, h4, h5, h6, h7, h8⟩ => ⟨h1, h2, h3, h4, by omega, F.gd_fit h7, F.gd_fit h8⟩
theorem F.fit_chk : ∀ {f : F} {m : Nat} {d : Int}, f.fit m → d + m ≤ 9 → chkE f d = 0
  | .nil, _, _, _, _ => rfl
  | .cons t v k r, m, d, ⟨h1, h2, h3, h4, h5, h7, h8⟩, hd => by
    have c1 : chk1 t v.length k.len d = 0 := by
      unfold chk1
      rw [if_neg (by rw [h2]; decide), if_neg ?_, if_neg (by omega)]
      rintro (⟨hc, hl⟩ | ⟨hc, hl⟩)
      · rw [h3 hc] at hl; simp at hl
      · rw [h4 hc] at hl; simp [F.len] at hl
    rw [chkE_3 c1 (F.fit_chk h7 (by omega))]
    exact F.fit_chk h8 hd
theorem F.fit_ok : ∀ {f : F} {m : Nat}, f.fit m → f.ok
  | .nil, _, _ => trivial
  | .cons t v k r, m, ⟨h1, h2, h3, h4, h5, h7, h8⟩ => by
    have := valid_range h2
    exact ⟨by omega, by omega, F.fit_ok h7, F.fit_ok h8⟩

/-- the three readings of what was written, at each depth -/
def BackL (st : Bool) (f : F) : Prop := ∀ (K m c : Nat) (b : List UInt8), f.fit K → K ≤ 8 → LooseOf st f b → b.length ≤ m → c + f.size ≤ 256 → loopL (pObj st K) m c b = .ok (f, c + f.size)
def BackM (st : Bool) (f : F) : Prop := ∀ (K m c : Nat) (b rest : List UInt8), f.fit K → K ≤ 8 → LooseOf st f b → (b ++ ([0, 0] ++ rest)).length ≤ m → c + f.size ≤ 256 → loopM (pObj st K) m c (b ++ ([0, 0] ++ rest)) = .ok (f, rest, c + f.size)
theorem back_obj {st : Bool} {t : Int} {v : List UInt8} {k : F} (hL : BackL st k) (hM : BackM st k) {K c : Nat} {ck hd tl X : List UInt8} (hg : (F.cons t v k .nil).fit K) (hK : K ≤ 8) (hk : LooseOf st k ck) (hh : HdOk st t (v.length + ck.length) hd tl) (hc : c + 1 + k.size ≤ 256) :
    pObj st K c (tagL t.toNat ++ (hd ++ (v ++ ck ++ (tl ++ X)))) = .ok (t, v, k, X, c + 1 + k.size) := by
  obtain ⟨g1, g2, g3, g4, g5, g7, _⟩ := hg
  have hr := valid_range g2
  obtain ⟨T, rfl⟩ := Int.eq_ofNat_of_zero_le (show 0 ≤ t by omega)
  obtain ⟨K', rfl⟩ : ∃ K', K = K' + 1 := ⟨K - 1, by omega⟩
  simp only [Nat.add_sub_cancel] at g7
  simp only [Int.toNat_natCast]
  have hd8 : (8 : Int) - (K' : Int) ≤ 8 := by omega
  have hh2 := hh
  rcases hh with ⟨rfl, _, _⟩ | ⟨rfl, _⟩ | ⟨h1, h2, h3, h4⟩
  iterate 2
    obtain ⟨e1, e2, e3, e4, e5, e6⟩ := hdr_def g2 hh2 (v ++ ck ++ ([] ++ X))
    have hA := adm_fine (st := st) (t := T) (f := hdrF (tagL T ++ (hd ++ (v ++ ck ++ ([] ++ X))))) (n := v.length + ck.length) (c := c) (fun h => absurd h e2) e6 hd8 (by omega)
    simp only [pObj]
    rw [if_neg (by omega), e3, e5, if_neg (by omega), if_neg e2, e4, if_neg (by simp only [List.length_append, List.nil_append]; omega)]
    have et : (v ++ ck ++ ([] ++ X)).take (v.length + ck.length) = v ++ ck := by rw [← List.length_append, List.take_left]
    have ed : (v ++ ck ++ ([] ++ X)).drop (v.length + ck.length) = X := by rw [← List.length_append, List.drop_left]; rfl
    rw [et, ed]
    cases hcb : consB (T : Int)
    · have hkn := g4 hcb
      subst hkn
      cases hk
      rw [if_pos rfl, List.append_nil]
      rfl
    · have hvn := g3 hcb
      subst hvn
      rw [if_neg (by decide)]
      simp only [List.nil_append, List.length_nil, Nat.zero_add]
      rw [hL K' ck.length (c + 1) ck g7 (by omega) hk (Nat.le_refl _) (by omega)]
  · subst h1 h2 h3
    have hvn := g3 h4
    subst hvn
    obtain ⟨e1, e2, e4, e5⟩ := hdr_ind g2 ([] ++ ck ++ ([0, 0] ++ X))
    have hA := adm_fine (st := false) (t := T) (f := 128) (n := hdrN (tagL T ++ ([128] ++ ([] ++ ck ++ ([0, 0] ++ X))))) (c := c) (fun _ => ⟨h4, rfl⟩) (fun h => by cases h) hd8 (by omega)
    simp only [pObj]
    rw [if_neg (by omega), e5, e2, if_neg (by omega), if_pos rfl, e4]
    simp only [List.nil_append]
    rw [hM K' _ (c + 1) ck X g7 (by omega) hk (Nat.le_refl _) (by omega)]

theorem tag_nonzero {t : Nat} (hv : validB (t : Int) = true) (r : List UInt8) : (tagL t ++ r).take 2 ≠ [0, 0] := by
  have hr := valid_range hv
  intro h
  unfold tagL at h
  split at h
  · rename_i h2
    simp only [List.cons_append, List.nil_append, List.take_succ_cons, List.cons.injEq] at h
    have := congrArg UInt8.toNat h.1
    rw [ofNat_mod] at this
    have e : (0 : UInt8).toNat = 0 := rfl
    omega
  · rename_i h2
    simp only [List.cons_append, List.nil_append, List.take_succ_cons, List.cons.injEq] at h
    have := congrArg UInt8.toNat h.1
    rw [ofNat_mod] at this
    have e : (0 : UInt8).toNat = 0 := rfl
    omega
theorem tagL_pos (t : Nat) : 1 ≤ (tagL t).length := by unfold tagL; split <;> simp
theorem hd_pos {st : Bool} {t : Int} {n : Nat} {hd tl : List UInt8} (h : HdOk st t n hd tl) : 1 ≤ hd.length := by
  rcases h with ⟨_, rfl, _⟩ | ⟨_, m, dg, rfl, _⟩ | ⟨_, rfl, _, _⟩ <;> simp

theorem back_all (st : Bool) : ∀ f : F, BackL st f ∧ BackM st f
  | .nil => by
    refine ⟨fun K m c b _ _ h _ _ => ?_, fun K m c b rest _ _ h hm _ => ?_⟩
    · cases h; rw [loopL_end]; rfl
    · cases h
      simp only [List.nil_append, List.length_append, List.length_cons, List.length_nil] at hm
      obtain ⟨m', rfl⟩ : ∃ m', m = m' + 1 := ⟨m - 1, by omega⟩
      rw [List.nil_append, loopM_end (by simp) (by rfl)]
      rfl
  | .cons t v k r => by
    obtain ⟨kL, kM⟩ := back_all st k
    obtain ⟨rL, rM⟩ := back_all st r
    refine ⟨fun K m c b hg hK h hm hc => ?_, fun K m c b rest hg hK h hm hc => ?_⟩
    · obtain ⟨ck, br, hd, tl, hk, hr, hh, rfl⟩ := h
      obtain ⟨g1, g2, g3, g4, g5, g7, g8⟩ := hg
      simp only [F.size] at hc
      have ho := back_obj kL kM (X := br) (c := c) (K := K) ⟨g1, g2, g3, g4, g5, g7, trivial⟩ hK hk hh (by omega)
      have hp1 := tagL_pos t.toNat
      have hp2 := hd_pos hh
      simp only [List.length_append] at hm
      obtain ⟨m', rfl⟩ : ∃ m', m = m' + 1 := ⟨m - 1, by omega⟩
      rw [loopL_ok (by intro e; have := congrArg List.length e; simp only [List.length_append, List.length_nil] at this; omega) ho, rL K m' (c + 1 + k.size) br g8 hK hr (by omega) (by omega)]
      simp only [joinL, F.app, F.size, Except.ok.injEq, Prod.mk.injEq, true_and]
      omega
    · obtain ⟨ck, br, hd, tl, hk, hr, hh, rfl⟩ := h
      obtain ⟨g1, g2, g3, g4, g5, g7, g8⟩ := hg
      simp only [F.size] at hc
      have hvr := valid_range g2
      have e : tagL t.toNat ++ (hd ++ (v ++ ck ++ (tl ++ br))) ++ ([0, 0] ++ rest) = tagL t.toNat ++ (hd ++ (v ++ ck ++ (tl ++ (br ++ ([0, 0] ++ rest))))) := by simp only [List.append_assoc]
      rw [e] at hm ⊢
      have ho := back_obj kL kM (X := br ++ ([0, 0] ++ rest)) (c := c) (K := K) ⟨g1, g2, g3, g4, g5, g7, trivial⟩ hK hk hh (by omega)
      have hp1 := tagL_pos t.toNat
      have hp2 := hd_pos hh
      have hm2 := hm
      simp only [List.length_append, List.length_cons, List.length_nil] at hm2
      obtain ⟨m', rfl⟩ : ∃ m', m = m' + 1 := ⟨m - 1, by omega⟩
      obtain ⟨T, rfl⟩ := Int.eq_ofNat_of_zero_le (show 0 ≤ t by omega)
      rw [loopM_ok (by simp only [List.length_append, List.length_cons, List.length_nil]; omega) (tag_nonzero (by simpa using g2) _) ho, rM K m' (c + 1 + k.size) br rest g8 hK hr (by simp only [List.length_append, List.length_cons, List.length_nil]; omega) (by omega)]
      simp only [joinM, F.app, F.size, Except.ok.injEq, Prod.mk.injEq, true_and]
      omega

/-- an encoding of at most 4096 bytes is read -/
theorem parse_fit {st : Bool} {f : F} {b : List UInt8} (hg : f.fit 8) (h : LooseOf st f b) (hl : b.length ≤ 4096) (hs : f.size ≤ 256) : parse st b = .ok (f, f.size) := by
  unfold parse
  rw [if_neg (by omega), (back_all st f).1 8 b.length 0 b hg (Nat.le_refl _) h (Nat.le_refl _) (by omega), Nat.zero_add]
theorem parse_loose {st : Bool} {f : F} {b : List UInt8} (hg : f.gd 8) (h : LooseOf st f b) (hl : b.length ≤ 4096) (hs : f.size ≤ 256) : parse st b = .ok (f, f.size) := parse_fit (F.gd_fit hg) h hl hs
theorem numL_len {n : Nat} (h : n ≤ 65535) (h2 : 127 < n) : numL (lenD n (lb n) (lb n)) = n ∧ 1 ≤ lb n ∧ lb n ≤ 4 := by
  by_cases h3 : n < 256
  · rw [lb_1 h2 h3]
    refine ⟨?_, by decide, by decide⟩
    simp [lenD, numL]
    omega
  · rw [lb_2 (by omega) (by omega)]
    refine ⟨?_, by decide, by decide⟩
    simp [lenD, numL, List.range_succ]
    omega
theorem hd_short {st : Bool} (t : Int) {n : Nat} (h : n ≤ 65535) : HdOk st t n (lenL n) [] := by
  by_cases h2 : n ≤ 127
  · left; unfold lenL; rw [if_pos h2]; exact ⟨rfl, rfl, h2⟩
  · right; left
    have hn := numL_len h (by omega)
    unfold lenL; rw [if_neg h2]
    refine ⟨rfl, lb n, _, rfl, lenD_length _ _ _, hn.2.1, hn.2.2, hn.1, fun _ => ?_⟩
    unfold shortB
    rw [if_neg (by omega), decide_eq_true rfl]
/-- what Encode writes is an encoding with lengths in shortest form -/
theorem loose_enc (st : Bool) : ∀ (f : F), encN f ≤ 65535 → LooseOf st f (enc f)
  | .nil, _ => rfl
  | .cons t v k r, h => by
    simp only [encN] at h
    refine ⟨enc k, enc r, lenL (v.length + encN k), [], loose_enc st k (by omega), loose_enc st r (by omega), ?_, ?_⟩
    · rw [enc_length]; exact hd_short t (by omega)
    · simp only [enc, List.append_assoc, List.nil_append]
theorem F.gd_more : ∀ {f : F} {m n : Nat}, f.gd m → m ≤ n → f.gd n
  | .nil, _, _, _, _ => trivial
  | .cons t v k r, m, n, ⟨h1, h2, h3, h4, h5, h6, h7, h8⟩, h => ⟨by omega, h2, h3, h4, h5, h6, F.gd_more h7 (by omega), F.gd_more h8 h⟩

end Go.Proofs.Ytipmmclahngabaa
