/-
  What is proved here: plain words for templates: what a valid one is, its object, what objects are those of templates; and how templates lie in memory. Nothing of the program's functions is used.
-/
import Derived.Test.YtobbnedojmcgoaaFn
namespace Go.Proofs.Ytobbnedojmcgoaa
open Go.RowKit
set_option linter.unusedVariables false

structure Tm where
  k : Int
  p : Int
  f : Int
  t : Int
  fo : Int
  q : Int
  d : List UInt8
instance : Inhabited Tm := ⟨⟨0, 0, 0, 0, 0, 0, []⟩⟩
/-- a template as a value -/
def Tm.cs (x : Tm) (A : Option Addr) (c : Nat) : List Value := [.int .i64 x.k, .int .i64 x.p, .int .i64 x.f, .int .i64 x.t, .int .i64 x.fo, .int .i64 x.q, .slice A x.d.length c]
theorem Tm.cs_len (x : Tm) (A : Option Addr) (c : Nat) : (x.cs A c).length = 7 := rfl

/-! ## valid templates -/
def partB (k p : Int) : Bool := (decide (k = 1) && decide (p = 0)) || (decide (k = 2) && (decide (1 ≤ p) && decide (p ≤ 10))) || (decide (k = 3) && (decide (1 ≤ p) && decide (p ≤ 2)))
def dateT (f t : Int) : Bool := dayB f && (dayB t && decide (f ≤ t))
def rangT (fo q : Int) : Bool := (decide (0 ≤ fo) && decide (fo ≤ 65535)) && (decide (0 ≤ q) && decide (q ≤ 100))
def sizeT (n : Nat) : Bool := decide (1 ≤ n) && decide (n ≤ 1024)
def vT (x : Tm) : Int := if partB x.k x.p = false then 14 else if dateT x.f x.t = false then 8 else if rangT x.fo x.q = false then 3 else if sizeT x.d.length = false then 2 else 0
theorem vT_ok {x : Tm} (h : vT x = 0) : partB x.k x.p = true ∧ dateT x.f x.t = true ∧ rangT x.fo x.q = true ∧ sizeT x.d.length = true := by
  unfold vT at h
  split at h
  · omega
  · split at h
    · omega
    · split at h
      · omega
      · split at h
        · omega
        · rename_i a b c d
          exact ⟨by simpa using a, by simpa using b, by simpa using c, by simpa using d⟩
theorem vT_mk {x : Tm} (h1 : partB x.k x.p = true) (h2 : dateT x.f x.t = true) (h3 : rangT x.fo x.q = true) (h4 : sizeT x.d.length = true) : vT x = 0 := by simp [vT, h1, h2, h3, h4]
theorem part_bd {k p : Int} (h : partB k p = true) : 1 ≤ k ∧ k ≤ 3 ∧ 0 ≤ p ∧ p ≤ 10 := by
  unfold partB at h
  simp at h
  omega
theorem vT_bd {x : Tm} (h : vT x = 0) : (1 ≤ x.k ∧ x.k ≤ 3) ∧ (0 ≤ x.p ∧ x.p ≤ 10) ∧ (0 ≤ x.f ∧ x.f ≤ 73048) ∧ (0 ≤ x.t ∧ x.t ≤ 73048) ∧ x.f ≤ x.t ∧ (0 ≤ x.fo ∧ x.fo ≤ 65535) ∧ (0 ≤ x.q ∧ x.q ≤ 100) ∧ 1 ≤ x.d.length ∧ x.d.length ≤ 1024 := by
  obtain ⟨h1, h2, h3, h4⟩ := vT_ok h
  have := part_bd h1
  unfold dateT dayB at h2
  unfold rangT at h3
  unfold sizeT at h4
  simp at h2 h3 h4
  omega
/-- the first error of templates -/
def chkT : List Tm → Int
  | [] => 0
  | x :: r => if vT x = 0 then chkT r else vT x
def encE (l : List Tm) : Int := if l.length < 1 ∨ 8 < l.length then 2 else chkT l
theorem chkT_drop {l : List Tm} {j : Nat} {x : Tm} (h : l[j]? = some x) : chkT (l.drop j) = if vT x = 0 then chkT (l.drop (j + 1)) else vT x := by
  have hj := (List.getElem?_eq_some_iff.1 h).1
  rw [List.drop_eq_getElem_cons hj]
  have : l[j] = x := (List.getElem?_eq_some_iff.1 h).2
  rw [this]
  rfl
theorem chkT_all {l : List Tm} (h : chkT l = 0) : ∀ x ∈ l, vT x = 0 := by
  induction l with
  | nil => simp
  | cons y r ih =>
    unfold chkT at h
    split at h
    · rename_i hy
      intro x hx
      rcases List.mem_cons.1 hx with rfl | hx
      · exact hy
      · exact ih h x hx
    · rename_i hy; exact absurd h hy
theorem chkT_mk {l : List Tm} (h : ∀ x ∈ l, vT x = 0) : chkT l = 0 := by
  induction l with
  | nil => rfl
  | cons y r ih =>
    unfold chkT
    rw [if_pos (h y (List.mem_cons_self ..))]
    exact ih fun x hx => h x (List.mem_cons_of_mem _ hx)
theorem encE_ok {l : List Tm} (h : encE l = 0) : 1 ≤ l.length ∧ l.length ≤ 8 ∧ ∀ x ∈ l, vT x = 0 := by
  unfold encE at h
  split at h
  · omega
  · exact ⟨by omega, by omega, chkT_all h⟩

/-! ## their objects -/
def hdrF (x : Tm) (r : F) : F :=
  .cons 129 (octL x.k.toNat 1) .nil (.cons 130 (octL x.p.toNat 1) .nil (.cons 131 (octL x.f.toNat 4) .nil (.cons 132 (octL x.t.toNat 4) .nil (.cons 133 (octL x.q.toNat 1) .nil (.cons 136 (octL x.fo.toNat 2) .nil r)))))
def objK (x : Tm) : F := .cons 161 [] (hdrF x .nil) (.cons 24366 x.d .nil .nil)
def objsF : List Tm → F
  | [] => .nil
  | x :: r => .cons 32608 [] (objK x) (objsF r)
def listK (l : List Tm) : F := .cons 2 (octL l.length 1) .nil (objsF l)
def listF (l : List Tm) : F := .cons 32609 [] (listK l) .nil
def encF (l : List Tm) : F := if encE l = 0 then listF l else .nil
theorem objs_len : ∀ l : List Tm, (objsF l).len = l.length
  | [] => rfl
  | _ :: r => by simp only [objsF, F.len, List.length_cons]; rw [objs_len r]
theorem objs_snoc : ∀ (l : List Tm) (x : Tm), objsF (l ++ [x]) = (objsF l).app (.cons 32608 [] (objK x) .nil)
  | [], x => rfl
  | y :: r, x => by simp only [List.cons_append, objsF, F.app]; rw [objs_snoc r x]
theorem objs_size : ∀ l : List Tm, (objsF l).size = 9 * l.length
  | [] => rfl
  | y :: r => by simp only [objsF, F.size, List.length_cons, objK, hdrF]; rw [objs_size r]; omega
theorem listF_size (l : List Tm) : (listF l).size = 9 * l.length + 2 := by simp only [listF, listK, F.size, objs_size]; omega
theorem listF_ok {l : List Tm} (h : ∀ x ∈ l, x.d.length ≤ 140737488351232) : (listF l).ok := by
  have ho : ∀ n s : Nat, s ≤ 4 → (octL n s).length ≤ 140737488351232 := fun n s hs => by rw [octL_length]; omega
  have g : (objsF l).ok := by
    induction l with
    | nil => trivial
    | cons y r ih =>
      refine ⟨by decide, Nat.zero_le _, ⟨by decide, Nat.zero_le _, ?_, by decide, h y (List.mem_cons_self ..), trivial, trivial⟩, ih fun x hx => h x (List.mem_cons_of_mem _ hx)⟩
      exact ⟨by decide, ho _ _ (by decide), trivial, by decide, ho _ _ (by decide), trivial, by decide, ho _ _ (by decide), trivial, by decide, ho _ _ (by decide), trivial, by decide, ho _ _ (by decide), trivial, by decide, ho _ _ (by decide), trivial, trivial⟩
  exact ⟨by decide, Nat.zero_le _, ⟨by decide, ho _ _ (by decide), trivial, g⟩, trivial⟩

/-! ## reading objects -/
def hdrTags : List (Int × Nat) := [(129, 1), (130, 1), (131, 4), (132, 4), (133, 1), (136, 2)]
def numT : List (Int × Nat) → F → Option (List Nat)
  | [], .nil => some []
  | (t, s) :: r, .cons t' v k g => if t' = t ∧ k.len = 0 ∧ v.length = s then (numT r g).map (numL v :: ·) else none
  | _, _ => none
def tmOf (n : List Nat) (d : List UInt8) : Tm := ⟨n.getD 0 0, n.getD 1 0, n.getD 2 0, n.getD 3 0, n.getD 5 0, n.getD 4 0, d⟩
def hdrT (t : Int) (v : List UInt8) (k : F) : Option (List Nat) := if t = 161 ∧ v.length = 0 then numT hdrTags k else none
def tmT (t : Int) (v : List UInt8) : F → Option Tm
  | .cons th vh kh (.cons td vd kd .nil) => if t = 32608 ∧ v.length = 0 ∧ td = 24366 ∧ kd.len = 0 then (hdrT th vh kh).map (tmOf · vd) else none
  | _ => none
def tmsT : F → Option (List Tm)
  | .nil => some []
  | .cons t v k r => match tmT t v k with
    | none => none
    | some x => (tmsT r).map (x :: ·)
def lstT : F → Option (List Tm)
  | .cons t v (.cons tc vc kc g) .nil => if t = 32609 ∧ v.length = 0 ∧ tc = 2 ∧ kc.len = 0 ∧ vc.length = 1 ∧ numL vc = g.len then tmsT g else none
  | _ => none
def decE (f : F) : Int := match lstT f with
  | none => 1
  | some l => encE l
def decV (f : F) : List Tm := match lstT f with
  | none => []
  | some l => if encE l = 0 then l else []
theorem numT_len : ∀ {ts : List (Int × Nat)} {f : F} {l : List Nat}, numT ts f = some l → l.length = ts.length ∧ f.len = ts.length
  | [], .nil, l, h => by cases h; exact ⟨rfl, rfl⟩
  | [], .cons _ _ _ _, l, h => by cases h
  | (t, s) :: r, .nil, l, h => by cases h
  | (t, s) :: r, .cons t' v k g, l, h => by
    unfold numT at h
    split at h
    · rw [Option.map_eq_some_iff] at h
      obtain ⟨l', h1, rfl⟩ := h
      obtain ⟨h2, h3⟩ := numT_len h1
      exact ⟨by simp [h2], by simp [F.len, h3]⟩
    · cases h
theorem tmsT_len : ∀ {f : F} {l : List Tm}, tmsT f = some l → l.length = f.len
  | .nil, l, h => by cases h; rfl
  | .cons t v k r, l, h => by
    unfold tmsT at h
    split at h
    · cases h
    · rw [Option.map_eq_some_iff] at h
      obtain ⟨l', h1, rfl⟩ := h
      simp only [List.length_cons, F.len, tmsT_len h1]

/-! ## how they lie in memory -/
/-- at the place k of the cells vs stands the template x; its Data in blocks of which p holds -/
def TmIn (w : World) (p : Nat → Prop) (vs : List Value) (k : Nat) (x : Tm) : Prop :=
  ∃ A c, ((A = none → c = 0) ∧ x.d.length ≤ c) ∧ SeesP w p A (Us x.d) ∧ ∀ j, j < 7 → vs[k * 7 + j]? = (x.cs A c)[j]?
def TmsIn (w : World) (p : Nat → Prop) (vs : List Value) (l : List Tm) : Prop := vs.length = 7 * l.length ∧ ∀ (k : Nat) (x : Tm), l[k]? = some x → TmIn w p vs k x
def SeesT (w : World) (p : Nat → Prop) (A : Option Addr) (l : List Tm) : Prop := ∃ vs, SeesP w p A vs ∧ TmsIn w p vs l
section
variable {w w' : World} {p p' : Nat → Prop} {A : Option Addr} {vs : List Value} {l : List Tm} {k : Nat} {x : Tm}
theorem TmIn.keep (h : TmIn w p vs k x) (hk : ∀ q : Addr, p q.block → w'.cell? q = w.cell? q) : TmIn w' p vs k x := by
  obtain ⟨A, c, h0, h1, h2⟩ := h
  exact ⟨A, c, h0, h1.keep hk, h2⟩
theorem TmIn.imp (h : TmIn w p vs k x) (hp : ∀ b, p b → p' b) : TmIn w p' vs k x := by
  obtain ⟨A, c, h0, h1, h2⟩ := h
  exact ⟨A, c, h0, h1.imp hp, h2⟩
theorem TmsIn.keep (h : TmsIn w p vs l) (hk : ∀ q : Addr, p q.block → w'.cell? q = w.cell? q) : TmsIn w' p vs l := ⟨h.1, fun k x hx => (h.2 k x hx).keep hk⟩
theorem TmsIn.imp (h : TmsIn w p vs l) (hp : ∀ b, p b → p' b) : TmsIn w p' vs l := ⟨h.1, fun k x hx => (h.2 k x hx).imp hp⟩
theorem SeesT.keep (h : SeesT w p A l) (hk : ∀ q : Addr, p q.block → w'.cell? q = w.cell? q) : SeesT w' p A l := by
  obtain ⟨cs, h1, h2⟩ := h
  exact ⟨cs, h1.keep hk, h2.keep hk⟩
theorem SeesT.imp (h : SeesT w p A l) (hp : ∀ b, p b → p' b) : SeesT w p' A l := by
  obtain ⟨cs, h1, h2⟩ := h
  exact ⟨cs, h1.imp hp, h2.imp hp⟩
theorem SeesT.on (h : SeesT w (· < w.heap.size) A l) (hb : Below w.heap.size w w') : SeesT w' (· < w'.heap.size) A l :=
  (h.keep fun _ hq => hb.cell hq).imp fun _ hb2 => Nat.lt_of_lt_of_le hb2 hb.size
theorem SeesT.newOn {w1 w2 : World} (h : SeesT w1 (newB w w1) A l) (hb : Below w1.heap.size w1 w2) : SeesT w2 (newB w w2) A l :=
  (h.keep fun q hq => hb.cell hq.2).imp fun b h => ⟨h.1, Nat.lt_of_lt_of_le h.2 hb.size⟩
theorem SeesT.nil_ : SeesT w p A [] := ⟨[], .inl rfl, rfl, fun k x h => by simp at h⟩
/-- the template at k -/
theorem tm_at (h : SeesT w p A l) (hx : l[k]? = some x) : ∃ b off Ad c, A = some ⟨b, off, none⟩ ∧ p b ∧ w.rangeAt b (off + k * 7) (x.cs Ad c) ∧ (Ad = none → c = 0) ∧ x.d.length ≤ c ∧ SeesP w p Ad (Us x.d) := by
  obtain ⟨vs, h1, h2, h3⟩ := h
  obtain ⟨Ad, c, h0, h4, h5⟩ := h3 k x hx
  have hk := (List.getElem?_eq_some_iff.1 hx).1
  rcases h1 with h1 | ⟨b, off, rfl, hb, hc⟩
  · subst h1; simp at h2; omega
  · refine ⟨b, off, Ad, c, rfl, hb, fun j u hu => ?_, h0.1, h0.2, h4⟩
    have hj : j < 7 := by
      have := (List.getElem?_eq_some_iff.1 hu).1
      simpa [Tm.cs] using this
    rw [Nat.add_assoc, hc _ (by omega), h5 j hj, hu]
theorem TmsIn.nil_ : TmsIn w p [] [] := ⟨rfl, fun k x h => by simp at h⟩
theorem TmsIn.snoc {Ad : Option Addr} {c : Nat} (h : TmsIn w p vs l) (h0 : (Ad = none → c = 0) ∧ x.d.length ≤ c) (hs : SeesP w p Ad (Us x.d)) : TmsIn w p (vs ++ x.cs Ad c) (l ++ [x]) := by
  refine ⟨by simp [h.1, Tm.cs]; omega, fun k y hy => ?_⟩
  rw [List.getElem?_append] at hy
  split at hy
  · rename_i hk
    obtain ⟨A', c', g0, g1, g2⟩ := h.2 k y hy
    refine ⟨A', c', g0, g1, fun j hj => ?_⟩
    rw [List.getElem?_append, if_pos (by rw [h.1]; omega)]
    exact g2 j hj
  · rename_i hk
    have h1 : k - l.length = 0 := by
      have := (List.getElem?_eq_some_iff.1 hy).1
      simpa using this
    rw [h1] at hy
    injection hy with hy
    subst hy
    refine ⟨Ad, c, h0, hs, fun j hj => ?_⟩
    rw [List.getElem?_append, if_neg (by rw [h.1]; omega), h.1]
    congr 1
    omega
end
end Go.Proofs.Ytobbnedojmcgoaa
