/-
  What is proved here: what the statement TlvEncodes, as a function, returns for objects and a path that lie in memory: true.
-/
import Derived.Test.YtipmmclahngabaaFnp
import Derived.Test.YtipmmclahngabaaREnc
import Derived.Test.YtipmmclahngabaaSame
import Derived.Test.YtipmmclahngabaaAwt
namespace Go.Proofs.Ytipmmclahngabaa
open Go.RowKit
set_option linter.unusedVariables false

theorem encB_max (f : F) : (encB f).length ≤ 4096 := by
  unfold encB
  split
  · rename_i h
    unfold encE at h
    rw [enc_length]
    split at h
    · contradiction
    · split at h
      · contradiction
      · split at h
        · contradiction
        · omega
  · simp
/-- one object in a block of its own -/
theorem sees_one {w : World} {g : Nat} {t : Int} {v : List UInt8} {k : F} {Av Ak : Option Addr} {cv ck : Nat} (hg : w.heap[g]? = some (.cells #[.int .i64 t, .slice Av v.length cv, .slice Ak k.len ck] 32 (0, 0)))
    (h0 : Av = none → cv = 0) (hv : SeesP w (· < w.heap.size) Av (Us v)) (hk : SeesF w (· < w.heap.size) Ak k) : SeesF w (· < w.heap.size) (some ⟨g, 0, none⟩) (.cons t v k .nil) := by
  obtain ⟨ks, s1, s2⟩ := hk
  refine ⟨[.int .i64 t, .slice Av v.length cv, .slice Ak k.len ck], .inr ⟨g, 0, rfl, lt_of_block hg, fun j hj => ?_⟩, Av, cv, Ak, ck, ks, [], rfl, h0, hv, s1, s2, rfl⟩
  rw [Nat.zero_add, cell_of_row w g j _ _ _ hg]
  simp

theorem at_ok : ∀ (path : List Int) (f : F) {t : Int} {v : List UInt8} {k : F}, f.ok → F.at f path = some (t, v, k) → (-9223372036854775808 ≤ t ∧ t ≤ 9223372036854775807) ∧ v.length ≤ 140737488351232 ∧ k.ok ∧ k.size ≤ f.size := by
  intro path
  induction path with
  | nil => intro f t v k hok h; rw [at_nil] at h; cases h
  | cons x ps ih =>
    intro f
    induction f with
    | nil => intro t v k hok h; rw [at_nilF] at h; cases h
    | cons t0 v0 k0 r0 ihk ihr =>
      intro t v k hok h
      by_cases e : t0 = x
      · cases ps with
        | nil =>
          rw [at_hit1 e] at h
          simp only [Option.some.injEq, Prod.mk.injEq] at h
          obtain ⟨rfl, rfl, rfl⟩ := h
          exact ⟨hok.1, hok.2.1, hok.2.2.1, by simp only [F.size]; omega⟩
        | cons y ps =>
          rw [at_hit2 e] at h
          obtain ⟨a, b, c, d⟩ := ih k0 hok.2.2.1 h
          exact ⟨a, b, c, by simp only [F.size]; omega⟩
      · rw [at_miss e] at h
        obtain ⟨a, b, c, d⟩ := ihr hok.2.2.2 h
        exact ⟨a, b, c, by simp only [F.size]; omega⟩

/-- the object that Find answers, or the empty one -/
def objO (o : Option (Int × List UInt8 × F)) : Int × List UInt8 × F := o.getD (0, [], .nil)
theorem FindW.obj {w w' : World} {o : Option (Int × List UInt8 × F)} {e : Ending} (h : FindW w o e w') :
    ∃ Av cv Ak ck, e = .returned (.tuple #[.agg #[.int .i64 (objO o).1, .slice Av (objO o).2.1.length cv, .slice Ak (objO o).2.2.len ck], .bool o.isSome]) ∧ (Av = none → cv = 0) ∧ SeesP w' (· < w'.heap.size) Av (Us (objO o).2.1) ∧ SeesF w' (· < w'.heap.size) Ak (objO o).2.2 ∧ Below w.heap.size w w' := by
  obtain ⟨hor, hb⟩ := h
  rcases hor with ⟨rfl, rfl⟩ | ⟨t, v, k, Av, cv, Ak, ck, rfl, rfl, h0, h1, h2⟩
  · exact ⟨none, 0, none, 0, rfl, fun _ => rfl, .inl rfl, SeesF.nil_, hb⟩
  · exact ⟨Av, cv, Ak, ck, rfl, h0, h1, h2, hb⟩
theorem objO_ok {path : List Int} {f : F} (hok : f.ok) : (-9223372036854775808 ≤ (objO (F.at f path)).1 ∧ (objO (F.at f path)).1 ≤ 9223372036854775807) ∧ (objO (F.at f path)).2.1.length ≤ 140737488351232 ∧ (objO (F.at f path)).2.2.ok ∧ (objO (F.at f path)).2.2.size ≤ f.size := by
  cases h : F.at f path with
  | none => simp [objO, F.ok, F.size]
  | some y =>
    obtain ⟨t, v, k⟩ := y
    exact at_ok path f hok h

set_option maxRecDepth 20000 in
set_option maxHeartbeats 4000000 in
theorem law_encodes (path : List Int) (f : F) (A Ap : Option Addr) (c cp : Nat) (w : World) (hok : f.ok) (hsz : f.size ≤ 1048576) (hlp : path.length ≤ 140737488351232) (hcp : path.length ≤ cp)
    (hs : SeesQ w (· < w.heap.size) A f) (hps : SeesP w (· < w.heap.size) Ap (path.map (Value.int .i64))) :
    Calls Try.prog 4 #[.slice A f.len c, .slice Ap path.length cp] w fun e w' => e = .returned (.bool true) ∧ Below w.heap.size w w' := by
  have hlf := f.len_le_size
  have hfl : ∀ g : F, g.size ≤ f.size → g.len ≤ 140737488351232 := fun g hg => by have := g.len_le_size; omega
  have SH := Lib.hid (law_shallow 12 (by decide) f A c w (· < w.heap.size) (by omega) hok hfl hs.sees)
  have HS := Lib.hid (show SeesQ w (· < w.heap.size) A f ∧ SeesP w (· < w.heap.size) Ap (path.map (Value.int .i64)) ∧ f.ok from ⟨hs, hps, hok⟩)
  obtain ⟨pn, hpn⟩ : ∃ pn, pn = path.length := ⟨_, rfl⟩
  rw [← hpn] at hlp hcp ⊢
  have HPN := Lib.hid hpn
  have HFL := Lib.hid hfl
  clear hs hps hok hfl hpn
  by_cases hb : shB f 12 = true
  · have hdep := shB_dep hb
    have SQ := Lib.hid (shB_sq hb)
    have hs := SH.out
    unfold IsB at hs
    rw [hb] at hs
    have SH2 := Lib.hid hs
    clear hs SH hb
    go_enter Try.func4, Try.ntmps4
    go_wp2_with fail
    have e12 : ((12 : Nat) : Int) = 12 := rfl
    have h12 := SH2.out
    rw [e12] at h12
    refine h12.mono ?_
    clear e12 h12 SH2
    rintro e w' ⟨rfl, rfl⟩
    go_wp2_with fail
    refine (tlv_encode_n f A c w' (by omega) HS.out.2.2 HS.out.1.sees).mono ?_
    rintro e w1 ⟨A1, c1, rfl, s1, b1, _⟩
    have B1 := Lib.hid b1
    have X1 := Lib.hid (show SeesP w1 (· < w1.heap.size) A1 (Us (encB f)) from s1.imp fun b hb => hb.2)
    clear s1 b1
    go_wp2_with fail
    refine (ref_encode_q f A c w1 (by omega) HS.out.2.2 SQ.out (HS.out.1.on B1.out)).mono ?_
    rintro e w2 ⟨A2, c2, rfl, s2, b2, _, _⟩
    have B2 := Lib.hid (below_on B1.out b2)
    have X2 := Lib.hid (show SeesP w2 (· < w2.heap.size) A1 (Us (encB f)) from Sees.on X1.out b2)
    have Y2 := Lib.hid (show SeesP w2 (· < w2.heap.size) A2 (Us (encB f)) from s2.imp fun b hb => hb.2)
    clear s2 b2 X1
    have hf1 := tlv_find path f A Ap c cp w2 (· < w2.heap.size) (· < w2.heap.size) HS.out.2.2 hsz (by omega) (by rw [← HPN.out]; exact hlp) (fun b hb => hb) (fun b hb => hb) (HS.out.1.sees.on B2.out) (Sees.on HS.out.2.1 B2.out)
    rw [← HPN.out] at hf1
    have HF1 := Lib.hid hf1
    clear hf1
    go_wp2_with fail
    refine HF1.out.mono ?_
    rintro e w3 hfw
    obtain ⟨Av3, cv3, Ak3, ck3, rfl, n3, v3, k3, b3⟩ := hfw.obj
    have ho := objO_ok (path := path) HS.out.2.2
    obtain ⟨t, ht⟩ : ∃ t, t = (objO (F.at f path)).1 := ⟨_, rfl⟩
    obtain ⟨v, hv⟩ : ∃ v, v = (objO (F.at f path)).2.1 := ⟨_, rfl⟩
    obtain ⟨k, hk⟩ : ∃ k, k = (objO (F.at f path)).2.2 := ⟨_, rfl⟩
    obtain ⟨ok, hokb⟩ : ∃ ok, ok = (F.at f path).isSome := ⟨_, rfl⟩
    rw [← ht, ← hv, ← hk] at ho
    rw [← hv] at v3
    rw [← hk] at k3
    rw [← ht, ← hv, ← hk, ← hokb]
    have HO := Lib.hid ho
    have HE := Lib.hid (And.intro ht (And.intro hv (And.intro hk hokb)))
    have V3 := Lib.hid (And.intro n3 (And.intro v3 k3))
    clear hfw ho ht hv hk hokb n3 v3 k3
    have B3 := Lib.hid (below_on B2.out b3)
    have X3 := Lib.hid (show SeesP w3 (· < w3.heap.size) A1 (Us (encB f)) from Sees.on X2.out b3)
    have Y3 := Lib.hid (show SeesP w3 (· < w3.heap.size) A2 (Us (encB f)) from Sees.on Y2.out b3)
    clear b3 X2 Y2 HF1
    have hb3 : Below w3.heap.size w3 (w3.alloc (.cells #[.int .i64 t, .slice Av3 v.length cv3, .slice Ak3 k.len ck3] 32)) := (Below.refl _ _).alloc (Nat.le_refl _) _
    obtain ⟨w3a, hw3a⟩ : ∃ w3a, w3a = w3.alloc (.cells #[.int .i64 t, .slice Av3 v.length cv3, .slice Ak3 k.len ck3] 32) := ⟨_, rfl⟩
    have hbl : w3a.heap[w3.heap.size]? = some (.cells #[.int .i64 t, .slice Av3 v.length cv3, .slice Ak3 k.len ck3] 32 (0, 0)) := by rw [hw3a]; exact heap_alloc_new _ _
    rw [← hw3a] at hb3
    have XB := Lib.hid hbl
    have BA := Lib.hid (below_on B3.out hb3)
    have XA := Lib.hid (show SeesP w3a (· < w3a.heap.size) A1 (Us (encB f)) from Sees.on X3.out hb3)
    have YA := Lib.hid (show SeesP w3a (· < w3a.heap.size) A2 (Us (encB f)) from Sees.on Y3.out hb3)
    have VA := Lib.hid (show SeesP w3a (· < w3a.heap.size) Av3 (Us v) ∧ SeesF w3a (· < w3a.heap.size) Ak3 k from ⟨Sees.on V3.out.2.1 hb3, V3.out.2.2.on hb3⟩)
    have hr := ref_find path f A Ap c cp w3a (· < w3a.heap.size) (· < w3a.heap.size) HS.out.2.2 (by omega) (by rw [← HPN.out]; omega) (by rw [← HPN.out]; exact hcp) (fun b hb => hb) (fun b hb => hb) HFL.out (HS.out.1.sees.on BA.out) (Sees.on HS.out.2.1 BA.out)
    rw [← HPN.out] at hr
    have HR := Lib.hid hr
    have HW3 := Lib.hid hw3a
    clear hbl hb3 hr hw3a
    go_wp2_with fail
    rw [← HW3.out]
    refine HR.out.mono ?_
    rintro e w4 hfi
    have hfw := hfi.wide fun b hb => hb
    obtain ⟨Av4, cv4, Ak4, ck4, rfl, n4, v4, k4, b4⟩ := hfw.obj
    rw [← HE.out.2.1] at v4
    rw [← HE.out.2.2.1] at k4
    rw [← HE.out.1, ← HE.out.2.1, ← HE.out.2.2.1, ← HE.out.2.2.2]
    have V4 := Lib.hid (And.intro n4 (And.intro v4 k4))
    have B4 := Lib.hid (below_on BA.out b4)
    have X4 := Lib.hid (show SeesP w4 (· < w4.heap.size) A1 (Us (encB f)) from Sees.on XA.out b4)
    have Y4 := Lib.hid (show SeesP w4 (· < w4.heap.size) A2 (Us (encB f)) from Sees.on YA.out b4)
    have XB4 := Lib.hid ((b4.block _ (lt_of_block XB.out)).trans XB.out)
    have VA4 := Lib.hid (show SeesP w4 (· < w4.heap.size) Av3 (Us v) ∧ SeesF w4 (· < w4.heap.size) Ak3 k from ⟨Sees.on VA.out.1 b4, VA.out.2.on b4⟩)
    clear hfi hfw n4 v4 k4 b4 HR XA YA VA XB X3 Y3 HW3
    have hb4 : Below w4.heap.size w4 (w4.alloc (.cells #[.int .i64 t, .slice Av4 v.length cv4, .slice Ak4 k.len ck4] 32)) := (Below.refl _ _).alloc (Nat.le_refl _) _
    obtain ⟨w4a, hw4a⟩ : ∃ w4a, w4a = w4.alloc (.cells #[.int .i64 t, .slice Av4 v.length cv4, .slice Ak4 k.len ck4] 32) := ⟨_, rfl⟩
    have hbl : w4a.heap[w4.heap.size]? = some (.cells #[.int .i64 t, .slice Av4 v.length cv4, .slice Ak4 k.len ck4] 32 (0, 0)) := by rw [hw4a]; exact heap_alloc_new _ _
    rw [← hw4a] at hb4
    have HW4 := Lib.hid hw4a
    have HBL := Lib.hid hbl
    have HB4 := Lib.hid hb4
    clear hb4 hw4a hbl
    go_wp2_with fail
    rw [← HW4.out]
    refine (awake w4a).mono ?_
    rintro e w5 ⟨rfl, b5⟩
    have b45 : Below w4.heap.size w4 w5 := below_on HB4.out b5
    have B5 := Lib.hid (below_on B4.out b45)
    have x5 : SeesP w5 (· < w5.heap.size) A1 (Us (encB f)) := Sees.on X4.out b45
    have y5 : SeesP w5 (· < w5.heap.size) A2 (Us (encB f)) := Sees.on Y4.out b45
    have XB5 := Lib.hid ((b45.block _ (lt_of_block XB4.out)).trans XB4.out)
    have YB5 := Lib.hid ((b5.block _ (lt_of_block HBL.out)).trans HBL.out)
    have VX5 := Lib.hid (show SeesP w5 (· < w5.heap.size) Av3 (Us v) ∧ SeesF w5 (· < w5.heap.size) Ak3 k from ⟨Sees.on VA4.out.1 b45, VA4.out.2.on b45⟩)
    have VY5 := Lib.hid (show SeesP w5 (· < w5.heap.size) Av4 (Us v) ∧ SeesF w5 (· < w5.heap.size) Ak4 k from ⟨Sees.on V4.out.2.1 b45, V4.out.2.2.on b45⟩)
    obtain ⟨sx, hsx⟩ : ∃ sx, sx = S (encB f) := ⟨_, rfl⟩
    have v1 : (convert 27 9 (.slice A1 (encB f).length c1)).run Try.prog w5 = .ok (.string sx) w5 := by rw [hsx]; exact conv_drew x5 c1 0
    have v2 : (convert 27 9 (.slice A2 (encB f).length c2)).run Try.prog w5 = .ok (.string sx) w5 := by rw [hsx]; exact conv_drew y5 c2 0
    have cx0 : w5.cell? ⟨w3.heap.size, 0, none⟩ = some (.int .i64 t) := cell_of_row w5 w3.heap.size 0 _ _ _ XB5.out
    have cx1 : w5.cell? ⟨w3.heap.size, 1, none⟩ = some (.slice Av3 v.length cv3) := cell_of_row w5 w3.heap.size 1 _ _ _ XB5.out
    have cx2 : w5.cell? ⟨w3.heap.size, 2, none⟩ = some (.slice Ak3 k.len ck3) := cell_of_row w5 w3.heap.size 2 _ _ _ XB5.out
    have cy0 : w5.cell? ⟨w4.heap.size, 0, none⟩ = some (.int .i64 t) := cell_of_row w5 w4.heap.size 0 _ _ _ YB5.out
    have cy1 : w5.cell? ⟨w4.heap.size, 1, none⟩ = some (.slice Av4 v.length cv4) := cell_of_row w5 w4.heap.size 1 _ _ _ YB5.out
    have cy2 : w5.cell? ⟨w4.heap.size, 2, none⟩ = some (.slice Ak4 k.len ck4) := cell_of_row w5 w4.heap.size 2 _ _ _ YB5.out
    have lx5 : w3.heap.size < w5.heap.size := lt_of_block XB5.out
    have ly5 : w4.heap.size < w5.heap.size := lt_of_block YB5.out
    have eb : ((encE f) == (encE f)) = true := by simp
    have e2 : (sx.toList == sx.toList) = true := by simp
    have e3 : (ok == ok) = true := by simp
    have N34 := Lib.hid (And.intro V3.out.1 V4.out.1)
    clear b5 b45 x5 y5 hsx HW4 HBL HB4 X4 Y4 XB4 VA4 V4 V3 HE
    go_wp2_with fail
    have hS := fun (w7 : World) (hb7 : Below w5.heap.size w5 w7) (g1 g2 : Nat) (h1 : w7.heap[g1]? = some (.cells #[.int .i64 t, .slice Av3 v.length cv3, .slice Ak3 k.len ck3] 32 (0, 0))) (h2 : w7.heap[g2]? = some (.cells #[.int .i64 t, .slice Av4 v.length cv4, .slice Ak4 k.len ck4] 32 (0, 0))) =>
      same_yes 1048579 (by decide) (.cons t v k .nil) (some ⟨g1, 0, none⟩) (some ⟨g2, 0, none⟩) 1 1 w7 (· < w7.heap.size) (· < w7.heap.size) (by have := HO.out.2.2.2; simp only [F.size]; omega) ⟨HO.out.1, HO.out.2.1, HO.out.2.2.1, trivial⟩
        (sees_one h1 N34.out.1 (Sees.on VX5.out.1 hb7) (VX5.out.2.on hb7)) (sees_one h2 N34.out.2 (Sees.on VY5.out.1 hb7) (VY5.out.2.on hb7))
    have e1 : (F.cons t v k .nil).len = 1 := rfl
    simp only [e1] at hS
    refine Calls.mono (hS _ (((Below.refl _ _).alloc (Nat.le_refl _) _).alloc (by simp) _) _ _ (block_alloc (heap_alloc_new w5 _) _) (block_next w5 _ _)) ?_
    rintro e w8 ⟨rfl, q, hq⟩
    have HB8 : Hid (Below w'.heap.size w' w8) := Lib.hid (by
      rw [hq]
      exact below_dn ((B5.out.alloc B5.out.size _).alloc (by have := B5.out.size; simp; omega) _) q)
    clear hS hq
    go_wp2_with fail
    go_ret
    exact ⟨rfl, HB8.out⟩
  · have hb : shB f 12 = false := by simpa using hb
    have hs := SH.out
    unfold IsB at hs
    rw [hb] at hs
    have SH2 := Lib.hid hs
    clear hs SH hb HS
    go_enter Try.func4, Try.ntmps4
    go_wp2_with fail
    have e12 : ((12 : Nat) : Int) = 12 := rfl
    have h12 := SH2.out
    rw [e12] at h12
    refine h12.mono ?_
    clear e12 h12 SH2
    rintro e wq ⟨rfl, rfl⟩
    go_wp2_with fail
    refine (awake _).mono ?_
    rintro e w1 ⟨rfl, hb⟩
    have HB := Lib.hid hb
    clear hb
    go_wp2
    go_ret
    exact ⟨rfl, HB.out⟩

end Go.Proofs.Ytipmmclahngabaa
