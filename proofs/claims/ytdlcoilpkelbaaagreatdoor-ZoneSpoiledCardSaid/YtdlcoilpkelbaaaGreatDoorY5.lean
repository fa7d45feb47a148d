/-
  What is proved here: the texts of a zone's fields, as the program puts them into a map, in whatever order it does so.
  And: the texts of a zone's fields, as the program gathers them in a map.
  And: the first error of a zone, as the program finds it.
-/
import Derived.Test.YtdlcoilpkelbaaaGreatDoorY3
import Derived.Test.YtdlcoilpkelbaaaGreatDoorOs
import Derived.Test.YtdlcoilpkelbaaaGreatDoorY2
import Derived.Test.YtdlcoilpkelbaaaGreatDoorZb
import Derived.Test.YtdlcoilpkelbaaaGreatDoorY1
namespace Go.Proofs.YtdlcoilpkelbaaaGreatDoor
open Go.RowKit Go.Maps
set_option linter.unusedVariables false

def zV (z : Zn) : List Value := [.int .i64 z.fm, .string (S z.kd), .string (S z.st), .string (S z.su), .string (S z.gi), .string (S z.nu), .string (S z.na), .string (S z.bi), .string (S z.sx), .string (S z.ex), .string (S z.op), .string (S z.se)]
theorem fa_z0 (g : Nat) (w : World) : (Instr.fieldAt 23 (.pointer (some ⟨g, 0, none⟩)) 0).run Tryz.prog w = .ok (.pointer (some ⟨g, 0, none⟩)) w := by kernel_rfl
theorem fa_z1 (g : Nat) (w : World) : (Instr.fieldAt 23 (.pointer (some ⟨g, 0, none⟩)) 1).run Tryz.prog w = .ok (.pointer (some ⟨g, 1, none⟩)) w := by kernel_rfl
theorem fa_z2 (g : Nat) (w : World) : (Instr.fieldAt 23 (.pointer (some ⟨g, 0, none⟩)) 2).run Tryz.prog w = .ok (.pointer (some ⟨g, 2, none⟩)) w := by kernel_rfl
theorem fa_z3 (g : Nat) (w : World) : (Instr.fieldAt 23 (.pointer (some ⟨g, 0, none⟩)) 3).run Tryz.prog w = .ok (.pointer (some ⟨g, 3, none⟩)) w := by kernel_rfl
theorem fa_z4 (g : Nat) (w : World) : (Instr.fieldAt 23 (.pointer (some ⟨g, 0, none⟩)) 4).run Tryz.prog w = .ok (.pointer (some ⟨g, 4, none⟩)) w := by kernel_rfl
theorem fa_z5 (g : Nat) (w : World) : (Instr.fieldAt 23 (.pointer (some ⟨g, 0, none⟩)) 5).run Tryz.prog w = .ok (.pointer (some ⟨g, 5, none⟩)) w := by kernel_rfl
theorem fa_z6 (g : Nat) (w : World) : (Instr.fieldAt 23 (.pointer (some ⟨g, 0, none⟩)) 6).run Tryz.prog w = .ok (.pointer (some ⟨g, 6, none⟩)) w := by kernel_rfl
theorem fa_z7 (g : Nat) (w : World) : (Instr.fieldAt 23 (.pointer (some ⟨g, 0, none⟩)) 7).run Tryz.prog w = .ok (.pointer (some ⟨g, 7, none⟩)) w := by kernel_rfl
theorem fa_z8 (g : Nat) (w : World) : (Instr.fieldAt 23 (.pointer (some ⟨g, 0, none⟩)) 8).run Tryz.prog w = .ok (.pointer (some ⟨g, 8, none⟩)) w := by kernel_rfl
theorem fa_z9 (g : Nat) (w : World) : (Instr.fieldAt 23 (.pointer (some ⟨g, 0, none⟩)) 9).run Tryz.prog w = .ok (.pointer (some ⟨g, 9, none⟩)) w := by kernel_rfl
theorem fa_z10 (g : Nat) (w : World) : (Instr.fieldAt 23 (.pointer (some ⟨g, 0, none⟩)) 10).run Tryz.prog w = .ok (.pointer (some ⟨g, 10, none⟩)) w := by kernel_rfl
theorem fa_z11 (g : Nat) (w : World) : (Instr.fieldAt 23 (.pointer (some ⟨g, 0, none⟩)) 11).run Tryz.prog w = .ok (.pointer (some ⟨g, 11, none⟩)) w := by kernel_rfl
/-! ## how many operations have been carried out -/
def cntS (S : Nat → Bool) : Nat → Nat
  | 0 => 0
  | m + 1 => cntS S m + if S m then 1 else 0
theorem cnt_le (S : Nat → Bool) : ∀ m, cntS S m ≤ m
  | 0 => Nat.le_refl _
  | m + 1 => by have := cnt_le S m; unfold cntS; split <;> omega
theorem cnt_mono {S S' : Nat → Bool} (h : ∀ j, S j = true → S' j = true) : ∀ m, cntS S m ≤ cntS S' m
  | 0 => Nat.le_refl _
  | m + 1 => by
    have := cnt_mono h m
    unfold cntS
    by_cases e : S m = true
    · rw [if_pos e, if_pos (h m e)]; omega
    · rw [if_neg e]; omega
theorem cnt_out {S : Nat → Bool} {i : Nat} : ∀ m, m ≤ i → cntS (fun j => S j || j == i) m = cntS S m
  | 0, _ => rfl
  | m + 1, h => by
    have hm : m ≠ i := by omega
    unfold cntS
    rw [cnt_out m (by omega)]
    simp [hm]
theorem cnt_add {S : Nat → Bool} {i : Nat} (hS : S i = false) : ∀ m, i < m → cntS (fun j => S j || j == i) m = cntS S m + 1
  | 0, h => by omega
  | m + 1, h => by
    unfold cntS
    by_cases e : m = i
    · subst e
      rw [cnt_out m (Nat.le_refl _), hS]
      simp
    · rw [cnt_add hS m (by omega)]
      simp [e]
      omega
/-! ## a map that is filled in whatever order -/
def InsW (w : World) (L : List (Nat × List Value)) (T : Nat → List UInt8) (ins : Nat → Nat) (g : Nat) (S : Nat → Bool) (cur : World) : Prop :=
  Own w cur L ∧ (S 0 = true → ∃ n, n ≤ cntS S 40 ∧ OwnM w cur L g n (fun k => if ins k < 40 ∧ S (ins k) = true then T k else []))
theorem OwnM.from {w cur : World} {L : List (Nat × List Value)} {b n : Nat} {T T' : Nat → List UInt8} (h : OwnM w cur L b n T) (e : T = T') : OwnM w cur L b n T' := e ▸ h
section
variable {w cur cur' : World} {L : List (Nat × List Value)} {T : Nat → List UInt8} {ins : Nat → Nat} {g i : Nat} {S : Nat → Bool}
theorem InsW.skip (h : InsW w L T ins g S cur) (hb : Below cur.heap.size cur cur') (h0 : i ≠ 0) (hi : ∀ k, k < 15 → ins k ≠ i) : InsW w L T ins g (fun j => S j || j == i) cur' := by
  refine ⟨h.1.on hb, fun hs => ?_⟩
  have hs' : S 0 = true := by simpa [Ne.symm h0] using hs
  obtain ⟨n, hn, ho⟩ := h.2 hs'
  refine ⟨n, Nat.le_trans hn (cnt_mono (fun j hj => by simp [hj]) 40), (ho.on hb).ext fun k hk => ?_⟩
  have := hi k hk
  simp [this]
theorem InsW.mk (h : InsW w L T ins g S cur) (h0 : S 0 = false) (hi : ∀ k, k < 15 → ins k < 40 → S (ins k) = false ∧ ins k ≠ 0) : InsW w L T ins cur.heap.size (fun j => S j || j == 0) (cur.alloc (.map #[] 0)) := by
  have hf : Fresh cur (cur.alloc (.map #[] 0)) cur.heap.size := ⟨rfl, _, rfl⟩
  refine ⟨h.1.on hf.bw, fun _ => ⟨0, Nat.zero_le _, (OwnM.start h.1 hf (MapIs.made cur)).ext fun k hk => ?_⟩⟩
  by_cases h40 : ins k < 40
  · have := hi k hk h40
    simp [this]
  · simp [h40]
theorem InsW.put {k : Nat} (h : InsW w L T ins g S cur) (h0 : S 0 = true) (hk : k < 15) (hik : ins k = i) (h40 : i < 40) (hSi : S i = false) (hinj : ∀ j, j < 15 → j ≠ k → ins j ≠ i) (hi0 : i ≠ 0) {n : Nat} (hn : n ≤ cntS S 40) (ho : OwnM w cur L g n (fun k => if ins k < 40 ∧ S (ins k) = true then T k else []))
    (hm : MapIs cur' g (n + 1) (updT (fun k => if ins k < 40 ∧ S (ins k) = true then T k else []) k (T k))) (hg : cur.grownBy cur' (some g)) : InsW w L T ins g (fun j => S j || j == i) cur' := by
  have h1 := ho.upd hm hg
  refine ⟨h1.1, fun _ => ⟨n + 1, by rw [cnt_add hSi 40 h40]; omega, h1.ext fun j hj => ?_⟩⟩
  unfold updT
  by_cases e : j = k
  · subst e
    rw [if_pos rfl, if_pos]
    rw [hik]
    exact ⟨h40, by simp⟩
  · rw [if_neg e]
    have := hinj j hj e
    simp [this]
end
def insK (k : Nat) : Nat := [3, 6, 8, 10, 12, 15, 18, 22, 25, 28, 32, 34, 40, 37, 40].getD k 40
section
variable {a : Act} {w w' : World} {K : Act → World → Prop} {Q : Exit → Act → World → Prop} {o : Oper}
theorem o_mk {P : Program} (c : Option Operand) (ho : o.op = .makeMap mT c) (hr : ∀ w, (Instr.makeMap mT (c.map a.eval)).run P w = .ok (.map (some w.heap.size)) (w.alloc (.map #[] 0))) (hK : K (a.put o.dst (.map (some w.heap.size))) (w.alloc (.map #[] 0))) : o.wp P a w K Q := by
  unfold Oper.wp execOp
  simp only [ho, Sem.run_bind, hr, Result.andThen_ok]
  exact hK
theorem o_ins (m x v : Operand) (ho : o.op = .insert mT m x v) (b n : Nat) (T : Nat → List UInt8) (hm : a.eval m = .map (some b)) (h : MapIs w b n T) (hn : n < 1000) (k : Nat) (hk : k < 15) (hx : a.eval x = .int .i64 (k : Int))
    (s : ByteArray) (y : List UInt8) (hv : a.eval v = .string s) (hy : s = S y) (hs : s.size ≤ maxLen) (hK : ∀ w', MapIs w' b (n + 1) (updT T k y) → w.grownBy w' (some b) → K (a.put o.dst undef) w') : o.wp Tryz.prog a w K Q := by
  obtain ⟨w', hrun, r1, r2⟩ := h.put hn hk hy hs
  unfold Oper.wp
  simp [execOp, ho, hm, hx, hv, hrun, Result.andThen]
  exact hK w' r1 r2
theorem o_call1 {P : Program} (f : FuncId) (x : Operand) (tys : Array TypeId) (ho : o.op = .call { callee := .value (.func f), args := #[x], argTypes := tys }) {v1 v : Value} (hx : a.eval x = v1) (hr : (callFunc f #[v1]).run P w = .ok (.enter f #[v1]) w)
    (h : Calls P f #[v1] w fun e w' => e = .returned v ∧ Below w.heap.size w w') (hK : ∀ w', Below w.heap.size w w' → K (a.put o.dst v) w') : o.wp P a w K Q := by
  have he : a.eval (.func f) = Value.func (.func f) #[] #[] := rfl
  have h1 : (execOp a.eval o).run P w = .ok (.enter f #[v1]) w := by
    simp [execOp, ho, resolve, invoke, hx, he, hr, Deferred.ofValue]
  unfold Oper.wp
  rw [h1, Oper.upon_enter]
  refine h.mono ?_
  rintro e w' ⟨rfl, hb⟩
  exact hK w' hb
theorem ins_step {w0 : World} {L : List (Nat × List Value)} {T : Nat → List UInt8} {g i : Nat} {S : Nat → Bool} {val : Value} (m x v : Operand) (ho : o.op = .insert mT m x v) (hW : InsW w0 L T insK g S w) (h0 : S 0 = true) (hm : a.eval m = .map (some g)) (k : Nat) (hk : k < 15) (hik : insK k = i) (hSi : S i = false) (hx : a.eval x = .int .i64 (k : Int))
    {s : ByteArray} (hv : a.eval v = .string s) (hy : s = Go.Proofs.YtdlcoilpkelbaaaGreatDoor.S (T k)) (hs : (T k).length ≤ 200) (hd : o.dst = none := by rfl) (h40 : insK k < 40 := by decide) (hinj : ∀ j, j < 15 → j ≠ k → insK j ≠ insK k := by decide) (hi0 : insK k ≠ 0 := by decide) :
    o.wp Tryz.prog a w (fun a' w' => a' = a.put o.dst val ∧ InsW w0 L T insK g (fun j => S j || j == i) w') Q := by
  obtain ⟨n, hn, ho2⟩ := hW.2 h0
  have := cnt_le S 40
  refine o_ins m x v ho g n _ hm ho2.2.1 (by omega) k hk hx s (T k) hv hy (by rw [hy, S_size]; unfold maxLen; omega) fun w' h1 h2 => ⟨by rw [hd]; rfl, ?_⟩
  subst hik
  exact hW.put h0 hk rfl h40 hSi hinj hi0 hn ho2 h1 h2
end
end Go.Proofs.YtdlcoilpkelbaaaGreatDoor
namespace Go.Proofs.YtdlcoilpkelbaaaGreatDoor
open Go.RowKit Go.Maps
set_option linter.unusedVariables false

/-- a zone whose texts have room -/
structure Fits (z : Zn) : Prop where
  fm : 1 ≤ z.fm ∧ z.fm ≤ 3
  nm : nameL z.su = true ∧ nameL z.gi = true ∧ z.su ≠ []
  su : (S z.su).size ≤ 140737488355328
  gi : (S z.gi).size ≤ 140737488355328
  kd : z.kd.length ≤ 64
  st : z.st.length ≤ 64
  nu : z.nu.length ≤ 64
  na : z.na.length ≤ 64
  bi : z.bi.length ≤ 64
  sx : z.sx.length ≤ 64
  ex : z.ex.length ≤ 64
  op : z.op.length ≤ 64
  se : z.se.length ≤ 64
theorem dgL_le (x : List UInt8) : (dgL x).length ≤ 1 := by have := dgL_len x; rwa [S_size] at this
theorem tx_small {z : Zn} (h : Fits z) {k : Nat} (hk : k < 15) : (tx z k).length ≤ 200 := by
  have d := dgL_le
  have n3 : namN z.fm ≤ 39 := by unfold namN; repeat (first | omega | split)
  have hk : k = 0 ∨ k = 1 ∨ k = 2 ∨ k = 3 ∨ k = 4 ∨ k = 5 ∨ k = 6 ∨ k = 7 ∨ k = 8 ∨ k = 9 ∨ k = 10 ∨ k = 11 ∨ k = 12 ∨ k = 13 ∨ k = 14 := by omega
  rcases hk with rfl | rfl | rfl | rfl | rfl | rfl | rfl | rfl | rfl | rfl | rfl | rfl | rfl | rfl | rfl
  · have := h.kd; show z.kd.length ≤ 200; omega
  · have := h.st; show z.st.length ≤ 200; omega
  · show (fieldL z.su z.gi (namN z.fm)).length ≤ 200
    unfold fieldL; rw [List.length_take]; omega
  · have := h.nu; show (z.nu.take 9).length ≤ 200; rw [List.length_take]; omega
  · show (if 9 < z.nu.length then [60] else dgL z.nu).length ≤ 200
    have := d z.nu
    split
    · decide
    · omega
  · have := h.na; show z.na.length ≤ 200; omega
  · have := h.bi; show z.bi.length ≤ 200; omega
  · have := d z.bi; show (dgL z.bi).length ≤ 200; omega
  · have := h.sx; show z.sx.length ≤ 200; omega
  · have := h.ex; show z.ex.length ≤ 200; omega
  · have := d z.ex; show (dgL z.ex).length ≤ 200; omega
  · show (restT z).length ≤ 200
    have h1 := h.nu
    have h2 := h.op
    have := d z.nu
    unfold restT
    split
    · simp; omega
    · omega
  · have := d z.op
    show (if z.op = [] then [] else dgL z.op).length ≤ 200
    split
    · decide
    · omega
  · have := h.se; show z.se.length ≤ 200; omega
  · show ([] : List UInt8).length ≤ 200; decide
theorem run_dig (v : Value) (w : World) : (callFunc 38 #[v]).run Tryz.prog w = .ok (.enter 38 #[v]) w := by
  have hf : Tryz.prog.funcs[38]? = some _ := Tryz.func38
  obtain ⟨c, hc⟩ : ∃ c, (Tryz.f38).body = some c := ⟨_, rfl⟩
  have hn : (Tryz.f38).name ≠ "runtime.NumGoroutine" := by decide
  simp [callFunc, hf, hn, hc]
theorem name_tx {z : Zn} (h : Fits z) : namesL z.su z.gi ((sizN z.fm 2 : Nat) : Int) = tx z 2 := by
  have hf : z.fm = 1 ∨ z.fm = 2 ∨ z.fm = 3 := by have := h.fm; omega
  have e : sizN z.fm 2 = namN z.fm := by rcases hf with e | e | e <;> rw [e] <;> rfl
  have h1 : 1 ≤ namN z.fm ∧ namN z.fm ≤ 64 := by unfold namN; repeat (first | omega | split)
  obtain ⟨n1, n2, n3⟩ := h.nm
  rw [e, (namesE_3 (by rw [n1, n2]; simp [n3]) (by omega)).2]
  rfl
def tx0 (z : Zn) (k : Nat) : List UInt8 := if k = 12 ∨ k = 14 then [] else tx z k
theorem ins_all : ∀ k, k < 15 → (¬ (k = 12 ∨ k = 14) ↔ insK k < 40) := by decide
def vT (g2 : Nat) (z : Zn) (g : Nat) (i : Nat) : Value := if i = 0 ∨ i = 38 ∨ i = 39 then .map (some g) else ([undef, .pointer (some ⟨g2, 1, none⟩), .string (S z.kd), undef, .pointer (some ⟨g2, 2, none⟩), .string (S z.st), undef, .string (S (tx z 2)), undef, .string (S (tx z 3)), undef, .string (S (tx z 4)), undef, .pointer (some ⟨g2, 6, none⟩), .string (S z.na), undef, .pointer (some ⟨g2, 7, none⟩), .string (S z.bi), undef, .pointer (some ⟨g2, 7, none⟩), .string (S z.bi), .string (S (dgL z.bi)), undef, .pointer (some ⟨g2, 8, none⟩), .string (S z.sx), undef, .pointer (some ⟨g2, 9, none⟩), .string (S z.ex), undef, .pointer (some ⟨g2, 9, none⟩), .string (S z.ex), .string (S (dgL z.ex)), undef, .string (S (tx z 11)), undef, .pointer (some ⟨g2, 11, none⟩), .string (S z.se), undef, undef, undef] : List Value).getD i undef
set_option maxHeartbeats 1600000 in
set_option maxRecDepth 20000 in
theorem p_texts (z : Zn) (hz : Fits z) (w : World) (hM : Mm w) :
    Calls Tryz.prog 29 #[z.val, .agg (layV z.fm).toArray] w fun e w' => ∃ b n, e = .returned (.map (some b)) ∧ Below w.heap.size w w' ∧ w.heap.size ≤ b ∧ n ≤ 50 ∧ MapIs w' b n (tx z) := by
  have HM := Lib.hid hM
  have HB : Hid ((S z.bi).size ≤ 140737488355328 ∧ (S z.ex).size ≤ 140737488355328) := Lib.hid ⟨by have := hz.bi; rw [S_size]; omega, by have := hz.ex; rw [S_size]; omega⟩
  have HB2 : Hid ((S z.nu).size ≤ 140737488355328 ∧ (S z.op).size ≤ 140737488355328) := Lib.hid ⟨by have := hz.nu; rw [S_size]; omega, by have := hz.op; rw [S_size]; omega⟩
  have HZ := Lib.hid hz
  have HT := Lib.hid (fun (k : Nat) (hk : k < 15) => tx_small hz hk)
  clear hz hM
  have HO := Lib.hid (Own.start w)
  go_enter Tryz.func29, Tryz.ntmps29
  go_wp2_with (first
    | ((with_reducible refine at_box_ (d := 2) ?_); refine wpList_box_v (op := ⟨some 2, _, _, _, _, _⟩) rfl 23 _ rfl (zV z) rfl ?_; intro g2 v2b hf hr; replace HO := Lib.hid (HO.out.new hf hr); clear hf hr)
    | ((with_reducible refine at_box_ (d := 3) ?_); refine wpList_box_v (op := ⟨some 3, _, _, _, _, _⟩) rfl 57 _ rfl (layV z.fm) rfl ?_; intro g3 v3b hf hr; replace HO := Lib.hid (HO.out.new hf hr); clear hf hr))
  have qsz := quiet_up (w := v3b) (args := #[.agg (layV z.fm).toArray, .int .i64 2]) (P := Tryz.prog) (f := 41) fun w' hb => p_size z.fm HZ.out.fm 2 (by decide) w'
  have qnm := quiet_up (w := v3b) fun w' hb => p_names (S z.su) (S z.gi) z.su z.gi rfl rfl ((sizN z.fm 2 : Nat) : Int) w' HZ.out.su HZ.out.gi
  have l3 := (HO.out.row (i := 0) rfl).quiet (k := 3) rfl
  have l4 := (HO.out.row (i := 0) rfl).quiet (k := 4) rfl
  have lL := Lib.hid ((HO.out.row (i := 1) rfl).up)
  refine wp_region_quiet_below (by kernel_rfl) (by kernel_rfl) ?_
  repeat (first | ((with_reducible refine at_qload_ (d := 16) ?_); refine quiet_load_v rfl _ _ rfl g3 rfl (layV z.fm) _ lL.out Tryz.underlying57 rfl (by rw [layV_len HZ.out.fm]; exact size_l) ?_) | go_big_quiet_skip | (go_big_quiet_want; go_big_quiet_op; go_big_quiet_on) | quiet_step (first | with_reducible exact qsz _ _ | with_reducible exact qnm _ _))
  refine wpQuiet_nil ?_
  intro w4 hw4
  replace HO := Lib.hid (HO.out.on (below_of_regrown hw4))
  clear hw4 qsz qnm l3 l4 lL
  rw [name_tx HZ.out]
  go_wp2_with (first
    | ((with_reducible refine at_load_ (d := 23) ?_); refine wpList_load_c (op := ⟨some 23, _, _, _, _, _⟩) rfl 9 _ rfl _ _ rfl _ ((HO.out.row (i := 0) rfl).cell _) Tryz.isAgg9 ?_)
    | ((with_reducible refine at_load_ (d := 25) ?_); refine wpList_load_c (op := ⟨some 25, _, _, _, _, _⟩) rfl 9 _ rfl _ _ rfl _ ((HO.out.row (i := 0) rfl).cell _) Tryz.isAgg9 ?_)
    | (go_at_call 77; ((with_reducible refine (p_divide (S z.nu) (S z.op) z.nu z.op rfl rfl _ HB2.out.1 HB2.out.2 (HM.out.on HO.out.bl)).mono ?_); rintro e w5 ⟨rfl, hb⟩); replace HO := Lib.hid (HO.out.on hb); clear hb))
  refine region_setC (by kernel_rfl) _ (B := Nat) (vT g2 z) (InsW w [(g2, zV z), (g3, layV z.fm)] (tx z) insK) (by kernel_rfl) 0 ⟨HO.out.on (below_drewN _ _ 1), fun h => by cases h⟩ ?_ ?_
  · refine ops_all (allI.cons ?_ (allI.cons ?_ (allI.cons ?_ (allI.cons ?_ (allI.cons ?_ (allI.cons ?_ (allI.cons ?_ (allI.cons ?_ (allI.cons ?_ (allI.cons ?_ (allI.cons ?_ (allI.cons ?_ (allI.cons ?_ (allI.cons ?_ (allI.cons ?_ (allI.cons ?_ (allI.cons ?_ (allI.cons ?_ (allI.cons ?_ (allI.cons ?_ (allI.cons ?_ (allI.cons ?_ (allI.cons ?_ (allI.cons ?_ (allI.cons ?_ (allI.cons ?_ (allI.cons ?_ (allI.cons ?_ (allI.cons ?_ (allI.cons ?_ (allI.cons ?_ (allI.cons ?_ (allI.cons ?_ (allI.cons ?_ (allI.cons ?_ (allI.cons ?_ (allI.cons ?_ (allI.cons ?_ (allI.cons ?_ (allI.cons ?_ allI.nil)))))))))))))))))))))))))))))))))))))))) <;> intro g S cur a hW hSi hdep hS hC
    · refine ⟨cur.heap.size, fun j hj => ?_, o_mk none rfl (fun w => rfl) ⟨rfl, hW.mk hSi (fun k hk h40 => ?_)⟩⟩
      · unfold vT
        have h0 : j ≠ 0 := fun e => by rw [e, hSi] at hj; cases hj
        have h1 : j ≠ 38 := fun e => by rw [e] at hj; have := dep_at (hC 38 _ rfl hj) 0 rfl; rw [hSi] at this; cases this
        have h2 : j ≠ 39 := fun e => by rw [e] at hj; have := dep_at (hC 39 _ rfl hj) 0 rfl; rw [hSi] at this; cases this
        rw [if_neg (by omega), if_neg (by omega)]
      · have key : ∀ k, k < 15 → insK k < 40 → insK k ∈ [3, 6, 8, 10, 12, 15, 18, 22, 25, 28, 32, 34, 37] := by decide
        have h3 := key k hk h40
        have h9 : insK k ≠ 0 := fun e => by rw [e] at h3; revert h3; decide
        rcases hq : S (insK k) with _ | _
        · exact ⟨rfl, h9⟩
        · exfalso
          simp only [List.mem_cons, List.not_mem_nil, or_false] at h3
          rcases h3 with h3 | h3 | h3 | h3 | h3 | h3 | h3 | h3 | h3 | h3 | h3 | h3 | h3 <;> (rw [h3] at hq; have := dep_at (hC _ _ rfl hq) 0 rfl; rw [hSi] at this; cases this)
    · exact ⟨g, fun _ _ => rfl, o_fa _ (.tmp 2) 1 rfl (hS.before hC hSi 2 rfl) (fa_z1 g2 _) ⟨rfl, hW.skip (Below.refl _ _) (by decide) (by decide)⟩⟩
    · exact ⟨g, fun _ _ => rfl, o_ld _ (.tmp 31) rfl (hS.get 1 (dep_at hdep 1 rfl) rfl rfl) ((hW.1.row (i := 0) rfl).cell 1) Tryz.isAgg9 ⟨rfl, hW.skip (Below.refl _ _) (by decide) (by decide)⟩⟩
    · exact ⟨g, fun _ _ => rfl, ins_step (.tmp 30) _ (.tmp 32) rfl hW (dep_at hdep 0 rfl) (hS.get 0 (dep_at hdep 0 rfl) rfl rfl) 0 (by decide) rfl hSi rfl (hS.get 2 (dep_at hdep 2 rfl) rfl rfl) rfl (HT.out 0 (by decide))⟩
    · exact ⟨g, fun _ _ => rfl, o_fa _ (.tmp 2) 2 rfl (hS.before hC hSi 2 rfl) (fa_z2 g2 _) ⟨rfl, hW.skip (Below.refl _ _) (by decide) (by decide)⟩⟩
    · exact ⟨g, fun _ _ => rfl, o_ld _ (.tmp 33) rfl (hS.get 4 (dep_at hdep 4 rfl) rfl rfl) ((hW.1.row (i := 0) rfl).cell 2) Tryz.isAgg9 ⟨rfl, hW.skip (Below.refl _ _) (by decide) (by decide)⟩⟩
    · exact ⟨g, fun _ _ => rfl, ins_step (.tmp 30) _ (.tmp 34) rfl hW (dep_at hdep 0 rfl) (hS.get 0 (dep_at hdep 0 rfl) rfl rfl) 1 (by decide) rfl hSi rfl (hS.get 5 (dep_at hdep 5 rfl) rfl rfl) rfl (HT.out 1 (by decide))⟩
    · exact ⟨g, fun _ _ => rfl, o_mv (.tmp 5) rfl (hS.before hC hSi 5 rfl) ⟨rfl, hW.skip (Below.refl _ _) (by decide) (by decide)⟩⟩
    · exact ⟨g, fun _ _ => rfl, ins_step (.tmp 30) _ (.tmp 35) rfl hW (dep_at hdep 0 rfl) (hS.get 0 (dep_at hdep 0 rfl) rfl rfl) 2 (by decide) rfl hSi rfl (hS.get 7 (dep_at hdep 7 rfl) rfl rfl) rfl (HT.out 2 (by decide))⟩
    · exact ⟨g, fun _ _ => rfl, o_mv (.tmp 7) rfl (hS.before hC hSi 7 rfl) ⟨rfl, hW.skip (Below.refl _ _) (by decide) (by decide)⟩⟩
    · exact ⟨g, fun _ _ => rfl, ins_step (.tmp 30) _ (.tmp 36) rfl hW (dep_at hdep 0 rfl) (hS.get 0 (dep_at hdep 0 rfl) rfl rfl) 3 (by decide) rfl hSi rfl (hS.get 9 (dep_at hdep 9 rfl) rfl rfl) rfl (HT.out 3 (by decide))⟩
    · exact ⟨g, fun _ _ => rfl, o_mv (.tmp 8) rfl (hS.before hC hSi 8 rfl) ⟨rfl, hW.skip (Below.refl _ _) (by decide) (by decide)⟩⟩
    · exact ⟨g, fun _ _ => rfl, ins_step (.tmp 30) _ (.tmp 37) rfl hW (dep_at hdep 0 rfl) (hS.get 0 (dep_at hdep 0 rfl) rfl rfl) 4 (by decide) rfl hSi rfl (hS.get 11 (dep_at hdep 11 rfl) rfl rfl) rfl (HT.out 4 (by decide))⟩
    · exact ⟨g, fun _ _ => rfl, o_fa _ (.tmp 2) 6 rfl (hS.before hC hSi 2 rfl) (fa_z6 g2 _) ⟨rfl, hW.skip (Below.refl _ _) (by decide) (by decide)⟩⟩
    · exact ⟨g, fun _ _ => rfl, o_ld _ (.tmp 38) rfl (hS.get 13 (dep_at hdep 13 rfl) rfl rfl) ((hW.1.row (i := 0) rfl).cell 6) Tryz.isAgg9 ⟨rfl, hW.skip (Below.refl _ _) (by decide) (by decide)⟩⟩
    · exact ⟨g, fun _ _ => rfl, ins_step (.tmp 30) _ (.tmp 39) rfl hW (dep_at hdep 0 rfl) (hS.get 0 (dep_at hdep 0 rfl) rfl rfl) 5 (by decide) rfl hSi rfl (hS.get 14 (dep_at hdep 14 rfl) rfl rfl) rfl (HT.out 5 (by decide))⟩
    · exact ⟨g, fun _ _ => rfl, o_fa _ (.tmp 2) 7 rfl (hS.before hC hSi 2 rfl) (fa_z7 g2 _) ⟨rfl, hW.skip (Below.refl _ _) (by decide) (by decide)⟩⟩
    · exact ⟨g, fun _ _ => rfl, o_ld _ (.tmp 40) rfl (hS.get 16 (dep_at hdep 16 rfl) rfl rfl) ((hW.1.row (i := 0) rfl).cell 7) Tryz.isAgg9 ⟨rfl, hW.skip (Below.refl _ _) (by decide) (by decide)⟩⟩
    · exact ⟨g, fun _ _ => rfl, ins_step (.tmp 30) _ (.tmp 41) rfl hW (dep_at hdep 0 rfl) (hS.get 0 (dep_at hdep 0 rfl) rfl rfl) 6 (by decide) rfl hSi rfl (hS.get 17 (dep_at hdep 17 rfl) rfl rfl) rfl (HT.out 6 (by decide))⟩
    · exact ⟨g, fun _ _ => rfl, o_fa _ (.tmp 2) 7 rfl (hS.before hC hSi 2 rfl) (fa_z7 g2 _) ⟨rfl, hW.skip (Below.refl _ _) (by decide) (by decide)⟩⟩
    · exact ⟨g, fun _ _ => rfl, o_ld _ (.tmp 42) rfl (hS.get 19 (dep_at hdep 19 rfl) rfl rfl) ((hW.1.row (i := 0) rfl).cell 7) Tryz.isAgg9 ⟨rfl, hW.skip (Below.refl _ _) (by decide) (by decide)⟩⟩
    · exact ⟨g, fun _ _ => rfl, o_call1 _ (.tmp 43) _ rfl (hS.get 20 (dep_at hdep 20 rfl) rfl rfl) (run_dig _ _) (p_dig _ z.bi rfl _ (HB.out.1) (HM.out.on (hW.1.bl))) fun w' hb => ⟨rfl, hW.skip hb (by decide) (by decide)⟩⟩
    · exact ⟨g, fun _ _ => rfl, ins_step (.tmp 30) _ (.tmp 44) rfl hW (dep_at hdep 0 rfl) (hS.get 0 (dep_at hdep 0 rfl) rfl rfl) 7 (by decide) rfl hSi rfl (hS.get 21 (dep_at hdep 21 rfl) rfl rfl) rfl (HT.out 7 (by decide))⟩
    · exact ⟨g, fun _ _ => rfl, o_fa _ (.tmp 2) 8 rfl (hS.before hC hSi 2 rfl) (fa_z8 g2 _) ⟨rfl, hW.skip (Below.refl _ _) (by decide) (by decide)⟩⟩
    · exact ⟨g, fun _ _ => rfl, o_ld _ (.tmp 45) rfl (hS.get 23 (dep_at hdep 23 rfl) rfl rfl) ((hW.1.row (i := 0) rfl).cell 8) Tryz.isAgg9 ⟨rfl, hW.skip (Below.refl _ _) (by decide) (by decide)⟩⟩
    · exact ⟨g, fun _ _ => rfl, ins_step (.tmp 30) _ (.tmp 46) rfl hW (dep_at hdep 0 rfl) (hS.get 0 (dep_at hdep 0 rfl) rfl rfl) 8 (by decide) rfl hSi rfl (hS.get 24 (dep_at hdep 24 rfl) rfl rfl) rfl (HT.out 8 (by decide))⟩
    · exact ⟨g, fun _ _ => rfl, o_fa _ (.tmp 2) 9 rfl (hS.before hC hSi 2 rfl) (fa_z9 g2 _) ⟨rfl, hW.skip (Below.refl _ _) (by decide) (by decide)⟩⟩
    · exact ⟨g, fun _ _ => rfl, o_ld _ (.tmp 47) rfl (hS.get 26 (dep_at hdep 26 rfl) rfl rfl) ((hW.1.row (i := 0) rfl).cell 9) Tryz.isAgg9 ⟨rfl, hW.skip (Below.refl _ _) (by decide) (by decide)⟩⟩
    · exact ⟨g, fun _ _ => rfl, ins_step (.tmp 30) _ (.tmp 48) rfl hW (dep_at hdep 0 rfl) (hS.get 0 (dep_at hdep 0 rfl) rfl rfl) 9 (by decide) rfl hSi rfl (hS.get 27 (dep_at hdep 27 rfl) rfl rfl) rfl (HT.out 9 (by decide))⟩
    · exact ⟨g, fun _ _ => rfl, o_fa _ (.tmp 2) 9 rfl (hS.before hC hSi 2 rfl) (fa_z9 g2 _) ⟨rfl, hW.skip (Below.refl _ _) (by decide) (by decide)⟩⟩
    · exact ⟨g, fun _ _ => rfl, o_ld _ (.tmp 49) rfl (hS.get 29 (dep_at hdep 29 rfl) rfl rfl) ((hW.1.row (i := 0) rfl).cell 9) Tryz.isAgg9 ⟨rfl, hW.skip (Below.refl _ _) (by decide) (by decide)⟩⟩
    · exact ⟨g, fun _ _ => rfl, o_call1 _ (.tmp 50) _ rfl (hS.get 30 (dep_at hdep 30 rfl) rfl rfl) (run_dig _ _) (p_dig _ z.ex rfl _ (HB.out.2) (HM.out.on (hW.1.bl))) fun w' hb => ⟨rfl, hW.skip hb (by decide) (by decide)⟩⟩
    · exact ⟨g, fun _ _ => rfl, ins_step (.tmp 30) _ (.tmp 51) rfl hW (dep_at hdep 0 rfl) (hS.get 0 (dep_at hdep 0 rfl) rfl rfl) 10 (by decide) rfl hSi rfl (hS.get 31 (dep_at hdep 31 rfl) rfl rfl) rfl (HT.out 10 (by decide))⟩
    · exact ⟨g, fun _ _ => rfl, o_mv (.tmp 9) rfl (hS.before hC hSi 9 rfl) ⟨rfl, hW.skip (Below.refl _ _) (by decide) (by decide)⟩⟩
    · exact ⟨g, fun _ _ => rfl, ins_step (.tmp 30) _ (.tmp 52) rfl hW (dep_at hdep 0 rfl) (hS.get 0 (dep_at hdep 0 rfl) rfl rfl) 11 (by decide) rfl hSi rfl (hS.get 33 (dep_at hdep 33 rfl) rfl rfl) rfl (HT.out 11 (by decide))⟩
    · exact ⟨g, fun _ _ => rfl, o_fa _ (.tmp 2) 11 rfl (hS.before hC hSi 2 rfl) (fa_z11 g2 _) ⟨rfl, hW.skip (Below.refl _ _) (by decide) (by decide)⟩⟩
    · exact ⟨g, fun _ _ => rfl, o_ld _ (.tmp 53) rfl (hS.get 35 (dep_at hdep 35 rfl) rfl rfl) ((hW.1.row (i := 0) rfl).cell 11) Tryz.isAgg9 ⟨rfl, hW.skip (Below.refl _ _) (by decide) (by decide)⟩⟩
    · exact ⟨g, fun _ _ => rfl, ins_step (.tmp 30) _ (.tmp 54) rfl hW (dep_at hdep 0 rfl) (hS.get 0 (dep_at hdep 0 rfl) rfl rfl) 13 (by decide) rfl hSi rfl (hS.get 36 (dep_at hdep 36 rfl) rfl rfl) rfl (HT.out 13 (by decide))⟩
    · exact ⟨g, fun _ _ => rfl, o_mv (.tmp 30) rfl (hS.get 0 (dep_at hdep 0 rfl) rfl rfl) ⟨rfl, hW.skip (Below.refl _ _) (by decide) (by decide)⟩⟩
    · exact ⟨g, fun _ _ => rfl, o_as (.tmp 55) rfl (hS.get 38 (dep_at hdep 38 rfl) rfl rfl) ⟨rfl, hW.skip (Below.refl _ _) (by decide) (by decide)⟩⟩
  · intro g cur S hall hW
    obtain ⟨n, hn, ho⟩ := hW.2 (hall 0 (by decide))
    have hn2 := Nat.le_trans hn (cnt_le S 40)
    have HN := Lib.hid hn2
    replace HO := Lib.hid (ho.ext (T' := tx0 z) fun k hk => by
      unfold tx0
      have h1 := ins_all k hk
      by_cases e : k = 12 ∨ k = 14
      · rw [if_pos e, if_neg (fun h2 => (h1.2 h2.1) e)]
      · have h3 := h1.1 e
        rw [if_neg e, if_pos ⟨h3, hall _ h3⟩])
    clear ho hn hn2 hW
    clear hall S
    simp only [putAll, Act.put, vT]
    simp
    by_cases hop : z.op = []
    · have hs := s_nil (s := S z.op) rfl hop
      have HP := Lib.hid hop
      clear hop
      go_wp2_with (first
    | ((with_reducible refine at_load_ (d := 57) ?_); refine wpList_load_c (op := ⟨some 57, _, _, _, _, _⟩) rfl 9 _ rfl _ _ rfl _ ((HO.out.1.row (i := 0) rfl).cell _) Tryz.isAgg9 ?_))
      go_ret
      refine ⟨g, n, rfl, HO.out.bl, HO.out.2.2.1, by have := HN.out; omega, (HO.out.ext (T' := tx z) fun k hk => ?_).2.1⟩
      unfold tx0
      by_cases e : k = 12 ∨ k = 14
      · rw [if_pos e]
        rcases e with rfl | rfl
        · show [] = if z.op = [] then [] else dgL z.op
          rw [if_pos HP.out]
        · rfl
      · rw [if_neg e]
    · have hs := s_ne (s := S z.op) rfl hop
      have HP := Lib.hid hop
      clear hop
      go_wp2_with (first
    | ((with_reducible refine at_load_ (d := 57) ?_); refine wpList_load_c (op := ⟨some 57, _, _, _, _, _⟩) rfl 9 _ rfl _ _ rfl _ ((HO.out.1.row (i := 0) rfl).cell _) Tryz.isAgg9 ?_)
    | ((with_reducible refine at_load_ (d := 61) ?_); refine wpList_load_c (op := ⟨some 61, _, _, _, _, _⟩) rfl 9 _ rfl _ _ rfl _ ((HO.out.1.row (i := 0) rfl).cell _) Tryz.isAgg9 ?_)
    | (go_at_call 38; ((with_reducible refine (p_dig (S z.op) z.op rfl _ HB2.out.2 (HM.out.on HO.out.bl)).mono ?_); rintro e w6 ⟨rfl, hb⟩); replace HO := Lib.hid (HO.out.on hb); clear hb)
    | ((with_reducible refine at_put_ ?_); refine wpList_put_m rfl _ _ _ rfl g n _ rfl HO.out.2.1 (by have := HN.out; omega) 12 (by decide) rfl (S (dgL z.op)) (dgL z.op) rfl rfl (by have := dgL_len z.op; unfold maxLen; omega) ?_; intro w7 hm4 hg4; replace HO := Lib.hid (HO.out.upd hm4 hg4); clear hm4 hg4))
      go_ret
      refine ⟨g, n + 1, rfl, HO.out.bl, HO.out.2.2.1, by have := HN.out; omega, (HO.out.ext (T' := tx z) fun k hk => ?_).2.1⟩
      unfold updT tx0
      by_cases e : k = 12
      · rw [if_pos e, e]
        show dgL z.op = if z.op = [] then [] else dgL z.op
        rw [if_neg HP.out]
      · rw [if_neg e]
        by_cases e2 : k = 14
        · rw [if_pos (.inr e2), e2]; rfl
        · rw [if_neg (by simp [e, e2])]
end Go.Proofs.YtdlcoilpkelbaaaGreatDoor
namespace Go.Proofs.YtdlcoilpkelbaaaGreatDoor
open Go.RowKit Go.Maps
set_option linter.unusedVariables false

/-- the strings of a zone that a machine bears -/
structure Bears (z : Zn) : Prop where
  kd : (S z.kd).size ≤ 140737488355328
  st : (S z.st).size ≤ 140737488355328
  su : (S z.su).size ≤ 140737488355328
  gi : (S z.gi).size ≤ 140737488355328
  nu : (S z.nu).size ≤ 140737488355328
  na : (S z.na).size ≤ 140737488355328
  bi : (S z.bi).size ≤ 140737488355328
  sx : (S z.sx).size ≤ 140737488355328
  ex : (S z.ex).size ≤ 140737488355328
  op : (S z.op).size ≤ 140737488355328
  se : (S z.se).size ≤ 140737488355328
def fitB (f : Int) (z : Zn) : Bool := decide ((dvC z.nu z.op).length ≤ sizN f 11) && decide (z.se.length ≤ sizN f 13)
theorem siz_le {f : Int} (h : 1 ≤ f ∧ f ≤ 3) {k : Nat} (hk : k < 15) : sizN f k ≤ 44 := by
  have := plc_ok h hk
  have hw : widN f ≤ 44 := by unfold widN; repeat (first | omega | split)
  unfold sizN; omega
theorem dvC_len (x y : List UInt8) : (dvC x y).length ≤ x.length + y.length + 2 := by
  have := dgL_le x
  unfold dvC
  split
  · simp; omega
  · omega
set_option maxHeartbeats 1600000 in
set_option maxRecDepth 20000 in
theorem p_fit (f : Int) (hf : 1 ≤ f ∧ f ≤ 3) (z : Zn) (hz : Bears z) (w : World) (hM : Mm w) :
    Calls Tryz.prog 49 #[z.val, .agg (layV f).toArray] w fun e w' => e = .returned (.bool (fitB f z)) ∧ Below w.heap.size w w' := by
  have HM := Lib.hid hM
  have HZ := Lib.hid hz
  have HF := Lib.hid hf
  have s1 := siz_le hf (k := 11) (by decide)
  have s2 := siz_le hf (k := 13) (by decide)
  obtain ⟨R, hR⟩ : ∃ R, S (dvC z.nu z.op) = R := ⟨_, rfl⟩
  have hRz : R.size ≤ 281474976710658 := by
    have h1 := hz.nu; have h2 := hz.op; have h3 := dvC_len z.nu z.op
    rw [S_size] at h1 h2
    rw [← hR, S_size]; omega
  have HR := Lib.hid hR
  obtain ⟨n1, hn1⟩ : ∃ n1, sizN f 11 = n1 := ⟨_, rfl⟩
  obtain ⟨n2, hn2⟩ : ∃ n2, sizN f 13 = n2 := ⟨_, rfl⟩
  obtain ⟨E, hE⟩ : ∃ E, S z.se = E := ⟨_, rfl⟩
  have hEz : E.size ≤ 140737488355328 := by rw [← hE]; exact hz.se
  have HFB : Hid (fitB f z = (decide (R.size ≤ n1) && decide (E.size ≤ n2))) := Lib.hid (by unfold fitB; rw [← hR, ← hE, S_size, S_size, hn1, hn2])
  have psz1 : ∀ w, Calls Tryz.prog 41 #[.agg (layV f).toArray, .int .i64 11] w fun e w' => e = .returned (.int .i64 (n1 : Int)) ∧ Below w.heap.size w w' := fun w => by rw [← hn1]; exact p_size f hf 11 (by decide) w
  have psz2 : ∀ w, Calls Tryz.prog 41 #[.agg (layV f).toArray, .int .i64 13] w fun e w' => e = .returned (.int .i64 (n2 : Int)) ∧ Below w.heap.size w w' := fun w => by rw [← hn2]; exact p_size f hf 13 (by decide) w
  rw [hn1] at s1
  rw [hn2] at s2
  have HP := Lib.hid (show _ ∧ _ from ⟨psz1, psz2⟩)
  clear hM hz hf hn1 hn2 hR psz1 psz2
  have HO := Lib.hid (Own.start w)
  have e0 : z.val = .agg (zV z).toArray := rfl
  obtain ⟨us, hus⟩ : ∃ us, zV z = us := ⟨_, rfl⟩
  rw [e0, hus]
  have HU : Hid (us[5]? = some (.string (S z.nu)) ∧ us[10]? = some (.string (S z.op)) ∧ us[11]? = some (.string E)) := Lib.hid (by rw [← hus, ← hE]; exact ⟨rfl, rfl, rfl⟩)
  clear e0 hus hE
  go_enter Tryz.func49, Tryz.ntmps49
  go_wp2_with (first
    | ((with_reducible refine at_box_ (d := 2) ?_); refine wpList_box_v (op := ⟨some 2, _, _, _, _, _⟩) rfl 23 _ rfl us rfl ?_; intro g2 v2b hf hr; replace HO := Lib.hid (HO.out.new hf hr); clear hf hr)
    | ((with_reducible refine at_box_ (d := 3) ?_); refine wpList_box_v (op := ⟨some 3, _, _, _, _, _⟩) rfl 57 _ rfl (layV f) rfl ?_; intro g3 v3b hf hr; replace HO := Lib.hid (HO.out.new hf hr); clear hf hr)
    | ((with_reducible refine at_load_ (d := 10) ?_); refine wpList_load_c (op := ⟨some 10, _, _, _, _, _⟩) rfl 9 _ rfl g2 5 rfl _ (((HO.out.row (i := 0) rfl).cell 5).trans HU.out.1) Tryz.isAgg9 ?_)
    | ((with_reducible refine at_load_ (d := 12) ?_); refine wpList_load_c (op := ⟨some 12, _, _, _, _, _⟩) rfl 9 _ rfl g2 10 rfl _ (((HO.out.row (i := 0) rfl).cell 10).trans HU.out.2.1) Tryz.isAgg9 ?_)
    | (go_at_call 77; ((with_reducible refine (p_divide (S z.nu) (S z.op) z.nu z.op rfl rfl _ HZ.out.nu HZ.out.op (HM.out.on HO.out.bl)).mono ?_); rintro e w5 ⟨rfl, hb⟩); rw [HR.out]; replace HO := Lib.hid (HO.out.on hb); clear hb))
  have q1 := quiet_up (w := w5) fun w' hb => HP.out.1 w'
  have q2 := quiet_up (w := w5) fun w' hb => HP.out.2 w'
  have l11 := (HO.out.row (i := 0) rfl).quiet (k := 11) HU.out.2.2
  have lL := Lib.hid ((HO.out.row (i := 1) rfl).up)
  have HSL : Hid ((Tryz.prog.info? 57).map (·.size) = some (layV f).length) := Lib.hid (by rw [layV_len HF.out]; exact size_l)
  by_cases h : (R.size : Int) ≤ (n1 : Int)
  · have hd : decide ((R.size : Int) ≤ (n1 : Int)) = true := by simpa using h
    refine wp_region_quiet_below (by kernel_rfl) (by kernel_rfl) ?_
    repeat (first | ((with_reducible refine at_qload_ (d := 19) ?_); refine quiet_load_v rfl _ _ rfl g3 rfl (layV f) _ lL.out Tryz.underlying57 rfl HSL.out ?_) | ((with_reducible refine at_qload_ (d := 26) ?_); refine quiet_load_v rfl _ _ rfl g3 rfl (layV f) _ lL.out Tryz.underlying57 rfl HSL.out ?_) | go_big_quiet_skip | (go_big_quiet_want; go_big_quiet_op; go_big_quiet_on) | quiet_step (first | with_reducible exact q1 _ _ | with_reducible exact q2 _ _))
    refine wpQuiet_nil ?_
    intro w6 hw6
    replace HO := Lib.hid (HO.out.on (below_of_regrown hw6))
    clear hw6 q1 q2 l11 lL
    go_wp2
    go_ret
    refine ⟨?_, HO.out.bl⟩
    rw [HFB.out, decide_eq_true (show R.size ≤ n1 by omega)]
    rfl
  · have hd : decide ((R.size : Int) ≤ (n1 : Int)) = false := by simpa using h
    refine wp_region_quiet_below (by kernel_rfl) (by kernel_rfl) ?_
    repeat (first | ((with_reducible refine at_qload_ (d := 19) ?_); refine quiet_load_v rfl _ _ rfl g3 rfl (layV f) _ lL.out Tryz.underlying57 rfl HSL.out ?_) | go_big_quiet_skip | (go_big_quiet_want; go_big_quiet_op; go_big_quiet_on) | quiet_step (first | with_reducible exact q1 _ _ | with_reducible exact q2 _ _))
    refine wpQuiet_nil ?_
    intro w6 hw6
    replace HO := Lib.hid (HO.out.on (below_of_regrown hw6))
    clear hw6 q1 q2 l11 lL
    go_wp2
    go_ret
    refine ⟨?_, HO.out.bl⟩
    rw [HFB.out, decide_eq_false (show ¬ R.size ≤ n1 by omega)]
    rfl
end Go.Proofs.YtdlcoilpkelbaaaGreatDoor
