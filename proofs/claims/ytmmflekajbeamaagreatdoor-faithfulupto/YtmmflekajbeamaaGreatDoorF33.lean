/-
  Faithful: what an engine's calls leave of the machine and of the device, and which numbers they answer.
  Faithful: Run of the bench (runs).
  Faithful: Run of the bench, of an engine that is not over.
  Faithful: an engine anew, where the machine is (started).
-/
import Derived.Test.YtmmflekajbeamaaGreatDoorF32
import Derived.Deep.MidRow
import Derived.BigQuiet
import Derived.Test.YtmmflekajbeamaaGreatDoorF24
namespace Go.Proofs.YtmmflekajbeamaaGreatDoor

/-- What every turn of a device keeps. -/
structure Clo (P : DvN → Prop) : Prop where
  add : ∀ d i s, P d → P (dAdd d i s).2
  clear : ∀ d i, P d → P (dClear d i).2
  sync : ∀ d i, P d → P (dSync d i).2
  read : ∀ d i, P d → P (dRead d i).2.2
theorem clo_wk (c : Int) : Clo (fun d => d.wk = c) := by
  refine ⟨fun d i s h => ?_, fun d i h => ?_, fun d i h => ?_, fun d i h => ?_⟩
  · show (dAdd d i s).2.wk = c; unfold dAdd; (repeat' split) <;> exact h
  · show (dClear d i).2.wk = c; unfold dClear; (repeat' split) <;> exact h
  · show (dSync d i).2.wk = c; unfold dSync; (repeat' split) <;> exact h
  · show (dRead d i).2.2.wk = c; unfold dRead; (repeat' split) <;> exact h
theorem clo_ok : Clo DvOK := by
  refine ⟨fun d i s h => ?_, fun d i h => ?_, fun d i h => ?_, fun d i h => ?_⟩
  · unfold dAdd
    (repeat' split)
    · exact h
    · exact h
    · exact h
    · intro j hj
      show d.n j ≤ (upd d.b i.toNat (d.b i.toNat ++ s) j).length
      unfold upd
      split
      · rename_i e; rw [e, List.length_append, ← e]; have := h j hj; omega
      · exact h j hj
  · unfold dClear
    (repeat' split)
    · exact h
    · exact h
    · intro j hj
      show upd d.n i.toNat 0 j ≤ (upd d.b i.toNat [] j).length
      unfold upd
      split
      · exact Nat.le_refl _
      · exact h j hj
  · unfold dSync
    (repeat' split)
    · exact h
    · exact h
    · intro j hj
      show upd d.n i.toNat (d.b i.toNat).length j ≤ (d.b j).length
      unfold upd
      split
      · rename_i e; rw [e]; exact Nat.le_refl _
      · exact h j hj
  · unfold dRead
    (repeat' split) <;> exact h
theorem lay_clo {P : DvN → Prop} (h : Clo P) (g : EgN) (d : DvN) (i : Int) (s : List UInt8) (hd : P d) : P (layE dOps g d i s).2.2 := by
  rw [layE_d]
  (repeat' split)
  · exact h.sync _ _ (h.add _ _ _ hd)
  · exact h.sync _ _ (h.add _ _ _ hd)
  · exact h.add _ _ _ hd
theorem anew_clo {P : DvN → Prop} (h : Clo P) (g : EgN) (d : DvN) (i : Nat) (hd : P d) : P (anewE dOps g d i).2.2 := by
  unfold anewE
  (repeat' split)
  · exact hd
  · exact hd
  · exact lay_clo h _ _ _ _ (h.clear _ _ hd)
  · exact lay_clo h _ _ _ _ (h.clear _ _ hd)
  · exact h.clear _ _ hd
theorem read_clo {P : DvN → Prop} (h : Clo P) (g : EgN) (d : DvN) (hd : P d) : P (readE dOps g d).2.2.1 := by
  rw [readE_d]
  (repeat' split)
  · exact h.read _ _ (h.read _ _ (h.sync _ _ (h.sync _ _ hd)))
  · exact h.read _ _ (h.read _ _ (h.sync _ _ (h.sync _ _ hd)))
  · exact h.read _ _ (h.sync _ _ (h.sync _ _ hd))
  · exact h.sync _ _ (h.sync _ _ hd)
  · exact h.sync _ _ hd
theorem find_clo {P : DvN → Prop} (h : Clo P) (g : EgN) (d : DvN) (t0 t1 : List UInt8) (hd : P d) : P (findE dOps g d t0 t1).2.2 := by
  unfold findE
  (repeat' split) <;> first | exact anew_clo h _ _ _ hd | exact hd
theorem open_clo {P : DvN → Prop} (h : Clo P) (g : EgN) (d : DvN) (hd : P d) : P (openE dOps g d).2.2 := by
  unfold openE
  split
  · exact find_clo h _ _ _ _ (read_clo h g d hd)
  · exact read_clo h g d hd
theorem pers_clo {P : DvN → Prop} (h : Clo P) (g : EgN) (d : DvN) (hd : P d) : P (persE dOps g d).2.2 := by
  unfold persE
  (repeat' split)
  · exact hd
  · exact anew_clo h _ _ _ hd
  · exact lay_clo h _ _ _ _ hd
  · exact lay_clo h _ _ _ _ hd
theorem anewE_z {α : Type} (o : Dev α) (g : EgN) (d : α) (i : Nat) : (anewE o g d i).2.1.z = g.z := by
  unfold anewE
  (repeat' split) <;> rfl
theorem findE_z {α : Type} (o : Dev α) (g : EgN) (d : α) (t0 t1 : List UInt8) : (findE o g d t0 t1).2.1.z = g.z := by
  unfold findE
  (repeat' split) <;> first | exact anewE_z _ _ _ _ | rfl
theorem readE_z {α : Type} (o : Dev α) (g : EgN) (d : α) : (readE o g d).2.1.z = g.z := by
  unfold readE
  (repeat' split) <;> rfl
theorem openE_z {α : Type} (o : Dev α) (g : EgN) (d : α) : (openE o g d).2.1.z = g.z := by
  unfold openE
  split
  · rw [findE_z, readE_z]
  · exact readE_z _ _ _
theorem persE_z {α : Type} (o : Dev α) (g : EgN) (d : α) : (persE o g d).2.1.z = g.z := by
  unfold persE
  split
  · rfl
  · split
    · exact anewE_z _ _ _ _
    · split <;> rfl
/-- The numbers that an engine's calls may answer: OK, ErrFull, ErrDevice, ErrSpent. -/
def isCd (n : Int) : Prop := n = 0 ∨ n = 14 ∨ n = 15 ∨ n = 16
theorem anew_code {α : Type} (o : Dev α) (g : EgN) (d : α) (i : Nat) : isCd (anewE o g d i).1 := by
  unfold anewE isCd
  (repeat' split) <;> simp
theorem find_code {α : Type} (o : Dev α) (g : EgN) (d : α) (t0 t1 : List UInt8) : isCd (findE o g d t0 t1).1 := by
  unfold findE
  (repeat' split) <;> first | exact anew_code _ _ _ _ | exact .inl rfl
theorem read_code {α : Type} (o : Dev α) (g : EgN) (d : α) : isCd (readE o g d).1 := by
  unfold readE isCd
  (repeat' split) <;> simp
theorem open_code {α : Type} (o : Dev α) (g : EgN) (d : α) : isCd (openE o g d).1 := by
  unfold openE
  split
  · exact find_code _ _ _ _ _
  · exact read_code _ _ _
theorem pers_code {α : Type} (o : Dev α) (g : EgN) (d : α) : isCd (persE o g d).1 := by
  unfold persE
  (repeat' split)
  · exact .inl rfl
  · exact anew_code _ _ _ _
  · exact .inl rfl
  · exact .inr (.inr (.inl rfl))
/-- Behind an OK nothing waits. -/
theorem learn_wait (g : EgN) : (learnE g).b 1 = [] := (show upd (upd g.b 0 (togB g)) 1 [] 1 = [] from upd_at _ _ _)
theorem anew_wait {α : Type} (o : Dev α) (g : EgN) (d : α) (i : Nat) (h : (anewE o g d i).1 = 0) : (anewE o g d i).2.1.b 1 = [] := by
  unfold anewE at h ⊢
  (repeat' split at h) <;> first | (cases h; done) | skip
  rename_i c1 c2 c3 c4
  rw [if_neg c1, if_neg c2, if_pos c3, if_pos c4]
  exact learn_wait _
theorem pers_wait {α : Type} (o : Dev α) (g : EgN) (d : α) (h : (persE o g d).1 = 0) : (persE o g d).2.1.b 1 = [] := by
  unfold persE at h ⊢
  by_cases c1 : (g.b 1).length = 0
  · rw [if_pos c1]
    exact List.length_eq_zero_iff.1 c1
  · rw [if_neg c1] at h ⊢
    by_cases c2 : 1500 < g.sz + (entsT (knT (g.b 1))).length
    · rw [if_pos c2] at h ⊢
      exact anew_wait _ _ _ _ h
    · rw [if_neg c2] at h ⊢
      by_cases c3 : (layE o g d (g.ar : Int) (entsT (knT (g.b 1)))).1 = 0
      · rw [if_pos c3]
        exact learn_wait _
      · rw [if_neg c3] at h
        cases h
end Go.Proofs.YtmmflekajbeamaaGreatDoor

namespace Go.Proofs.YtmmflekajbeamaaGreatDoor
open Go.RowKit Go.Maps Go.WideMaps

theorem wpQuiet_load_Z {ops : Array Oper} {C : World → Prop} {Q : Act → Prop} {a : Act} {op : Oper} {rest : List Oper} (hw : Region.wanted op (yielded ops a.tmps) = true) (ty : TypeId) (x : Operand) (ho : op.op = .load ty x)
    (b o : Nat) (hx : a.eval x = .pointer (some ⟨b, o, none⟩)) (z : List Int) (d : TypeDesc) (hS : ∀ w, C w → w.rangeAt b o (z.map (Value.int .i64)))
    (hu : Tryz.prog.underlying ty = some d) (hd : d.isRow = true) (hi : (Tryz.prog.info? ty).map (·.size) = some (z.map (Value.int .i64)).length) (h : wpQuiet Tryz.prog ops C Q rest (a.put op.dst (.agg (S z)))) : wpQuiet Tryz.prog ops C Q (op :: rest) a :=
  wpQuiet_step fun K hK => by
    rw [if_pos hw]
    refine ⟨.agg (S z), fun w hC => ?_, hK _ h⟩
    unfold Oper.quietAt Oper.quietUpon execOp
    simp only [ho, hx, Instr.loadAt, Instr.sureAddr, Sem.run_bind, Sem.run_pure, Result.andThen_ok, run_loadVar_mid w b o ty (z.map (Value.int .i64)) d (hS w hC) hu hd hi]
    exact ⟨trivial, rfl⟩
theorem range_drew {w : World} {b o : Nat} {cs : List Value} (h : w.rangeAt b o cs) : ∀ w', (∃ n, w' = w.drewN n) → w'.rangeAt b o cs := by
  rintro w' ⟨n, rfl⟩
  exact h
/-- The bench's Run of its engine. -/
theorem run_call {N B : Nat} {b : Bn} {e : En} {m k : Nat} {w : World} (h : BnAt N B b (some e) m k w) (ht : Tab w) (hk : k ≤ 99999900000) (n : Nat) (hn : n ≤ 2000) :
    Calls Tryz.prog 15 #[.pointer (some ⟨e.X, 0, none⟩), .int .i64 (n : Int)] w fun e' w' =>
      (overE e.g b.d.wk = true ∧ e' = .returned (.tuple #[.int .i64 0, .int .i64 17]) ∧ Below w.heap.size w w') ∨
      (overE e.g b.d.wk = false ∧ e' = .returned (.tuple #[.int .i64 ((runE e.g n).2 : Int), .int .i64 0]) ∧ ∃ m1 v1, EdAt e.E b.D (runE e.g n).1 b.d m1 v1 b.vs w' ∧ EdFr e.E b.D e.m e.v b.vs m1 v1 b.vs w w') := by
  have he := h.ed
  refine cRun_of e.X e.E n w (h.2.2 e rfl).x _ (fun e' w' q => by rcases q with ⟨_, q, _⟩ | ⟨_, q, _⟩ <;> exact ⟨_, _, q⟩) ?_
  by_cases ho : overE e.g b.d.wk = true
  · refine (eRun_over e.E b.D e.g b.d e.m e.v b.vs n w he ho).mono ?_
    rintro e' w1 ⟨rfl, hb⟩
    exact .inl ⟨ho, rfl, hb⟩
  · have ho' : overE e.g b.d.wk = false := by simpa using ho
    refine (eRun_ok e.E b.D e.g b.d e.m e.v b.vs n w k he ht ho' hn (h.2.2 e rfl).ok.run hk).mono ?_
    rintro e' w1 ⟨rfl, m1, v1, a, c, o⟩
    obtain ⟨a1, f⟩ := he.egs a c o
    exact .inr ⟨ho', rfl, m1, v1, a1, f⟩
set_option maxRecDepth 100000 in
set_option maxHeartbeats 2000000 in
theorem runs_nil {N B : Nat} {b : Bn} {m k : Nat} {w : World} (h : BnAt N B b none m k w) (fuel : Int) :
    Calls Tryz.prog 11 #[.pointer (some ⟨B, 0, none⟩), .int .i64 fuel] w fun e' w' => e' = .returned (.bool true) ∧ w' = w := by
  have c1 := h.2.1 rfl
  clear h
  go_enter Tryz.func11, Tryz.ntmps11
  go_wp2_with fail
  go_ret
  exact ⟨rfl, rfl⟩
set_option maxRecDepth 100000 in
set_option maxHeartbeats 4000000 in
theorem runs_over {N B : Nat} {b : Bn} {e : En} {m k : Nat} {w : World} (h : BnAt N B b (some e) m k w) (ht : Tab w) (hk : k ≤ 99999900000) (n : Nat) (hn : n ≤ 2000) (ho : overE e.g b.d.wk = true) :
    Calls Tryz.prog 11 #[.pointer (some ⟨B, 0, none⟩), .int .i64 (n : Int)] w fun e' w' => e' = .returned (.bool true) ∧ Below w.heap.size w w' := by
  have hE := h.2.2 e rfl
  have c1 := hE.c1
  have HR := hide (run_call h ht hk n hn)
  have HS : Hid (∀ w', Below w.heap.size w w' → Calls Tryz.prog 20 #[.pointer (some ⟨e.X, 0, none⟩)] w' fun e' w'' => e' = .returned (.agg (S b.z)) ∧ Below w'.heap.size w' w'') := fun w' hb => by
    have q := hE.up h.1.lt hb
    have := cState_any e.X e.E b.D e.g e.m e.v w' q.x q.eg
    rw [hE.z] at this
    exact this
  have hzl : b.z.length = 138 := h.1.z.len
  have hst := h.1.st
  have hB := h.1.lt
  have zz := zero34
  have eqs := eqS b.z hzl
  have szl : (Tryz.prog.info? 28).map (·.size) = some (b.z.map (Value.int .i64)).length := zlen b.z hzl
  have HO := hide ho
  clear h hE ht hk
  generalize e.X = EX at *
  generalize b.z = z at *
  go_enter Tryz.func11, Tryz.ntmps11
  go_wp2_with fail
  refine (unhide HR).mono ?_
  rintro e' w1 (⟨_, rfl, hb1⟩ | ⟨ho', _⟩)
  rotate_left
  · have := HO.out; rw [ho'] at this; cases this
  have k1 := (World.cell?_of_block (a := ⟨B, 1, none⟩) (hb1.block B hB)).trans c1
  have HB1 := hide hb1
  have hz1 := hb1.size
  clear hb1 c1 HR
  go_wp2_with fail
  refine (unhide HS _ HB1.out).mono ?_
  rintro e' w2 ⟨rfl, hb2⟩
  have hz2 := hb2.size
  have hB2 : Below w.heap.size w w2 := HB1.out.trans (hb2.mono hz1)
  obtain ⟨W3, hW3⟩ : ∃ W3, W3 = w2.alloc (.cells (S z) 28) := ⟨_, rfl⟩
  have hB3 : Below w.heap.size w W3 := by rw [hW3]; exact hB2.alloc (by omega) _
  have r3 : RowI W3 w2.heap.size 28 z := by unfold RowI; rw [hW3, _root_.Go.heap_alloc_new]
  have g0 := range_row r3 0 138 (by omega)
  rw [List.drop_zero, List.take_of_length_le (by omega)] at g0
  have g1 : W3.rangeAt B 2 (z.map (Value.int .i64)) := fun j u q => (World.cell?_of_block (hB3.block B hB)).trans (hst j u q)
  have HW3 := hide hW3; have HB3 := hide hB3; have HG0 := hide g0; have HG1 := hide g1
  clear hb2 hB2 hW3 hB3 r3 g0 g1 k1 hst HS
  go_upto_region 6 with (refine wpList_store_S rfl _ _ rfl w2.heap.size rfl z rfl hzl (by rw [isRowB_alloc_at _ _ _ _ _ rfl]; simp [S_size, zeroZ]) _ (setRow_alloc_at _ _ _ _ _ rfl) ?_)
  rw [← HW3.out]
  refine wp_region_quiet_lit (by kernel_rfl) (by kernel_rfl) ?_
  repeat (first
    | (refine wpQuiet_load_Z rfl 28 _ rfl w2.heap.size 0 rfl z _ (range_drew HG0.out) Tryz.underlying28 rfl szl ?_)
    | (refine wpQuiet_load_Z rfl 28 _ rfl B 2 rfl z _ (range_drew HG1.out) Tryz.underlying28 rfl szl ?_)
    | quiet_step (fail))
  refine wpQuiet_nil ?_
  rintro _ ⟨nq, rfl⟩
  go_wp2_with fail
  go_ret
  exact ⟨rfl, below_drewN HB3.out _⟩
end Go.Proofs.YtmmflekajbeamaaGreatDoor

namespace Go.Proofs.YtmmflekajbeamaaGreatDoor
open Go.RowKit Go.Maps Go.WideMaps

theorem EbAt.off {N B : Nat} {b : Bn} {e : En} {k : Nat} {w w' : World} (h : EbAt N B b e k w) (ho : ∀ x, x ≠ B → w'.heap[x]? = w.heap[x]?) (c1 : w'.cell? ⟨B, 1, none⟩ = w.cell? ⟨B, 1, none⟩) : EbAt N B b e k w' := by
  have hn : ∀ x, e.has x → w'.heap[x]? = w.heap[x]? := fun x q => ho x (fun c => h.nB (by rw [← c]; exact q))
  exact ⟨c1.trans h.c1, (World.cell?_of_block (hn _ (.inl rfl))).trans h.x, h.eg.kept (fun x q => hn x (.inr q)), h.ok, h.z, h.ge, h.nB, h.nX, h.sp⟩
theorem there_state {N B : Nat} {b : Bn} {m : Nat} {w : World} (h : BdAt N B b m w) (z : List Int) (hz : z.length = 138) : w.there B 2 (S z).size := by
  intro j hj
  rw [S_size, hz] at hj
  exact ⟨h.st.isSome j (by rw [List.length_map, h.z.len]; exact hj), h.fz _⟩
theorem S_list (z : List Int) : (S z).toList = z.map (Value.int .i64) := by unfold S; simp
set_option maxRecDepth 100000 in
set_option maxHeartbeats 8000000 in
theorem runs_ok {N B : Nat} {b : Bn} {e : En} {m k : Nat} {w : World} (h : BnAt N B b (some e) m k w) (hN : N ≤ w.heap.size) (h0 : 0 < N) (ht : Tab w) (hk : k ≤ 99999900000) (n : Nat) (hn : n ≤ 2000) (ho : overE e.g b.d.wk = false) :
    Calls Tryz.prog 11 #[.pointer (some ⟨B, 0, none⟩), .int .i64 (n : Int)] w fun e' w' => e' = .returned (.bool true) ∧ ∃ m1 v1, BnAt N B { b with z := (runE e.g n).1.z } (some { e with g := (runE e.g n).1, m := m1, v := v1 }) m (k + 8004) w' ∧ Below N w w' := by
  have hE := h.2.2 e rfl
  have c1 := hE.c1
  have HR := hide (run_call h ht hk n hn)
  have hgk : GOK (runE e.g n).1 (k + 8004) := (hE.ok.runE n).1.more (by omega)
  have HStr := hide (runE_str hE.ok.run n)
  rw [hE.z] at HStr
  have HZok : Hid (RunOK b.z) := h.1.z
  have HZ1 : Hid (RunOK (runE e.g n).1.z) := hgk.run.z
  have HEng : Hid (∀ (w' : World) (m1 v1 : Nat → Value), EdAt e.E b.D (runE e.g n).1 b.d m1 v1 b.vs w' → EdFr e.E b.D e.m e.v b.vs m1 v1 b.vs w w' → BdAt N B b m w' ∧ EbAt N B { b with z := (runE e.g n).1.z } { e with g := (runE e.g n).1, m := m1, v := v1 } (k + 8004) w' ∧ Below N w w') := fun w' m1 v1 a f => by
    obtain ⟨q1, _, q3, q4⟩ := h.eng hN a f h.1.ok h.1.wk hgk
    exact ⟨q1, q3, q4⟩
  have HT : Hid (∀ w', Below N w w' → Tab w') := fun w' hb => ht.below h0 hb
  have HO := hide ho
  have hNB := h.1.ge.1
  have zz := zero34
  have hX : (({ e with g := (runE e.g n).1 } : En)).X = e.X := rfl
  clear h hE ht hk hX
  generalize hrz : (runE e.g n).1.z = Z1 at *
  generalize hrn : (runE e.g n).2 = K1 at *
  have HRz := hide hrz
  clear hrz hrn
  go_enter Tryz.func11, Tryz.ntmps11
  go_wp2_with fail
  refine (unhide HR).mono ?_
  rintro e' w1 (⟨ho', _⟩ | ⟨_, rfl, m1, v1, a1, f1⟩)
  · have := HO.out; rw [ho'] at this; cases this
  obtain ⟨hd1, he1, hb1⟩ := HEng.out w1 m1 v1 a1 f1
  have HD1 := hide hd1; have HE1 := hide he1; have HB1 := hide hb1
  have hst := hd1.st
  have hzl : b.z.length = 138 := HZok.out.len
  have hzl1 : Z1.length = 138 := HZ1.out.len
  have szl := zlen b.z hzl
  have HSt := hide (stepped_run b.z n w1 (HT.out w1 hb1) HZok.out (by omega))
  have hBl := hd1.lt
  have hz1 := hb1.size
  have HSta : Hid (∀ w', Below w1.heap.size w1 w' → Calls Tryz.prog 20 #[.pointer (some ⟨e.X, 0, none⟩)] w' fun e' w'' => e' = .returned (.agg (S Z1)) ∧ Below w'.heap.size w' w'') := fun w' hb => by
    have q := he1.up hBl hb
    have := cState_any e.X e.E b.D _ m1 v1 w' q.x q.eg
    rw [show ({ e with g := (runE e.g n).1, m := m1, v := v1 } : En).g.z = Z1 from HRz.out] at this
    exact this
  have c11 := he1.c1
  clear a1 f1 hd1 he1 hb1 HR HEng c1
  go_wp2_with (refine wpList_load_mid rfl 28 _ rfl B 2 rfl (b.z.map (Value.int .i64)) _ hst Tryz.underlying28 rfl szl ?_)
  refine (unhide HSt).mono ?_
  rintro e' w2 ⟨⟨kk, hstr, rfl⟩, hb2⟩
  obtain ⟨e1, e2⟩ := HStr.out.uniq hstr
  subst e2
  rw [← e1]
  have hz2 := hb2.size
  obtain ⟨W3, hW3⟩ : ∃ W3, W3 = w2.alloc (.cells (S Z1) 28) := ⟨_, rfl⟩
  have hB3 : Below w1.heap.size w1 W3 := by rw [hW3]; exact hb2.alloc (by omega) _
  have r3 : RowI W3 w2.heap.size 28 Z1 := by unfold RowI; rw [hW3, _root_.Go.heap_alloc_new]
  have k3 : W3.cell? ⟨B, 1, none⟩ = some (.pointer (some ⟨e.X, 0, none⟩)) := (World.cell?_of_block (hB3.block B hBl)).trans c11
  have HW3 := hide hW3; have HB3 := hide hB3; have HR3 := hide r3
  have hs3 : w2.heap.size < W3.heap.size := r3.lt
  clear hstr e1 hb2 hW3 hB3 r3 hst c11 HSt HStr
  go_upto_region 8 with (refine wpList_store_S rfl _ _ rfl w2.heap.size rfl Z1 rfl hzl1 (by rw [isRowB_alloc_at _ _ _ _ _ rfl]; simp [S_size, zeroZ]) _ (setRow_alloc_at _ _ _ _ _ rfl) ?_)
  rw [← HW3.out]
  go_wp2_with fail
  refine (unhide HSta _ HB3.out).mono ?_
  rintro e' w4 ⟨rfl, hb4⟩
  have hz4 := hb4.size
  obtain ⟨W5, hW5⟩ : ∃ W5, W5 = w4.alloc (.cells (S Z1) 28) := ⟨_, rfl⟩
  have hB5 : Below w1.heap.size w1 W5 := by rw [hW5]; exact (HB3.out.trans (hb4.mono HB3.out.size)).alloc (by omega) _
  have r5 : RowI W5 w4.heap.size 28 Z1 := by unfold RowI; rw [hW5, _root_.Go.heap_alloc_new]
  have r35 : RowI W5 w2.heap.size 28 Z1 := by rw [hW5]; exact (HR3.out.keep (hb4.block _ hs3)).keep (Below.heap_alloc w4 _ _ (by omega))
  have HW5 := hide hW5; have HB5 := hide hB5
  have hd5 := HD1.out.up (by omega) hB5
  obtain ⟨hd6, ho6, hc6, hs6⟩ := hd5.setZ Z1 HZ1.out
  have he6 : EbAt N B { b with z := Z1 } { e with g := (runE e.g n).1, m := m1, v := v1 } (k + 8004) (W5.setCells B 2 (Z1.map (Value.int .i64))) := (HE1.out.up hBl hB5).off ho6 (hc6 1 (by decide))
  have HFin : Hid (BnAt N B { b with z := Z1 } (some { e with g := (runE e.g n).1, m := m1, v := v1 }) m (k + 8004) (W5.setCells B 2 (Z1.map (Value.int .i64))) ∧ Below N w (W5.setCells B 2 (Z1.map (Value.int .i64)))) :=
    ⟨⟨hd6, fun q => (by cases q), fun e' q => by cases q; exact he6⟩, below_setCells hNB _ _ _ (HB1.out.trans (hB5.mono (by omega)))⟩
  have th5 := there_state hd5 Z1 hzl1
  have nB1 : w2.heap.size ≠ B := by omega
  have nB2 : w4.heap.size ≠ B := by have := hb4.size; omega
  have r56 : (W5.setCells B 2 (Z1.map (Value.int .i64))).rangeAt w4.heap.size 0 (Z1.map (Value.int .i64)) := fun j u q => (World.cell?_of_block (ho6 _ nB2)).trans (by
    have g := range_row r5 0 138 (by omega)
    rw [List.drop_zero, List.take_of_length_le (by omega)] at g
    exact g j u q)
  have r36 : (W5.setCells B 2 (Z1.map (Value.int .i64))).rangeAt w2.heap.size 0 (Z1.map (Value.int .i64)) := fun j u q => (World.cell?_of_block (ho6 _ nB1)).trans (by
    have g := range_row r35 0 138 (by omega)
    rw [List.drop_zero, List.take_of_length_le (by omega)] at g
    exact g j u q)
  have rI5 := r35.isRow 138 hzl1
  have rD5 := r35.rowD
  have szl1 := zlen Z1 hzl1
  have eqs := eqS Z1 hzl1
  have hone := S_one Z1
  have HLi := hide (S_list Z1)
  obtain ⟨W6, hW6⟩ : ∃ W6, W6 = W5.setCells B 2 (Z1.map (Value.int .i64)) := ⟨_, rfl⟩
  have HW6 : Hid (W5.setCells B 2 (S Z1).toList = W6) := by unfold Hid; rw [S_list, hW6]
  rw [← hW6] at r56 r36 HFin
  have hs28 : (Tryz.prog.info? 28).map (·.size) = some (S Z1).size := by rw [size34, S_size, hzl1]
  clear hd5 hd6 ho6 hc6 hs6 he6 hW6 hb4 hW5 hB5 r5 r35 k3 HSta HD1 HE1
  go_upto_region 9 with (refine wpList_store_S rfl _ _ rfl w4.heap.size rfl Z1 rfl hzl1 (by rw [isRowB_alloc_at _ _ _ _ _ rfl]; simp [S_size, zeroZ]) _ (setRow_alloc_at _ _ _ _ _ rfl) ?_)
  rw [← HW5.out]
  go_upto_region 10 with (first
    | (refine wpList_load_S rfl _ rfl w2.heap.size rfl rI5 _ rD5 ?_)
    | (refine wpList_store_mid rfl 28 _ _ rfl B 2 (S Z1) rfl rfl th5 hs28 hone ?_))
  rw [HW6.out]
  go_wp2_with (first
    | (refine wpList_load_midZ rfl 28 _ rfl w4.heap.size 0 rfl Z1 _ r56 Tryz.underlying28 rfl szl1 ?_)
    | (refine wpList_load_midZ rfl 28 _ rfl w2.heap.size 0 rfl Z1 _ r36 Tryz.underlying28 rfl szl1 ?_))
  go_ret
  exact ⟨rfl, m1, v1, HFin.out⟩
end Go.Proofs.YtmmflekajbeamaaGreatDoor

namespace Go.Proofs.YtmmflekajbeamaaGreatDoor
open Go.RowKit Go.Maps Go.WideMaps

/-- What a start over the bench's device comes to. -/
def opB (b : Bn) : Int × EgN × DvN := openE dOps (newG (wrap64 (b.d.wk + 1)) b.z) (engD b.d)
/-- What started leaves. -/
def SdFin (N B : Nat) (b : Bn) (m : Nat) (R : Int × EgN × DvN) (w w' : World) : Prop :=
  ∃ vs' oe, BnAt N B { b with d := R.2.2, vs := vs' } oe (m + 1) 1500 w' ∧ Below N w w' ∧ ((R.1 = 0 ∧ ∃ X E m1 v1, oe = some ⟨X, E, R.2.1, m1, v1⟩) ∨ (R.1 ≠ 0 ∧ oe = none))
def SdPost (N B : Nat) (b : Bn) (m : Nat) (w : World) (e' : Ending) (w' : World) : Prop := e' = .returned (.bool true) ∧ SdFin N B b m (opB b) w w'
theorem opB_ok {N B : Nat} {b : Bn} {m : Nat} {w : World} (h : BdAt N B b m w) (hm : m ≤ 1000000000000000) : DvOK (opB b).2.2 ∧ (opB b).2.2.wk = b.d.wk + 1 ∧ isCd (opB b).1 ∧ (opB b).2.1.z = b.z ∧ GOK (opB b).2.1 1500 := by
  have hw : wrap64 (b.d.wk + 1) = b.d.wk + 1 := by have := h.wk; unfold wrap64; omega
  have e1 : DvOK (engD b.d) := h.ok
  have e2 : (engD b.d).wk = b.d.wk + 1 := hw
  exact ⟨open_clo clo_ok _ _ e1, open_clo (clo_wk (b.d.wk + 1)) _ _ e2, open_code _ _ _, openE_z _ _ _, GOK.open h.z _ _ h.dv.len⟩
theorem st_start {N B : Nat} {b : Bn} {m : Nat} {w w1 w2 : World} {vs' : Nat → Value} (h : BdAt N B b m w) (hN : N ≤ w.heap.size) (hm : m ≤ 1000000000000000) (hw1 : w1 = w.setCell ⟨B, 1, none⟩ (.pointer none)) (hd : DvAt b.D (opB b).2.2 vs' w2) (hc : Chg (dHas b.D b.vs) w1.drew w2) (vo : ∀ x, dHas b.D vs' x → dHas b.D b.vs x ∨ w1.drew.heap.size ≤ x) :
    BdAt N B { b with d := (opB b).2.2, vs := vs' } (m + 1) w2 ∧ w2.cell? ⟨B, 1, none⟩ = some (.pointer none) ∧ Below N w w2 := by
  obtain ⟨q1, q2, _, _, _⟩ := opB_ok h hm
  have hs : w1.drew.heap.size = w.heap.size := by rw [hw1]; exact set_size
  have h1 : BdAt N B b m w1 := by rw [hw1]; exact h.setE _
  have hB : w2.heap[B]? = w1.heap[B]? := hc.other B (by rw [hs]; exact h.lt) (fun q => h.nB (.inr q))
  have hX : w2.heap[b.X]? = w1.heap[b.X]? := hc.other b.X (by rw [hs]; exact h.xlt) h.nX
  have hs1 : w1.heap.size = w.heap.size := hs
  obtain ⟨v, hv⟩ := h.c1
  refine ⟨h1.turn (by have := hc.size; rw [hs] at this; omega) (by omega) hB hX hd q1 ⟨by rw [q2]; have := h.wk.1; omega, by rw [q2]; have := h.wk.2; omega⟩ (fun x q => by rw [hs1, ← hs]; exact vo x q), ?_, ?_⟩
  · rw [World.cell?_of_block hB, hw1]
    exact World.cell?_setCell_same _ _ _ hv
  · have hb1 : Below N w w1.drew := by rw [hw1]; exact ((Below.refl N w).setCell (p := ⟨B, 1, none⟩) h.ge.1 _).drew
    exact hb1.trans (hc.below (by rw [hs]; exact hN) (fun x q => h.ge.2 x (.inr q)))
set_option maxRecDepth 100000 in
set_option maxHeartbeats 8000000 in
theorem started_any {N B : Nat} {b : Bn} {m : Nat} {w : World} (h : BdAt N B b m w) (hN : N ≤ w.heap.size) (h0 : 0 < N) (ht : Tab w) (hm : m ≤ 1000000000000000) :
    Calls Tryz.prog 25 #[.pointer (some ⟨B, 0, none⟩)] w (SdPost N B b m w) := by
  obtain ⟨W, hW⟩ : ∃ W, W = w.setCell ⟨B, 1, none⟩ (.pointer none) := ⟨_, rfl⟩
  obtain ⟨v1, c1⟩ := h.c1
  have f1 := h.fz 1
  have hWd : BdAt N B b m W := by rw [hW]; exact h.setE _
  have hWs : W.heap.size = w.heap.size := by rw [hW]; exact set_size
  have hbW : Below N w W := by rw [hW]; exact (Below.refl N w).setCell (p := ⟨B, 1, none⟩) h.ge.1 _
  have c0 := hWd.c0
  have st := hWd.st
  have HC := hide (cStart_any b.X b.D b.d b.vs b.z W.drew hWd.x (hWd.dv.kept (Nat.le_refl _) (fun _ _ => rfl)) (ht.below h0 hbW.drew) h.z.len h.z.st)
  have HSs : Hid (∀ w2 vs', DvAt b.D (opB b).2.2 vs' w2 → Chg (dHas b.D b.vs) W.drew w2 → (∀ x, dHas b.D vs' x → dHas b.D b.vs x ∨ W.drew.heap.size ≤ x) → BdAt N B { b with d := (opB b).2.2, vs := vs' } (m + 1) w2 ∧ w2.cell? ⟨B, 1, none⟩ = some (.pointer none) ∧ Below N w w2) := fun w2 vs' a c vo => st_start h hN hm hW a c vo
  have HOk := hide (opB_ok h hm)
  have hzl : b.z.length = 138 := h.z.len
  have szl := zlen b.z hzl
  have zz := zero34
  have eqs := eqS b.z hzl
  have HW := hide hW
  have hBl := h.lt
  have HNB := hide h.ge.1
  have HXl := hide h.xlt
  clear h ht hWd hbW hW
  generalize hop : openE dOps (newG (wrap64 (b.d.wk + 1)) b.z) (engD b.d) = OP at *
  have hOP : opB b = OP := hop
  unfold SdPost
  rw [hOP] at HSs HOk ⊢
  clear hop hOP
  obtain ⟨n, g', d'⟩ := OP
  simp only at HC HSs HOk ⊢
  obtain ⟨z, hbz⟩ : ∃ z, z = b.z := ⟨_, rfl⟩
  rw [← hbz] at HC st hzl szl eqs
  have HBz : Hid (b.z = z) := hbz.symm
  clear hbz
  go_enter Tryz.func25, Tryz.ntmps25
  go_upto_region 2 with fail
  rw [← HW.out]
  clear c1 f1
  refine held_pick3 6 [0, 1, 2, 3, 4, 5, 6, 7] [8] 8 9 (fun w' => w'.cell? ⟨B, 0, none⟩ = some (.pointer (some ⟨b.X, 0, none⟩)) ∧ Hid (w'.rangeAt B 2 (z.map (Value.int .i64)))) (by kernel_rfl) (by kernel_rfl) (fun d _ _ _ _ h => by cases d <;> exact h) ⟨c0, st⟩ ?_
  iterate 7
    refine wpTakeI_step ?_ rfl rfl ?_ ?_
    rotate_left
    · rintro w' ⟨q0, q1⟩
      go_simp
      rfl
    go_simp
  refine ⟨_, .agg (S z), rfl, yieldsIf_load_mid rfl 28 _ rfl B 2 rfl (z.map (Value.int .i64)) _ (fun w' hS => hS.2.out) Tryz.underlying28 rfl szl, ?_⟩
  go_simp
  refine wpTakeI_nil ?_
  refine wpTailJ_step rfl rfl (fun K hK => ?_)
  go_simp
  refine (unhide HC).mono ?_
  rintro e w2 ⟨vs', hd2, hc2, vo2, hres⟩
  obtain ⟨hB2, hn2, hb2⟩ := HSs.out w2 vs' hd2 hc2 vo2
  have HB2 := hide hB2; have HBl := hide hb2
  have hz2 := hc2.size
  have hWd : W.drew.heap.size = W.heap.size := rfl
  rw [hWd, hWs] at hz2
  have hBf := hB2.fz 1
  have hst2 := hB2.st
  have HVo := hide vo2; have HC2 := hide hc2
  clear hd2 hc2 vo2 hB2 hb2 HC HSs
  rcases hres with ⟨hn, rfl⟩ | ⟨hn, X, E, m1, v1, hE, hX, rfl, hxa, hea, hef, hdx⟩
  · have HN := hide hn
    go_simp
    refine hK _ _ (fun h => absurd h (by decide)) ?_
    clear hK K
    refine wpTailJ_nil ?_
    repeat still_step
    refine wpStill_nil ?_
    have HFin : Hid (SdFin N B b m (n, g', d') w w2) := ⟨vs', none, ⟨HB2.out, fun _ => hn2, fun e q => by cases q⟩, HBl.out, .inr ⟨HN.out, rfl⟩⟩
    have hcd := HOk.out.2.2.1
    clear hst2 hBf hn2 HB2 HOk
    rcases hcd with q | q | q | q
    · exact absurd q HN.out
    all_goals
      have q' : n = _ := q
      clear q hn HN
      subst q'
      go_wp2_with fail
      go_ret
      exact ⟨rfl, HFin.out⟩
  · subst hn
    go_simp
    refine hK _ _ (fun h => absurd h (by decide)) ?_
    clear hK K
    refine wpTailJ_nil ?_
    repeat still_step
    refine wpStill_nil ?_
    obtain ⟨W3, hW3⟩ : ∃ W3, W3 = w2.setCell ⟨B, 1, none⟩ (.pointer (some ⟨X, 0, none⟩)) := ⟨_, rfl⟩
    rw [hWd, hWs] at hE hX hef
    have hB3 : BdAt N B { b with d := d', vs := vs' } (m + 1) W3 := by rw [hW3]; exact HB2.out.setE _
    have hXB : X ≠ B := by omega
    have hE3 : EbAt N B { b with d := d', vs := vs' } ⟨X, E, g', m1, v1⟩ 1500 W3 := by
      obtain ⟨_, _, _, o4, o5⟩ := HOk.out
      have oth : ∀ x, x ≠ B → W3.heap[x]? = w2.heap[x]? := fun x hx => by rw [hW3]; exact set_other hx
      refine ⟨?_, (World.cell?_of_block (oth _ hXB)).trans hxa, hea.eg.kept (fun x q => oth x (by have := (hef x q).1; omega)), o5, ?_, fun x q => ?_, fun q => ?_, fun q => (hef X q).2 rfl, fun x q1 q2 => ?_⟩
      · rw [hW3]; exact World.cell?_setCell_same _ _ _ hn2
      · exact o4
      · rcases q with q | q
        · have q' : x = X := q; omega
        · have := (hef x q).1; omega
      · rcases q with q | q
        · exact hXB q.symm
        · have := (hef B q).1; omega
      · rcases q1 with q1 | q1
        · have q1' : x = X := q1
          rcases q2 with q2 | q2
          · have q2' : x = b.X := q2
            have := HXl.out
            omega
          · exact hdx x q2 q1'
        · rcases q2 with q2 | q2
          · have q2' : x = b.X := q2
            have := HXl.out
            have := (hef x q1).1
            omega
          · exact hea.sep x q1 q2
    have HSt : Hid (∀ w', Below W3.heap.size W3 w' → Calls Tryz.prog 20 #[.pointer (some ⟨X, 0, none⟩)] w' fun e' w'' => e' = .returned (.agg (S z)) ∧ Below w'.heap.size w' w'') := fun w' hb => by
      have q := hE3.up hB3.lt hb
      have := cState_any X E b.D g' m1 v1 w' q.x q.eg
      rw [HOk.out.2.2.2.1, HBz.out] at this
      exact this
    have HW3 := hide hW3; have HB3 := hide hB3; have HE3 := hide hE3
    have HBl3 : Hid (Below N w W3) := by
      unfold Hid
      rw [hW3]
      exact HBl.out.setCell (p := ⟨B, 1, none⟩) HNB.out _
    have hs3 : W3.heap.size = w2.heap.size := by rw [hW3]; exact set_size
    have hB3l := hB3.lt
    have g1 := hB3.st
    clear hW3 hB3 hE3 hxa hea hef hdx hst2 HB2
    go_upto_region 8 with fail
    rw [← HW3.out]
    clear hn2 hBf
    go_wp2_with fail
    refine (unhide HSt _ (Below.refl _ _)).mono ?_
    rintro e w4 ⟨rfl, hb4⟩
    have hz4 := hb4.size
    obtain ⟨W5, hW5⟩ : ∃ W5, W5 = w4.alloc (.cells (S z) 28) := ⟨_, rfl⟩
    have hB5 : Below W3.heap.size W3 W5 := by rw [hW5]; exact hb4.alloc (by omega) _
    have r5 : RowI W5 w4.heap.size 28 z := by unfold RowI; rw [hW5, _root_.Go.heap_alloc_new]
    have g0 := range_row r5 0 138 (by omega)
    rw [List.drop_zero, List.take_of_length_le (by omega)] at g0
    have g2 : W5.rangeAt B 2 (z.map (Value.int .i64)) := fun j u q => (World.cell?_of_block (hB5.block B hB3l)).trans (by rw [← HBz.out] at q; exact g1 j u q)
    have HW5 := hide hW5; have HG0 := hide g0; have HG2 := hide g2; have HB5 := hide hB5
    clear hb4 hW5 hB5 r5 g0 g2 g1 HSt
    go_upto_region 9 with (refine wpList_store_S rfl _ _ rfl w4.heap.size rfl z rfl hzl (by rw [isRowB_alloc_at _ _ _ _ _ rfl]; simp [S_size, zeroZ]) _ (setRow_alloc_at _ _ _ _ _ rfl) ?_)
    rw [← HW5.out]
    refine wp_region_quiet_lit (by kernel_rfl) (by kernel_rfl) ?_
    repeat (first
      | (refine wpQuiet_load_Z rfl 28 _ rfl w4.heap.size 0 rfl z _ (range_drew HG0.out) Tryz.underlying28 rfl szl ?_)
      | (refine wpQuiet_load_Z rfl 28 _ rfl B 2 rfl z _ (range_drew HG2.out) Tryz.underlying28 rfl szl ?_)
      | quiet_step (fail))
    refine wpQuiet_nil ?_
    rintro _ ⟨nq, rfl⟩
    go_wp2_with fail
    go_ret
    have hBd : Below W3.heap.size W3 (W5.drewN nq) := below_drewN HB5.out _
    have hNw : N ≤ W3.heap.size := by omega
    exact ⟨rfl, vs', some ⟨X, E, g', m1, v1⟩, BnAt.up ⟨HB3.out, fun q => (by cases q), fun e q => by cases q; exact HE3.out⟩ hNw hBd, HBl3.out.trans (hBd.mono hNw), .inl ⟨rfl, X, E, m1, v1, rfl⟩⟩
end Go.Proofs.YtmmflekajbeamaaGreatDoor
