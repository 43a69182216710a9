/-
  The engine: a step (step).
  As OrdU: a third kind of steps: those from q on whose values hang on no world (none, i).
  As OrdV: ahead of the plan some operations whose values hang on no world, taken first wherever they stand.
  The engine: a block is run (runBlock).
-/
import Derived.Test.YtmmflekajbeamabGreatDoorW28
import Derived.Test.YtmmflekajbeamabGreatDoorW15
import Derived.Test.YtmmflekajbeamabGreatDoorW25
namespace Go.Proofs.YtmmflekajbeamabGreatDoor
open Go.RowKit Go.Maps Go.WideMaps

theorem EgAt.regs {E D : Nat} {g : EgN} {m v : Nat → Value} {w : World} (h : EgAt E D g m v w) : w.rangeAt E 3 ((g.z.take 8).map (Value.int .i64)) := fun j u q => by
  refine h.st j u ?_
  have hj : j < 8 := by have := (List.getElem?_eq_some_iff.1 q).1; rw [List.length_map, List.length_take] at this; omega
  rw [List.getElem?_map, List.getElem?_take, if_pos hj] at q
  rw [List.getElem?_map]
  exact q
theorem EgAt.mems {E D : Nat} {g : EgN} {m v : Nat → Value} {w : World} (h : EgAt E D g m v w) : w.rangeAt E 11 ((memZ g.z).map (Value.int .i64)) := fun j u q => by
  have hj : j < 128 := by have := (List.getElem?_eq_some_iff.1 q).1; rw [List.length_map] at this; unfold memZ at this; rw [List.length_take] at this; omega
  have := h.st (8 + j) u (by
    unfold memZ at q
    rw [List.getElem?_map, List.getElem?_take, if_pos hj, List.getElem?_drop] at q
    rw [List.getElem?_map]
    exact q)
  rw [show 3 + (8 + j) = 11 + j by omega] at this
  exact this
theorem EgAt.setRegs {E D : Nat} {g : EgN} {m v : Nat → Value} {w : World} (h : EgAt E D g m v w) (r : List Int) (hr : r.length = 8) : EgAt E D { g with z := r ++ g.z.drop 8 } m v (w.setCells E 3 (r.map (Value.int .i64))) := by
  have hl : (r.map (Value.int .i64)).length = 8 := by rw [List.length_map, hr]
  have hout : ∀ k, k < 3 ∨ 11 ≤ k → (w.setCells E 3 (r.map (Value.int .i64))).cell? ⟨E, k, none⟩ = w.cell? ⟨E, k, none⟩ := fun k hk => World.cell?_setCells_out E _ 3 w ⟨E, k, none⟩ (fun _ _ => by rw [hl]; show k < 3 ∨ 3 + 8 ≤ k; omega)
  refine ⟨fun k => by rw [World.frozen?_setCells]; exact h.fz k, fun k hk => (hout k (by unfold isSc at hk; omega)).trans (h.sc k hk), fun j u q => ?_, ?_, fun i hi => ?_, h.sep⟩
  · have q' : ((r ++ g.z.drop 8).map (Value.int .i64))[j]? = some u := q
    rcases Nat.lt_or_ge j 8 with hj | hj
    · refine World.rangeAt_setCells_same w E 3 _ (fun k hk => ⟨?_, h.fz _⟩) j u ?_
      · exact h.st.isSome k (by rw [List.length_map, h.zl]; rw [hl] at hk; omega)
      · rw [List.map_append, List.getElem?_append_left (by rw [hl]; exact hj)] at q'
        exact q'
    · rw [hout (3 + j) (by omega)]
      refine h.st j u ?_
      rw [List.map_append, List.getElem?_append_right (by rw [hl]; exact hj), hl, List.getElem?_map, List.getElem?_drop, show 8 + (j - 8) = j by omega] at q'
      rw [List.getElem?_map]
      exact q'
  · show (r ++ g.z.drop 8).length = 138
    rw [List.length_append, List.length_drop, hr, h.zl]
  · refine (h.bk i hi).kept (fun k hk => hout k (by omega)) (fun x q => ?_)
    exact heap_setCells_other E _ 3 w x (h.ne hi q)
theorem EgAt.setPc {E D : Nat} {g : EgN} {m v : Nat → Value} {w : World} (h : EgAt E D g m v w) (x : Int) : EgAt E D { g with z := g.z.set 136 x } m v (w.setCell ⟨E, 139, none⟩ (.int .i64 x)) := by
  refine ⟨fun k => by rw [World.frozen?_setCell]; exact h.fz k, fun k hk => (cell_off (by unfold isSc at hk; omega)).trans (h.sc k hk), fun j u q => ?_, by show (g.z.set 136 x).length = 138; rw [List.length_set, h.zl], fun i hi => (h.bk i hi).kept (fun k hk => cell_off (by omega)) (fun y q => set_other (h.ne hi q)), h.sep⟩
  have q' : ((g.z.set 136 x).map (Value.int .i64))[j]? = some u := q
  rw [List.getElem?_map, List.getElem?_set] at q'
  by_cases e : 136 = j
  · subst e
    rw [if_pos rfl, if_pos (by rw [h.zl]; decide)] at q'
    have hu : u = .int .i64 x := by simpa using q'.symm
    subst hu
    obtain ⟨y, hy⟩ : ∃ y, w.cell? ⟨E, 3 + 136, none⟩ = some y := by
      have := h.st.isSome 136 (by rw [List.length_map, h.zl]; decide)
      exact Option.isSome_iff_exists.1 this
    exact World.cell?_setCell_same _ _ _ hy
  · rw [if_neg e] at q'
    rw [cell_off (by omega)]
    exact h.st j u (by rw [List.getElem?_map]; exact q')
theorem Chg.setCells (w : World) (E o : Nat) (vs : List Value) : Chg (fun x => x = E) w (w.setCells E o vs) := by
  induction vs generalizing w o with
  | nil => exact Chg.refl _ _
  | cons u r ih => exact (Chg.set w E o u).trans (fun x q => .inl q) (ih (w.setCell ⟨E, o, none⟩ u) (o + 1))
theorem zlen (z : List Int) (h : z.length = 138) : (Tryz.prog.info? 25).map (·.size) = some (z.map (Value.int .i64)).length := by rw [size34, List.length_map, h]
set_option maxRecDepth 100000 in
set_option maxHeartbeats 2000000 in
theorem estep_any (E D : Nat) (g : EgN) (m v : Nat → Value) (w : World) (h : EgAt E D g m v w) (ht : Tab w) :
    Calls Tryz.prog 124 #[.pointer (some ⟨E, 0, none⟩)] w fun e' w' => e' = .returned (.tuple #[]) ∧ EgAt E D { g with z := (stp g.z).1 } m v w' ∧ Chg (eHas E m v) w w' := by
  have HSt := hide (fun w' (ht' : Tab w') => mstep_any g.z w' h.zl ht')
  have HH := hide h
  have hr := h.st
  have hzl := zlen g.z h.zl
  have hz2 := stp_len g.z h.zl
  have HT := hide ht
  clear h ht
  go_enter Tryz.func124, Tryz.ntmps124
  go_wp2_with (refine wpList_load_mid rfl 25 _ rfl E 3 rfl (g.z.map (Value.int .i64)) _ hr Tryz.underlying25 rfl hzl ?_)
  refine (unhide HSt _ HT.out).mono ?_
  rintro e w1 ⟨rfl, hb1⟩
  have k1 : EgAt E D g m v w1 := HH.out.kept (fun x q => hb1.block x (HH.out.has q).2)
  have ht1 : w1.there E 3 (S (stp g.z).1).size := fun j hj => ⟨k1.st.isSome j (by rw [List.length_map, k1.zl]; rw [S_size, hz2] at hj; exact hj), k1.fz _⟩
  have hs1 : (Tryz.prog.info? 25).map (·.size) = some (S (stp g.z).1).size := by rw [size34, S_size, hz2]
  have hone := S_one (stp g.z).1
  have HE : Hid (∀ W, W = w1.setCells E 3 (S (stp g.z).1).toList → EgAt E D { g with z := (stp g.z).1 } m v W ∧ Chg (eHas E m v) w W) := fun W hW => by
    rw [hW]
    refine ⟨k1.setZ (stp g.z).1 hz2, (Chg.of_below hb1).trans (fun x q => .inl q) ((Chg.setCells w1 E 3 _).weak (fun x q => .inl (.inl q)))⟩
  clear hb1 k1 HSt hr
  go_wp2_with (refine wpList_store_mid rfl 25 _ _ rfl E 3 (S (stp g.z).1) rfl rfl ht1 hs1 hone ?_)
  go_end0
  exact ⟨rfl, HE.out _ rfl⟩
end Go.Proofs.YtmmflekajbeamabGreatDoor

namespace Go.Proofs.YtmmflekajbeamabGreatDoor
open Go

section
variable {P : Program} {ops : Array Oper} {Q : Exit → Act → World → Prop} {md : Region.Mode} {S : World → Prop} {q : Nat}

theorem wpAnyQ_firstP {i : Nat} {oi : Oper} {v : Value} (hi : ops[i]? = some oi) (hsel : ∀ (j : Nat) (o : Oper) cs b, ops[j]? = some o → o.op ≠ .select cs b)
    (hQ : ∀ c a w, Q (.panic c) (a.put oi.dst v) w → Q (.panic c) a w) (hiq : q ≤ i) :
    ∀ (fuel : Nat) (listed : Array Bool) (a : Act) (w : World),
      (∀ j oj, ops[j]? = some oj → j ≠ i → listed.getD j true = false → (∀ e ∈ oj.after, Region.binds md e = true → e.on ≠ i) → oi.apart ops oj = true) →
      i ∈ Region.ready md ops listed → YieldsIf P ops (fun _ => True) oi v a →
      wpAnyQ P md ops Q S q fuel (listed.setIfInBounds i true) (a.put oi.dst v) w → wpAnyQ P md ops Q S q (fuel + 1) listed a w := by
  intro fuel
  induction fuel with
  | zero =>
    intro listed a w _ hr hy H
    refine ⟨fun h => (by rw [h] at hr; cases hr), fun j hj => ?_⟩
    by_cases hji : j = i
    · subst hji; exact hy.wpOp hi trivial ⟨fun h => absurd h (by omega), H⟩
    · have := ready_mono hj hji
      rw [H.1] at this
      cases this
  | succ fuel ih =>
    intro listed a w hfree hr hy H
    refine ⟨fun h => (by rw [h] at hr; cases hr), fun j hj => ?_⟩
    by_cases hji : j = i
    · subst hji; exact hy.wpOp hi trivial ⟨fun h => absurd h (by omega), H⟩
    · have h1 := H.2 j (ready_mono hj hji)
      obtain ⟨hjun, oj, hoj, hall⟩ := mem_ready.1 hj
      have h0 : listed.getD i true = false := (mem_ready.1 hr).1
      have hnot : ∀ e ∈ oj.after, Region.binds md e = true → e.on ≠ i := fun e he hb heq => by
        have h1 := hall e he hb
        rw [heq] at h1
        rcases Nat.lt_or_ge i listed.size with h' | h'
        · simp [h'] at h0 h1; rw [h0] at h1; cases h1
        · simp [Array.getElem?_eq_none h'] at h1
      have h2 := wpOp_putIf hoj (hfree j oj hoj hji hjun hnot) (fun cs b => hsel i oi cs b hi) (fun cs b => hsel j oj cs b hoj) hQ hy h1
      have hfree' : ∀ k ok, ops[k]? = some ok → k ≠ i → (listed.setIfInBounds j true).getD k true = false →
          (∀ e ∈ ok.after, Region.binds md e = true → e.on ≠ i) → oi.apart ops ok = true := fun k ok hk hki hun hno => by
        refine hfree k ok hk hki ?_ hno
        by_cases hjk : j = k
        · subst hjk; exact hjun
        · rw [getD_set_ne true hjk] at hun; exact hun
      refine wpOp_mono (fun a' w' h3 => ⟨h3.2.1, ih (listed.setIfInBounds j true) a' w' hfree' (ready_mono hr (Ne.symm hji)) h3.1 ?_⟩) h2
      rw [Array.setIfInBounds_comm _ _ hji]
      exact h3.2.2
/-- Are readers left? -/
def leftC (pl : List (Option Bool × Nat)) : Bool := pl.any (fun x => x.1 == some true)
def wpPm (P : Program) (ops : Array Oper) (Q : Exit → Act → World → Prop) (S : World → Prop) (q : Nat) : List (Option Bool × Nat) → Act → World → Prop
  | [], a, w => Q .normal a w
  | (some true, i) :: pl, a, w => ∃ o v, ops[i]? = some o ∧ YieldsIf P ops S o v a ∧ wpPm P ops Q S q pl (a.put o.dst v) w
  | (none, i) :: pl, a, w => ∃ o v, ops[i]? = some o ∧ YieldsIf P ops (fun _ => True) o v a ∧ wpPm P ops Q S q pl (a.put o.dst v) w
  | (some false, k) :: pl, a, w => ∃ o, ops[k]? = some o ∧ ∀ K : Act → World → Prop, (∀ a' w', (k < q → S w') → wpPm P ops Q S q pl a' w' → K a' w') → if Region.wanted o (yielded ops a.tmps) then o.wp P a w K Q else K (a.put o.dst undef) w
theorem wpPm_pure {a : Act} {w : World} {i : Nat} {o : Oper} {pl : List (Option Bool × Nat)} (v : Value) (hi : ops[i]? = some o) (hw : Region.wanted o (yielded ops a.tmps) = true) (hv : ∀ w, (execOp a.eval o).run P w = .ok (.value v) w)
    (h : wpPm P ops Q S q pl (a.put o.dst v) w) : wpPm P ops Q S q ((none, i) :: pl) a w := ⟨o, v, hi, .inl ⟨hw, fun w _ => hv w⟩, h⟩
theorem wpPm_nil {a : Act} {w : World} (h : Q .normal a w) : wpPm P ops Q S q [] a w := h
theorem wpPm_take {a : Act} {w : World} {i : Nat} {o : Oper} {pl : List (Option Bool × Nat)} (v : Value) (hi : ops[i]? = some o) (hw : Region.wanted o (yielded ops a.tmps) = true) (hv : ∀ w, S w → (execOp a.eval o).run P w = .ok (.value v) w)
    (h : wpPm P ops Q S q pl (a.put o.dst v) w) : wpPm P ops Q S q ((some true, i) :: pl) a w := ⟨o, v, hi, .inl ⟨hw, hv⟩, h⟩
theorem wpPm_step {k : Nat} {o : Oper} {pl : List (Option Bool × Nat)} {a : Act} {w : World} (hk : ops[k]? = some o) (hg : o.guard = none) (h : ∀ K : Act → World → Prop, (∀ a' w', (k < q → S w') → wpPm P ops Q S q pl a' w' → K a' w') → o.wp P a w K Q) : wpPm P ops Q S q ((some false, k) :: pl) a w :=
  ⟨o, hk, fun K hK => by
    rw [if_pos (by simp [Region.wanted, hg])]
    exact h K hK⟩
def plnC (md : Region.Mode) (ops : Array Oper) (F q : Nat) : List (Option Bool × Nat) → Array Bool → Bool
  | [], listed => decide (Region.ready md ops listed = [])
  | (some true, i) :: pl, listed => (Region.ready md ops listed).contains i && Region.free md ops listed i && lateB md ops F i listed && (decide (i < q) && (List.range ops.size).all fun j => decide (j < q) || deepB md ops F j i) && plnC md ops F q pl (listed.setIfInBounds i true)
  | (none, i) :: pl, listed => (Region.ready md ops listed).contains i && Region.free md ops listed i && decide (q ≤ i) && plnC md ops F q pl (listed.setIfInBounds i true)
  | (some false, k) :: pl, listed => decide (Region.ready md ops listed = [k]) && (decide (k < q) || !leftC pl) && plnC md ops F q pl (listed.setIfInBounds k true)
theorem wpAnyQ_pm {F : Nat} (hsel : Region.noSelect ops = true) (hQ : ∀ d v c a w, Q (.panic c) (Act.put a d v) w → Q (.panic c) a w) : ∀ (pl : List (Option Bool × Nat)) (listed : Array Bool) (a : Act) (w : World), (leftC pl = true → S w) → plnC md ops F q pl listed = true → wpPm P ops Q S q pl a w → wpAnyQ P md ops Q S q pl.length listed a w
  | [], _, _, _, _, hB, h => ⟨by simpa [plnC] using hB, h⟩
  | (some true, i) :: pl, listed, a, w, hS, hB, h => by
    simp only [plnC, Bool.and_eq_true, decide_eq_true_eq] at hB
    obtain ⟨⟨⟨⟨hr, hf⟩, hlt⟩, hiq, hlast⟩, hB'⟩ := hB
    obtain ⟨o, v, h0, hy, hK⟩ := h
    have hSw : S w := hS rfl
    rw [List.length_cons]
    refine wpAnyQ_first2 h0 (Region.noSelect_spec hsel) (hQ o.dst v) (fun j hj hjs => ?_) hiq pl.length listed a w (Region.free_spec h0 hf) (late_of hlt) (by simpa using hr) hy hSw (wpAnyQ_pm hsel hQ pl _ _ w (fun _ => hSw) hB' hK)
    have h1 := List.all_eq_true.1 hlast j (List.mem_range.2 hjs)
    simp only [Bool.or_eq_true, decide_eq_true_eq] at h1
    rcases h1 with h1 | h1
    · omega
    · exact h1
  | (none, i) :: pl, listed, a, w, hS, hB, h => by
    simp only [plnC, Bool.and_eq_true, decide_eq_true_eq] at hB
    obtain ⟨⟨⟨hr, hf⟩, hiq⟩, hB'⟩ := hB
    obtain ⟨o, v, h0, hy, hK⟩ := h
    rw [List.length_cons]
    exact wpAnyQ_firstP h0 (Region.noSelect_spec hsel) (hQ o.dst v) hiq pl.length listed a w (Region.free_spec h0 hf) (by simpa using hr) hy (wpAnyQ_pm hsel hQ pl _ _ w (fun q => hS (by simpa [leftC] using q)) hB' hK)
  | (some false, k) :: pl, listed, a, w, hS, hB, h => by
    simp only [plnC, Bool.and_eq_true, decide_eq_true_eq, Bool.or_eq_true, Bool.not_eq_true'] at hB
    obtain ⟨⟨hr, hl⟩, hB'⟩ := hB
    obtain ⟨o, h0, h2⟩ := h
    rw [List.length_cons]
    refine ⟨fun h1 => (by rw [hr] at h1; cases h1), fun i hi => ?_⟩
    rw [hr] at hi
    have hik : i = k := by simpa using hi
    subst hik
    have h3 := h2 (fun a' w' => (i < q → S w') ∧ wpPm P ops Q S q pl a' w') (fun _ _ h1 h2 => ⟨h1, h2⟩)
    have hw : wpOp P ops Q i (fun a' w' => (i < q → S w') ∧ wpPm P ops Q S q pl a' w') a w := by
      unfold wpOp
      simp only [h0]
      split
      · rename_i hq; rw [if_pos hq] at h3; exact .inl h3
      · rename_i hq; rw [if_neg hq] at h3; exact h3
    refine wpOp_mono (fun a' w' h' => ⟨h'.1, wpAnyQ_pm hsel hQ pl _ a' w' (fun hlf => ?_) hB' h'.2⟩) hw
    rcases hl with hl | hl
    · exact h'.1 hl
    · rw [hl] at hlf; cases hlf
end
end Go.Proofs.YtmmflekajbeamabGreatDoor

namespace Go.Proofs.YtmmflekajbeamabGreatDoor
open Go

section
variable {P : Program} {ops : Array Oper} {Q : Exit → Act → World → Prop} {md : Region.Mode} {S : World → Prop} {q : Nat}

theorem wpAny_firstP {i : Nat} {oi : Oper} {v : Value} (hi : ops[i]? = some oi) (hsel : ∀ (j : Nat) (o : Oper) cs b, ops[j]? = some o → o.op ≠ .select cs b)
    (hQ : ∀ c a w, Q (.panic c) (a.put oi.dst v) w → Q (.panic c) a w) :
    ∀ (fuel : Nat) (listed : Array Bool) (a : Act) (w : World),
      (∀ j oj, ops[j]? = some oj → j ≠ i → listed.getD j true = false → (∀ e ∈ oj.after, Region.binds md e = true → e.on ≠ i) → oi.apart ops oj = true) →
      i ∈ Region.ready md ops listed → YieldsIf P ops (fun _ => True) oi v a →
      wpAny P md ops Q fuel (listed.setIfInBounds i true) (a.put oi.dst v) w → wpAny P md ops Q (fuel + 1) listed a w := by
  intro fuel
  induction fuel with
  | zero =>
    intro listed a w _ hr hy H
    refine ⟨fun h => (by rw [h] at hr; cases hr), fun j hj => ?_⟩
    by_cases hji : j = i
    · subst hji; exact hy.wpOp hi trivial H
    · have := ready_mono hj hji
      rw [H.1] at this
      cases this
  | succ fuel ih =>
    intro listed a w hfree hr hy H
    refine ⟨fun h => (by rw [h] at hr; cases hr), fun j hj => ?_⟩
    by_cases hji : j = i
    · subst hji; exact hy.wpOp hi trivial H
    · have h1 := H.2 j (ready_mono hj hji)
      obtain ⟨hjun, oj, hoj, hall⟩ := mem_ready.1 hj
      have h0 : listed.getD i true = false := (mem_ready.1 hr).1
      have hnot : ∀ e ∈ oj.after, Region.binds md e = true → e.on ≠ i := fun e he hb heq => by
        have h1 := hall e he hb
        rw [heq] at h1
        rcases Nat.lt_or_ge i listed.size with h' | h'
        · simp [h'] at h0 h1; rw [h0] at h1; cases h1
        · simp [Array.getElem?_eq_none h'] at h1
      have h2 := wpOp_putIf hoj (hfree j oj hoj hji hjun hnot) (fun cs b => hsel i oi cs b hi) (fun cs b => hsel j oj cs b hoj) hQ hy h1
      have hfree' : ∀ k ok, ops[k]? = some ok → k ≠ i → (listed.setIfInBounds j true).getD k true = false →
          (∀ e ∈ ok.after, Region.binds md e = true → e.on ≠ i) → oi.apart ops ok = true := fun k ok hk hki hun hno => by
        refine hfree k ok hk hki ?_ hno
        by_cases hjk : j = k
        · subst hjk; exact hjun
        · rw [getD_set_ne true hjk] at hun; exact hun
      refine wpOp_mono (fun a' w' h3 => ih (listed.setIfInBounds j true) a' w' hfree' (ready_mono hr (Ne.symm hji)) h3.1 ?_) h2
      rw [Array.setIfInBounds_comm _ _ hji]
      exact h3.2
/-- Those whose values hang on no world. -/
def wpPu (P : Program) (ops : Array Oper) (L : Act → Prop) : List Nat → Act → Prop
  | [], a => L a
  | i :: ps, a => ∃ o v, ops[i]? = some o ∧ YieldsIf P ops (fun _ => True) o v a ∧ wpPu P ops L ps (a.put o.dst v)
theorem wpPu_nil {L : Act → Prop} {a : Act} (h : L a) : wpPu P ops L [] a := h
theorem wpPu_take {L : Act → Prop} {a : Act} {i : Nat} {o : Oper} {ps : List Nat} (v : Value) (hi : ops[i]? = some o) (hw : Region.wanted o (yielded ops a.tmps) = true) (hv : ∀ w, (execOp a.eval o).run P w = .ok (.value v) w)
    (h : wpPu P ops L ps (a.put o.dst v)) : wpPu P ops L (i :: ps) a := ⟨o, v, hi, .inl ⟨hw, fun w _ => hv w⟩, h⟩
def puB (md : Region.Mode) (ops : Array Oper) (F q : Nat) (pl : List (Option Bool × Nat)) : List Nat → Array Bool → Bool
  | [], listed => plnC md ops F q pl listed
  | i :: ps, listed => (Region.ready md ops listed).contains i && Region.free md ops listed i && puB md ops F q pl ps (listed.setIfInBounds i true)
theorem wpAny_pu {F : Nat} {pl : List (Option Bool × Nat)} {w : World} (hsel : Region.noSelect ops = true) (hQ : ∀ d v c a w, Q (.panic c) (Act.put a d v) w → Q (.panic c) a w) (hS : S w) : ∀ (ps : List Nat) (listed : Array Bool) (a : Act), puB md ops F q pl ps listed = true → wpPu P ops (fun a' => wpPm P ops Q S q pl a' w) ps a → wpAny P md ops Q (ps.length + pl.length) listed a w
  | [], listed, a, hB, h => by
    rw [List.length_nil, Nat.zero_add]
    exact wpAny_of_Q _ _ _ _ (wpAnyQ_pm hsel hQ pl listed a w (fun _ => hS) hB h)
  | i :: ps, listed, a, hB, h => by
    simp only [puB, Bool.and_eq_true] at hB
    obtain ⟨⟨hr, hf⟩, hB'⟩ := hB
    obtain ⟨o, v, h0, hy, hK⟩ := h
    rw [List.length_cons, show ps.length + 1 + pl.length = ps.length + pl.length + 1 by omega]
    exact wpAny_firstP h0 (Region.noSelect_spec hsel) (hQ o.dst v) _ listed a w (Region.free_spec h0 hf) (by simpa using hr) hy (wpAny_pu hsel hQ hS ps _ _ hB' hK)
def planN (ops : Array Oper) (F : Nat) (ps : List Nat) (pl : List (Option Bool × Nat)) (q : Nat) : Bool := Region.noSelect ops && decide (ps.length + pl.length = ops.size) && puB .any ops F q pl ps (Array.replicate ops.size false)
theorem held_planN {id : Nat} {a : Act} {w : World} (F : Nat) (ps : List Nat) (pl : List (Option Bool × Nat)) (q : Nat) (S : World → Prop) (hm : P.follows .mixedOrders = true) (hB : planN ops F ps pl q = true)
    (hQ : ∀ d v c a w, Q (.panic c) (Act.put a d v) w → Q (.panic c) a w) (hS : S w.drew)
    (h : wpPu P ops (fun a' => wpPm P ops Q S q pl a' w.drew) ps a) : (Code.region id ops true).wp P Q a w := by
  simp only [planN, Bool.and_eq_true, decide_eq_true_eq] at hB
  obtain ⟨⟨hsel, hlen⟩, hpl⟩ := hB
  refine wp_region_any hm ?_
  have H := wpAny_pu (P := P) (md := .any) (Q := Q) (S := S) (q := q) (F := F) (pl := pl) (w := w.drew) hsel hQ hS ps _ a hpl h
  rw [hlen] at H
  exact H
end
end Go.Proofs.YtmmflekajbeamabGreatDoor

namespace Go.Proofs.YtmmflekajbeamabGreatDoor
open Go.RowKit Go.Maps Go.WideMaps

theorem size25 : (Tryz.prog.info? 22).map (·.size) = some 8 := by kernel_rfl
theorem size26 : (Tryz.prog.info? 23).map (·.size) = some 128 := by kernel_rfl
theorem load_r (w : World) (E o : Nat) (z : List Int) (hz : z.length = 8) (h : w.rangeAt E o (z.map (Value.int .i64))) : (Instr.loadAt 22 (.pointer (some ⟨E, o, none⟩))).run Tryz.prog w = .ok (.agg (S z)) w :=
  run_loadAt_mid w E o 22 (z.map (Value.int .i64)) _ h Tryz.underlying22 rfl (by rw [size25, List.length_map, hz])
theorem load_m (w : World) (E o : Nat) (z : List Int) (hz : z.length = 128) (h : w.rangeAt E o (z.map (Value.int .i64))) : (Instr.loadAt 23 (.pointer (some ⟨E, o, none⟩))).run Tryz.prog w = .ok (.agg (S z)) w :=
  run_loadAt_mid w E o 23 (z.map (Value.int .i64)) _ h Tryz.underlying23 rfl (by rw [size26, List.length_map, hz])
theorem WL_allW2 {n : Nat} {l : List Int} (h : WL n l) : allW (gz l) n = true := by
  unfold allW
  rw [List.all_eq_true]
  intro i hi
  exact (isW_iff _).2 (h.at (List.mem_range.1 hi))
/-- The ready plans are plans of their blocks. -/
def RdOK (g : EgN) : Prop := ∀ k ∈ g.b 2, AccIs (bya (wdsT k.1)) (bya k.2) 0
theorem own_acc {ws : List Nat} (h : blkOK (bya (wdsT ws))) : AccIs (bya (wdsT ws)) (bya (ownT ws)) 0 := by
  have hb := own_bd h
  have hl : (ownP (bya (wdsT ws))).length ≤ 10 := by
    have := (ownP_ok h).2
    have h1 := nPl_le (bya (wdsT ws))
    have h2 := h.2.1
    omega
  refine .inr (.inr (.inl ⟨h, putsOK_plan hb hl, ?_, rfl⟩))
  unfold ownT
  rw [putL_plan (fun p hp => (hb p hp).1.bd (hb p hp).2)]
  exact own_come h
theorem own_sh (ws : List Nat) (h : blkOK (bya (wdsT ws))) : (ownT ws).length ≤ 80 := by
  unfold ownT
  rw [planT_len]
  have := (ownP_ok h).2
  have h1 := nPl_le (bya (wdsT ws))
  have h2 := h.2.1
  omega
theorem planE_z (g : EgN) (ws : List Nat) : (planE g ws).1.z = g.z := by
  unfold planE
  split
  · rfl
  · show (prepE g ws).1.z = g.z
    unfold prepE
    repeat' split
    all_goals rfl
theorem plan_acc {g : EgN} {ws : List Nat} (h : RdOK g) (hb : blkOK (bya (wdsT ws))) : AccIs (bya (wdsT ws)) (bya (planE g ws).2) 0 := by
  unfold planE
  cases hq : fB (g.b 2) ws with
  | some p =>
    obtain ⟨n, hn, _⟩ := fB_some hq
    exact h (ws, p) (List.mem_of_getElem? hn)
  | none =>
    show AccIs _ (bya (prepE g ws).2) 0
    unfold prepE
    cases hk : fB (g.b 0) ws with
    | some p =>
      simp only
      split
      · rename_i ha
        exact (accB_iff _ _).1 ha
      · exact own_acc hb
    | none => exact own_acc hb
theorem drop8 {z : List Int} (h : RunOK z) (hs : gz z 137 = 0) (r : List Int) : r ++ z.drop 8 = mkZ r (memZ z) (pcZ z : Int) 0 := by
  have h1 := z_mk h.len
  have h2 : z.drop 8 = memZ z ++ [gz z 136, gz z 137] := by
    unfold memZ
    conv => lhs; rw [h1]
    unfold mkZ
    rw [List.drop_append_of_le_length (by rw [List.length_take, h.len]; decide), List.drop_of_length_le (by rw [List.length_take]; omega), List.nil_append]
  rw [h2, h.pc.2, hs]
  rfl
theorem EgAt.pcell {E D : Nat} {g : EgN} {m v : Nat → Value} {w : World} (h : EgAt E D g m v w) {r mem : List Int} {pc st : Int} (hr : r.length = 8) (hm : mem.length = 128) (hz : g.z = mkZ r mem pc st) : w.cell? ⟨E, 139, none⟩ = some (.int .i64 pc) := by
  have hl : (mkZ r mem pc st).length = 138 := mkZ_len hr hm
  have e := mkZ_pc (pc := pc) (st := st) hr hm
  refine h.st 136 (.int .i64 pc) ?_
  rw [hz, List.getElem?_map]
  unfold gz at e
  rw [List.getD_eq_getElem?_getD, List.getElem?_eq_getElem (by rw [hl]; decide)] at e
  rw [List.getElem?_eq_getElem (by rw [hl]; decide)]
  have e' : (mkZ r mem pc st)[136] = pc := e
  rw [e']
  rfl
/-- The end of a block: its plain words' state, then one step more if there is a word more. -/
theorem blk_end {z : List Int} (h : RunOK z) (hs : gz z 137 = 0) : mkZ (((blkPuts (bya (wdsT (wsZ z)))).take (nPl (bya (wdsT (wsZ z))))).foldl (rD (memZ z)) (z.take 8)) (memZ z) (((pcZ z + plN (wsZ z)) % 128 : Nat) : Int) 0 = itS (plN (wsZ z)) z ∧ (plN (wsZ z) < (wsZ z).length → (stp (itS (plN (wsZ z)) z)).1 = itS (wsZ z).length z) ∧ (¬ plN (wsZ z) < (wsZ z).length → itS (plN (wsZ z)) z = itS (wsZ z).length z) := by
  have hn := plN_ws h
  refine ⟨?_, fun hl => ?_, fun hl => ?_⟩
  · rw [hn, itS_plain h hs _ (Nat.le_refl _)]
    unfold stZ
    rw [wsZ_txt]
    congr 1
  · have : (wsZ z).length = plN (wsZ z) + 1 := by
      unfold plN at hl ⊢
      split at hl
      · rename_i hc
        rw [if_pos hc]
        omega
      · omega
    rw [this, itS_add]
    rfl
  · have : (wsZ z).length = plN (wsZ z) := by
      unfold plN at hl ⊢
      split at hl
      · rename_i hc
        omega
      · rename_i hc
        rw [if_neg hc]
    rw [← this]
/-- A block is run: counted, and as many steps made. -/
def blkE (g : EgN) : EgN := { (planE g (wsZ g.z)).1 with z := itS (wsZ g.z).length g.z }
set_option maxRecDepth 100000 in
set_option maxHeartbeats 8000000 in
theorem runBlock_any (E D : Nat) (g : EgN) (m v : Nat → Value) (w : World) (kk : Nat) (h : EgAt E D g m v w) (ht : Tab w) (hE : 0 < E) (hz : RunOK g.z) (hs : gz g.z 137 = 0) (hrd : RdOK g) (hrn : RnOK g kk) (hkk : kk ≤ 100000000000) (hpl : ∀ k ∈ g.b 0, k.2.length ≤ 1000000) :
    Calls Tryz.prog 125 #[.pointer (some ⟨E, 0, none⟩), .agg (S (wdZ (wsZ g.z)))] w fun e' w' => e' = .returned (.tuple #[]) ∧ GPost E D m v w (blkE g) w' := by
  have hws := hz.wok
  have hblk := hz.blk
  obtain ⟨W0, hW0⟩ : ∃ W0, W0 = w.alloc (.cells (S (wdZ (wsZ g.z))) 131) := ⟨_, rfl⟩
  have hb0 : Below w.heap.size w W0 := by rw [hW0]; exact (Below.refl _ _).alloc (Nat.le_refl _) _
  have rX : RowI W0 w.heap.size 131 (wdZ (wsZ g.z)) := by rw [hW0]; exact _root_.Go.heap_alloc_new w _
  have hz9 := wdZ_len hws.1
  have hr8 : (g.z.take 8).length = 8 := hz.parts.1.1
  have hm128 : (memZ g.z).length = 128 := hz.parts.2.1
  have HLd := hide (fun w' x => load_W w' x (wdZ (wsZ g.z)) hz9)
  have HLr := hide (fun w' => load_r w' E 3 (g.z.take 8) hr8)
  have HLm := hide (fun w' => load_m w' E 11 (memZ g.z) hm128)
  have HH := hide h; have HZ := hide hz; have HS := hide hs; have HTw := hide ht; have HE0 := hide hE
  have k0 : EgAt E D g m v W0.drew := h.kept (fun x q => hb0.block x (h.has q).2)
  have HPf := hide (planFor_any E D g m v (wsZ g.z) W0.drew kk k0 (ht.below ht.pos hb0.drew) hE hws hblk hrn hkk hpl)
  have hacc := plan_acc (ws := wsZ g.z) hrd hblk
  obtain ⟨hpo, hdo⟩ := do_plain hz hacc
  have hps : (bya (planE g (wsZ g.z)).2).size ≤ maxLen := by have := hpo.2.1; unfold maxLen; omega
  have HDo := hide (fun w' => plansDo_any (bya (planE g (wsZ g.z)).2) (g.z.take 8) (memZ g.z) w' hr8 hm128 hps)
  have hrm : okRM (g.z.take 8) (memZ g.z) := ⟨WL_allW2 hz.parts.1, WL_allW2 hz.parts.2⟩
  have HPl := hide (fun w' (ht' : Tab w') => plainLen_any (wsZ g.z) w' ht' hws.1 hws.2)
  have HB0 := hide hb0; have HW0 := hide hW0; have HPo := hide hpo; have HDd := hide hdo; have HRm := hide hrm
  have c1 := k0.regs; have c2 := k0.mems
  clear h ht hE hz hs hrd hrn hkk hpl hb0 hW0 k0 hws hblk hacc hpo hdo hps hrm
  generalize hRG : g.z.take 8 = RG at *
  have HRG := hide hRG
  clear hRG
  go_enter Tryz.func125, Tryz.ntmps125
  go_upto_region 2 with fail
  rw [← HW0.out]
  refine held_planN 8 [0, 1, 4, 5, 6, 8, 9, 10] [(some true, 2), (some true, 7), (some true, 11), (some false, 3), (some false, 12), (some false, 13), (none, 14), (none, 15), (some false, 16), (some false, 17), (some false, 18)] 14 (fun w' => RowI w' w.heap.size 131 (wdZ (wsZ g.z)) ∧ w'.rangeAt E 3 (RG.map (Value.int .i64)) ∧ w'.rangeAt E 11 ((memZ g.z).map (Value.int .i64))) (by kernel_rfl) (by kernel_rfl) (fun d _ _ _ _ h => by cases d <;> exact h) ⟨rX, c1, c2⟩ ?_
  iterate 8
    refine wpPu_take ?_ rfl rfl ?_ ?_
    rotate_left
    · intro w'
      go_simp
      rfl
    go_simp
  refine wpPu_nil ?_
  refine wpPm_take (.agg (S (wdZ (wsZ g.z)))) rfl rfl ?_ ?_
  · rintro w' ⟨d0, d1, d2⟩
    have hl := HLd.out w' _ d0
    simp only [execOp, List.getElem_toArray, List.getElem_cons_succ, List.getElem_cons_zero, Sem.run_bind]
    show Result.andThen (Sem.run Tryz.prog (Instr.loadAt 131 (.pointer (some ⟨w.heap.size, 0, none⟩))) w') _ = _
    rw [hl]
    rfl
  go_simp
  refine wpPm_take (.agg (S RG)) rfl rfl ?_ ?_
  · rintro w' ⟨d0, d1, d2⟩
    have hl := HLr.out w' d1
    simp only [execOp, List.getElem_toArray, List.getElem_cons_succ, List.getElem_cons_zero, Sem.run_bind]
    show Result.andThen (Sem.run Tryz.prog (Instr.loadAt 22 (.pointer (some ⟨E, 3, none⟩))) w') _ = _
    rw [hl]
    rfl
  go_simp
  refine wpPm_take (.agg (S (memZ g.z))) rfl rfl ?_ ?_
  · rintro w' ⟨d0, d1, d2⟩
    have hl := HLm.out w' d2
    simp only [execOp, List.getElem_toArray, List.getElem_cons_succ, List.getElem_cons_zero, Sem.run_bind]
    show Result.andThen (Sem.run Tryz.prog (Instr.loadAt 23 (.pointer (some ⟨E, 11, none⟩))) w') _ = _
    rw [hl]
    rfl
  go_simp
  refine wpPm_step rfl rfl (fun K hK => ?_)
  go_simp
  refine (unhide HPf).mono ?_
  rintro e w1 ⟨rfl, m1, v1, k1, cc1, o1⟩
  have hX0 : ¬ eHas E m v w.heap.size := fun q => by have := (HH.out.has q).2; omega
  have rX1 : RowI w1 w.heap.size 131 (wdZ (wsZ g.z)) := rX.keep (cc1.other _ rX.lt hX0)
  have hX1 : ¬ eHas E m1 v1 w.heap.size := fun q => by
    rcases o1 _ q with a | a
    · exact hX0 a
    · have := rX.lt; have : W0.drew.heap.size = W0.heap.size := rfl; omega
  have d1 := k1.regs
  have d2 := k1.mems
  rw [planE_z, HRG.out] at d1
  rw [planE_z] at d2
  go_simp
  refine hK _ _ (fun _ => ⟨rX1, d1, d2⟩) ?_
  clear hK K
  refine wpPm_step rfl rfl (fun K hK => ?_)
  go_simp
  refine (unhide HDo _).mono ?_
  rintro e w2 ⟨hb2, hres⟩
  have hres' : e = .returned (.tuple #[.agg (S ((doL (memZ g.z) (putL (bya (planE g (wsZ g.z)).2) ((bya (planE g (wsZ g.z)).2).size / 8)) (begD RG)).take 8)), .int .i64 0]) := by
    rcases hres with ⟨a, _⟩ | ⟨_, a, _⟩ | ⟨_, _, a⟩
    · exact absurd HRm.out a
    · exact absurd HPo.out a
    · exact a
  rw [HDd.out] at hres'
  subst hres'
  generalize hR2 : ((blkPuts (bya (wdsT (wsZ g.z)))).take (nPl (bya (wdsT (wsZ g.z))))).foldl (rD (memZ g.z)) RG = R2 at *
  have HR2 := hide hR2
  have rX2 : RowI w2 w.heap.size 131 (wdZ (wsZ g.z)) := rX1.keep (hb2.block _ rX1.lt)
  have k2 : EgAt E D (planE g (wsZ g.z)).1 m1 v1 w2 := k1.kept (fun x q => hb2.block x (k1.has q).2)
  have e1 := k2.regs
  have e2 := k2.mems
  rw [planE_z, HRG.out] at e1
  rw [planE_z] at e2
  clear hR2 hres
  go_simp
  refine hK _ _ (fun _ => ⟨rX2, e1, e2⟩) ?_
  clear hK K
  refine wpPm_step rfl rfl (fun K hK => ?_)
  go_simp
  refine hK _ _ (fun _ => ⟨rX2, e1, e2⟩) ?_
  clear hK K
  iterate 2
    refine wpPm_pure ?_ rfl rfl ?_ ?_
    rotate_left
    · intro w'
      go_simp
      rfl
    go_simp
  iterate 2
    refine wpPm_step rfl rfl (fun K hK => ?_)
    go_simp
    refine hK _ _ (fun h => absurd h (by decide)) ?_
    clear hK K
  have hR8 : R2.length = 8 := by
    rw [← HR2.out, ← HRG.out]
    exact (stZ_WL HZ.out.parts.1 HZ.out.parts.2 HZ.out.pc.1 _).1
  have ht2 : w2.there E 3 (S R2).size := fun j hj => ⟨k2.st.isSome j (by rw [List.length_map, k2.zl]; rw [S_size, hR8] at hj; omega), k2.fz _⟩
  refine wpPm_step rfl rfl (fun K hK => ?_)
  refine wp_store_mid 22 _ _ rfl E 3 (S R2) rfl rfl ht2 (by rw [size25, S_size, hR8]) (S_one R2) ?_
  refine hK _ _ (fun h => absurd h (by decide)) ?_
  clear hK K
  refine wpPm_nil ?_
  obtain ⟨W3, hW3⟩ : ∃ W3, W3 = w2.setCells E 3 (S R2).toList := ⟨_, rfl⟩
  rw [← hW3]
  have k3 : EgAt E D { (planE g (wsZ g.z)).1 with z := R2 ++ (planE g (wsZ g.z)).1.z.drop 8 } m1 v1 W3 := by rw [hW3]; exact k2.setRegs R2 hR8
  rw [planE_z] at k3
  have hC3 : Chg (eHas E m v) w W3 := by
    refine (Chg.of_below HB0.out.drew).trans (fun x q => .inl q) ?_
    refine cc1.trans (F1 := eHas E m1 v1) o1 ?_
    refine (Chg.of_below hb2).trans (fun x q => .inl q) ?_
    rw [hW3]
    exact (Chg.setCells w2 E 3 _).weak (fun x q => .inl (.inl q))
  have hO3 : ∀ x, eHas E m1 v1 x → eHas E m v x ∨ w.heap.size ≤ x := fun x q => (o1 x q).imp id (fun a => Nat.le_trans HB0.out.size a)
  have rX3 : RowI W3 w.heap.size 131 (wdZ (wsZ g.z)) := rX2.keep (by rw [hW3]; exact heap_setCells_other E _ 3 w2 _ (fun e => hX1 (.inl e)))
  have hpn : pcZ g.z < 128 := HZ.out.pc.1
  have hzf := drop8 HZ.out HS.out R2
  rw [hzf] at k3
  have hpc3 := k3.pcell hR8 hm128 rfl
  have hT3 : Tab W3 := HTw.out.chg HH.out HE0.out hC3
  have HK3 := hide k3; have HC3 := hide hC3; have HO3 := hide hO3; have HT3 := hide hT3; have HR8 := hide hR8
  have HW3 := hide hW3
  have hpN : plN (wsZ g.z) ≤ 8 := by rw [plN_ws HZ.out]; have h1 := nPl_le (bya (wdsT (wsZ g.z))); have h2 := HZ.out.blk.2.1; omega
  have f139 := k3.fz 139
  have hX1' := hX1
  have hwl3 : w.heap.size < W3.heap.size := rX3.lt
  have hEne : w.heap.size ≠ E := fun e => hX1 (.inl e)
  clear k1 k2 k3 hC3 hO3 hzf cc1 o1 rX1 rX2 rX d1 d2 e1 e2 c1 c2 hb2 hW3 hT3 ht2 hX0 hX1 HDo HPf HLr HLm HB0 HW0 hX1'
  have HEnd : Hid (∀ N, N = plN (wsZ g.z) → mkZ R2 (memZ g.z) (((pcZ g.z + N) % 128 : Nat) : Int) 0 = itS N g.z ∧ (N < (wsZ g.z).length → (stp (itS N g.z)).1 = itS (wsZ g.z).length g.z) ∧ (¬ N < (wsZ g.z).length → itS N g.z = itS (wsZ g.z).length g.z)) := fun N hN => by
    rw [hN, ← HR2.out, ← HRG.out]
    exact blk_end HZ.out HS.out
  have HLen : Hid (gz (wdZ (wsZ g.z)) 0 = ((wsZ g.z).length : Int)) := wdZ_0 _
  have hL8 : (wsZ g.z).length ≤ 8 := HZ.out.wok.1
  generalize hN : plN (wsZ g.z) = N at *
  have HEn := hide (HEnd.out N rfl)
  have hP0 : IntKind.i64.wrap ((pcZ g.z : Int) + (N : Int)) = ((pcZ g.z + N : Nat) : Int) := by rw [IntKind.wrap_i64]; omega
  have hP1 : ((pcZ g.z + N : Nat) : Int).tmod 128 = (((pcZ g.z + N) % 128 : Nat) : Int) := by rw [Int.tmod_eq_emod_of_nonneg (by omega)]; omega
  have hP2 : IntKind.i64.wrap (((pcZ g.z + N) % 128 : Nat) : Int) = (((pcZ g.z + N) % 128 : Nat) : Int) := by rw [IntKind.wrap_i64]; omega
  generalize hPc : (pcZ g.z + N) % 128 = PC at *
  generalize hPs : pcZ g.z + N = PS at *
  clear hN HEnd HR2 HRG hpN hpn hPc hPs HPo HRm
  go_upto_region 3 with fail
  refine held_planN 8 [0, 1, 2, 3] [(some true, 4), (some true, 5), (some false, 6), (some false, 7), (some false, 8), (some false, 9), (some false, 10), (some false, 11)] 7 (fun w' => RowI w' w.heap.size 131 (wdZ (wsZ g.z)) ∧ w'.cell? ⟨E, 139, none⟩ = some (.int .i64 (pcZ g.z : Int))) (by kernel_rfl) (by kernel_rfl) (fun d _ _ _ _ h => by cases d <;> exact h) ⟨rX3, hpc3⟩ ?_
  iterate 4
    refine wpPu_take ?_ rfl rfl ?_ ?_
    rotate_left
    · intro w'
      go_simp
      rfl
    go_simp
  refine wpPu_nil ?_
  refine wpPm_take ?_ rfl rfl ?_ ?_
  rotate_left
  · rintro w' ⟨d0, d1⟩
    go_simp
    rfl
  go_simp
  refine wpPm_take (.agg (S (wdZ (wsZ g.z)))) rfl rfl ?_ ?_
  · rintro w' ⟨d0, d1⟩
    have hl := HLd.out w' _ d0
    simp only [execOp, List.getElem_toArray, List.getElem_cons_succ, List.getElem_cons_zero, Sem.run_bind]
    show Result.andThen (Sem.run Tryz.prog (Instr.loadAt 131 (.pointer (some ⟨w.heap.size, 0, none⟩))) w') _ = _
    rw [hl]
    rfl
  go_simp
  refine wpPm_step rfl rfl (fun K hK => ?_)
  go_simp
  refine (unhide HPl _ (HT3.out.below HT3.out.pos ((Below.refl _ _).drew))).mono ?_
  rintro e w4 ⟨rfl, hb4'⟩
  have hb4 : Below W3.heap.size W3 w4 := ((Below.refl _ _).drew).trans hb4'
  have rX4 : RowI w4 w.heap.size 131 (wdZ (wsZ g.z)) := rX3.keep (hb4.block _ hwl3)
  have k4 := HK3.out.kept (w' := w4) (fun x q => hb4.block x (HK3.out.has q).2)
  have hpc4 := k4.pcell HR8.out hm128 rfl
  have f4 := k4.fz 139
  go_simp
  refine hK _ _ (fun _ => ⟨rX4, hpc4⟩) ?_
  clear hK K
  iterate 5
    refine wpPm_step rfl rfl (fun K hK => ?_)
    go_simp
    refine hK _ _ (fun h => absurd h (by decide)) ?_
    clear hK K
  refine wpPm_nil ?_
  obtain ⟨W5, hW5⟩ : ∃ W5, W5 = w4.setCell ⟨E, 139, none⟩ (.int .i64 (PC : Int)) := ⟨_, rfl⟩
  rw [← hW5]
  have k5 : EgAt E D { (planE g (wsZ g.z)).1 with z := itS N g.z } m1 v1 W5 := by
    have := k4.setPc (PC : Int)
    rw [← hW5] at this
    have e : (mkZ R2 (memZ g.z) (pcZ g.z : Int) 0).set 136 (PC : Int) = itS N g.z := by rw [mkZ_set_pc HR8.out hm128, HEn.out.1]
    simp only [e] at this
    exact this
  have hc5 : Chg (eHas E m v) w W5 := by
    refine HC3.out.trans (F1 := eHas E m1 v1) HO3.out ((Chg.of_below hb4).trans (fun x q => .inl q) ?_)
    rw [hW5]
    exact (Chg.set w4 E _ _).weak (fun x q => .inl (.inl q))
  have rX5 : RowI W5 w.heap.size 131 (wdZ (wsZ g.z)) := rX4.keep (by rw [hW5]; exact set_other hEne)
  have y0 : W5.cell? ⟨w.heap.size, 0, none⟩ = some (.int .i64 ((wsZ g.z).length : Int)) := by have := rX5.cell 0 (by rw [hz9]; decide); rw [HLen.out] at this; exact this
  have hT5 : Tab W5 := HTw.out.chg HH.out HE0.out hc5
  have hwl5 : w.heap.size < W5.heap.size := rX5.lt
  have HK5 := hide k5; have HC5 := hide hc5; have HT5 := hide hT5; have HW5 := hide hW5
  have hm1 : HC3 = HC3 := rfl
  clear k4 k5 hc5 hT5 hW5 hb4 hb4' rX3 rX4 hpc3 hpc4 f4 f139 hP0 hP1 hP2 hm1 HK3 HDd HW3 HT3 hwl3
  go_upto_region 4 with fail
  refine held_planN 8 [2] [(some true, 0), (some true, 3), (some false, 1), (some false, 4)] 4 (fun w' => RowI w' w.heap.size 131 (wdZ (wsZ g.z)) ∧ w'.cell? ⟨w.heap.size, 0, none⟩ = some (.int .i64 ((wsZ g.z).length : Int))) (by kernel_rfl) (by kernel_rfl) (fun d _ _ _ _ h => by cases d <;> exact h) ⟨rX5, y0⟩ ?_
  refine wpPu_take ?_ rfl rfl ?_ ?_
  rotate_left
  · intro w'
    go_simp
    rfl
  go_simp
  refine wpPu_nil ?_
  refine wpPm_take (.agg (S (wdZ (wsZ g.z)))) rfl rfl ?_ ?_
  · rintro w' ⟨d0, d1⟩
    have hl := HLd.out w' _ d0
    simp only [execOp, List.getElem_toArray, List.getElem_cons_zero, Sem.run_bind]
    show Result.andThen (Sem.run Tryz.prog (Instr.loadAt 131 (.pointer (some ⟨w.heap.size, 0, none⟩))) w') _ = _
    rw [hl]
    rfl
  go_simp
  refine wpPm_take ?_ rfl rfl ?_ ?_
  rotate_left
  · rintro w' ⟨d0, d1⟩
    go_simp
    rfl
  go_simp
  refine wpPm_step rfl rfl (fun K hK => ?_)
  go_simp
  refine (unhide HPl _ (HT5.out.below HT5.out.pos ((Below.refl _ _).drew))).mono ?_
  rintro e w6 ⟨rfl, hb6'⟩
  have hb6 : Below W5.heap.size W5 w6 := ((Below.refl _ _).drew).trans hb6'
  have rX6 : RowI w6 w.heap.size 131 (wdZ (wsZ g.z)) := rX5.keep (hb6.block _ hwl5)
  have y6 : w6.cell? ⟨w.heap.size, 0, none⟩ = some (.int .i64 ((wsZ g.z).length : Int)) := (World.cell?_of_block (hb6.block _ hwl5)).trans y0
  have k6 : EgAt E D { (planE g (wsZ g.z)).1 with z := itS N g.z } m1 v1 w6 := HK5.out.kept (fun x q => hb6.block x (HK5.out.has q).2)
  have hc6 : Chg (eHas E m v) w w6 := HC5.out.trans (fun x q => .inl q) (Chg.of_below hb6)
  have HK6 := hide k6; have HC6 := hide hc6
  have HT6 := hide (HTw.out.chg HH.out HE0.out hc6)
  go_simp
  refine hK _ _ (fun _ => ⟨rX6, y6⟩) ?_
  clear hK K k6 hc6 hb6 hb6' rX5 rX6 y0 y6
  by_cases hlt : N < (wsZ g.z).length
  · have hlt' : (N : Int) < ((wsZ g.z).length : Int) := by omega
    have HSt := hide (estep_any E D _ m1 v1 w6 HK6.out HT6.out)
    have HFin : Hid (∀ w7, EgAt E D { { (planE g (wsZ g.z)).1 with z := itS N g.z } with z := (stp (itS N g.z)).1 } m1 v1 w7 → Chg (eHas E m1 v1) w6 w7 → GPost E D m v w (blkE g) w7) := fun w7 k7 c7 => by
      refine ⟨m1, v1, ?_, HC6.out.trans (F1 := eHas E m1 v1) HO3.out c7, HO3.out⟩
      unfold blkE
      rw [← HEn.out.2.1 hlt]
      exact k7
    refine wpPm_step rfl rfl (fun K hK => ?_)
    go_simp
    refine hK _ _ (fun h => absurd h (by decide)) ?_
    clear hK K hlt
    refine wpPm_nil ?_
    go_wp2_with fail
    refine (unhide HSt).mono ?_
    rintro e w7 ⟨rfl, k7, c7⟩
    have HF7 := hide (HFin.out w7 k7 c7)
    clear k7 c7 HFin HSt
    go_wp2_with fail
    go_end0
    exact ⟨rfl, HF7.out⟩
  · have hlt' : ¬ (N : Int) < ((wsZ g.z).length : Int) := by omega
    have HF7 : Hid (GPost E D m v w (blkE g) w6) := by
      refine ⟨m1, v1, ?_, HC6.out, HO3.out⟩
      unfold blkE
      rw [← HEn.out.2.2 hlt]
      exact HK6.out
    refine wpPm_step rfl rfl (fun K hK => ?_)
    go_simp
    refine hK _ _ (fun h => absurd h (by decide)) ?_
    clear hK K hlt
    refine wpPm_nil ?_
    go_wp2_with fail
    go_end0
    exact ⟨rfl, HF7.out⟩
end Go.Proofs.YtmmflekajbeamabGreatDoor
