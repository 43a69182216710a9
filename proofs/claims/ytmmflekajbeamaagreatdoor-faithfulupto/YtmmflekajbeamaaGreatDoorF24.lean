/-
  The engine: a new one in memory; Engage; is it over (isOver).
  The engine: Start.
  As OrdS: behind the operations that come in one order the rest, from place k on, only reads, in whatever order.
  The engine: package crib's Start.
-/
import Derived.Test.YtmmflekajbeamaaGreatDoorF23
import Derived.Test.YtmmflekajbeamaaGreatDoorF16
namespace Go.Proofs.YtmmflekajbeamaaGreatDoor
open Go.RowKit Go.Maps Go.WideMaps

set_option maxRecDepth 100000 in
theorem engage_any (D : Nat) (d : DvN) (vs : Nat → Value) (w : World) (h : DvAt D d vs w) :
    Calls Tryz.prog 96 #[.pointer (some ⟨D, 0, none⟩)] w (DPost D vs w (wrap64 (d.wk + 1)) { d with wk := wrap64 (d.wk + 1) }) := by
  have c5 := h.wk
  have f5 := h.fz 5
  have HS := hide (h.setWk (wrap64 (d.wk + 1)))
  clear h
  go_enter Tryz.func96, Tryz.ntmps96
  go_wp2_with fail
  go_ret
  exact ⟨rfl, vs, HS.out.1, HS.out.2⟩
set_option maxRecDepth 100000 in
theorem dworks_any (D : Nat) (k n : Int) (w : World) (c5 : w.cell? ⟨D, 5, none⟩ = some (.int .i64 k)) :
    Calls Tryz.prog 138 #[.pointer (some ⟨D, 0, none⟩), .int .i64 n] w fun e' w' => e' = .returned (.bool (n == k)) ∧ w' = w := by
  go_enter Tryz.func138, Tryz.ntmps138
  go_wp2_with fail
  go_ret
  exact ⟨rfl, rfl⟩
/-- Is an engine over? -/
def overE (g : EgN) (wk : Int) : Bool := g.fl || !(g.wk == wk)
set_option maxRecDepth 100000 in
set_option maxHeartbeats 2000000 in
theorem isOver_any (E D : Nat) (g : EgN) (d : DvN) (m v vs : Nat → Value) (w : World) (h : EdAt E D g d m v vs w) :
    Calls Tryz.prog 88 #[.pointer (some ⟨E, 0, none⟩)] w fun e' w' => e' = .returned (.bool (overE g d.wk)) ∧ ∃ n, w' = w.drewN n := by
  have c0 : w.cell? ⟨E, 0, none⟩ = some (.pointer (some ⟨D, 0, none⟩)) := h.eg.sc 0 (.inl (by decide))
  have c1 : w.cell? ⟨E, 1, none⟩ = some (.int .i64 g.wk) := h.eg.sc 1 (.inl (by decide))
  have c2 : w.cell? ⟨E, 2, none⟩ = some (.bool g.fl) := h.eg.sc 2 (.inl (by decide))
  have c5 := h.dv.wk
  have HWk := hide (fun w' (c : w'.cell? ⟨D, 5, none⟩ = some (.int .i64 d.wk)) => dworks_any D d.wk g.wk w' c)
  cases hf : g.fl
  · rw [hf] at c2
    have he : overE g d.wk = !(g.wk == d.wk) := by unfold overE; rw [hf]; rfl
    rw [he]
    clear h he hf
    go_enter Tryz.func88, Tryz.ntmps88
    go_wp2_with fail
    go_quiet ((go_at_call 138; exact Calls.quiet_of_same (unhide HWk _ (by simpa using c5))))
    go_wp2_with fail
    go_ret
    exact ⟨rfl, _, rfl⟩
  · rw [hf] at c2
    have he : overE g d.wk = true := by unfold overE; rw [hf]; rfl
    rw [he]
    clear h he hf
    go_enter Tryz.func88, Tryz.ntmps88
    go_wp2_with fail
    go_quiet (fail)
    go_wp2_with fail
    go_ret
    exact ⟨rfl, _, rfl⟩
/-- The engine's cells, all zero. -/
def egC0 : Array Value := (#[.pointer none, .int .i64 0, .bool false] ++ S zeroZ) ++ #[.int .i64 0, .int .i64 0, .int .i64 0, .int .i64 0, .int .i64 0, .int .i64 0, .int .i64 0, .int .i64 0, .map none, .slice none 0 0, .map none, .slice none 0 0, .map none, .slice none 0 0]
def egPl : Array (Nat × Nat) := #[(0, 1), (1, 1), (2, 1), (3, 138), (141, 5), (146, 1), (147, 1), (148, 1), (149, 2), (151, 2), (153, 2)]
set_option maxRecDepth 100000 in
theorem placesE : (match Tryz.prog.underlying 133 with | some (.struct fs) => fs.toList.mapM (fun f => (Tryz.prog.info? f.type).map fun i => (f.offset, i.size)) | _ => none) = some egPl.toList := by kernel_rfl
set_option maxRecDepth 100000 in
theorem infoEg : ∃ i, Tryz.prog.info? 133 = some i ∧ i.zero = some (.agg egC0) := by
  have h : (Tryz.prog.info? 133).map (fun i => i.zero) = some (some (.agg egC0)) := by kernel_rfl
  cases hq : Tryz.prog.info? 133 with
  | none => rw [hq] at h; cases h
  | some i =>
    rw [hq] at h
    simp only [Option.map_some, Option.some.injEq] at h
    exact ⟨i, rfl, h⟩
set_option maxRecDepth 100000 in
theorem builtEg (parts : List (Nat × Value)) : Tryz.prog.built 133 parts = Instr.fill (fun x => egPl[x]?) egC0 parts := by
  obtain ⟨i, hi, hz⟩ := infoEg
  have hp := placesE
  unfold Program.built
  rw [hi]
  rw [Tryz.underlying133] at hp ⊢
  simp only [hz] at hp ⊢
  rw [hp]
  rfl
theorem fill_one (f : Nat → Option (Nat × Nat)) (cs : Array Value) (p : Nat) (v : Value) (r : List (Nat × Value)) (o s : Nat) (hp : f p = some (o, s)) (hs : v.cells.size = s) (h : o + s ≤ cs.size) : Instr.fill f cs ((p, v) :: r) = Instr.fill f (layA o v.cells cs) r := by
  simp only [Instr.fill, hp]
  rw [if_neg (by simp [hs]; omega)]
  rfl
theorem egC0_size : egC0.size = 155 := by unfold egC0; simp [S_size, zeroZ]
/-- A new engine's cells. -/
def egC (D : Nat) (k : Int) (z : List Int) : Array Value := layA 3 (S z) (layA 1 #[.int .i64 k] (layA 0 #[.pointer (some ⟨D, 0, none⟩)] egC0))
theorem egC_get (D : Nat) (k : Int) (z : List Int) (hz : z.length = 138) (j : Nat) : (egC D k z).size = 155 ∧ (egC D k z)[j]? = if 3 ≤ j ∧ j < 141 then (S z)[j - 3]? else if j = 1 then some (.int .i64 k) else if j = 0 then some (.pointer (some ⟨D, 0, none⟩)) else egC0[j]? := by
  have s0 := egC0_size
  have e1 : (layA 0 #[.pointer (some ⟨D, 0, none⟩)] egC0).size = 155 := by rw [layA_size _ _ _ (by rw [s0]; simp), s0]
  have e2 : (layA 1 #[.int .i64 k] (layA 0 #[.pointer (some ⟨D, 0, none⟩)] egC0)).size = 155 := by rw [layA_size _ _ _ (by rw [e1]; simp), e1]
  have zs : (S z).size = 138 := by rw [S_size, hz]
  unfold egC
  refine ⟨by rw [layA_size _ _ _ (by rw [e2, zs]; decide), e2], ?_⟩
  rw [layA_get _ _ _ (by rw [e2, zs]; decide), zs]
  by_cases h1 : 3 ≤ j ∧ j < 141
  · rw [if_pos (by omega), if_pos h1]
  · rw [if_neg (by omega), if_neg h1, layA_get _ _ _ (by rw [e1]; simp)]
    by_cases h2 : j = 1
    · subst h2; rfl
    · rw [if_neg (by simp; omega), if_neg h2, layA_get _ _ _ (by rw [s0]; simp)]
      by_cases h3 : j = 0
      · subst h3; rfl
      · rw [if_neg (by simp; omega), if_neg h3]
theorem egC0_get (j : Nat) (h : 141 ≤ j) : egC0[j]? = #[Value.int .i64 0, .int .i64 0, .int .i64 0, .int .i64 0, .int .i64 0, .int .i64 0, .int .i64 0, .int .i64 0, .map none, .slice none 0 0, .map none, .slice none 0 0, .map none, .slice none 0 0][j - 141]? := by
  unfold egC0
  have hs : (#[Value.pointer none, .int .i64 0, .bool false] ++ S zeroZ).size = 141 := by simp [S_size, zeroZ]
  rw [Array.getElem?_append_right (by rw [hs]; exact h), hs]
theorem egC0_2 : egC0[2]? = some (.bool false) := by
  unfold egC0
  have hs : (#[Value.pointer none, .int .i64 0, .bool false] ++ S zeroZ).size = 141 := by simp [S_size, zeroZ]
  rw [Array.getElem?_append_left (by rw [hs]; decide), Array.getElem?_append_left (by decide)]
  rfl
theorem build_eg (D : Nat) (k : Int) (z : List Int) (hz : z.length = 138) (w : World) : (Instr.build 133 #[(0, .pointer (some ⟨D, 0, none⟩)), (1, .int .i64 k), (3, .agg (S z))]).run Tryz.prog w = .ok (.agg (egC D k z)) w := by
  refine run_build w 133 _ _ ?_
  have s0 := egC0_size
  have e1 : (layA 0 #[.pointer (some ⟨D, 0, none⟩)] egC0).size = 155 := by rw [layA_size _ _ _ (by rw [s0]; simp), s0]
  have e2 : (layA 1 #[.int .i64 k] (layA 0 #[.pointer (some ⟨D, 0, none⟩)] egC0)).size = 155 := by rw [layA_size _ _ _ (by rw [e1]; simp), e1]
  have zs : (S z).size = 138 := by rw [S_size, hz]
  rw [builtEg]
  show Instr.fill _ _ [(0, _), (1, _), (3, _)] = _
  rw [fill_one _ _ 0 _ _ 0 1 rfl rfl (by rw [s0]; decide), fill_one _ _ 1 _ _ 1 1 rfl rfl (by rw [show (Value.pointer (some ⟨D, 0, none⟩)).cells = #[.pointer (some ⟨D, 0, none⟩)] from rfl, e1]; decide)]
  rw [fill_one _ _ 3 (.agg (S z)) _ 3 138 rfl zs (by rw [show (Value.pointer (some ⟨D, 0, none⟩)).cells = #[.pointer (some ⟨D, 0, none⟩)] from rfl, show (Value.int .i64 k).cells = #[.int .i64 k] from rfl, e2]; decide)]
  rfl
/-- A new engine. -/
def newG (k : Int) (z : List Int) : EgN := ⟨k, false, z, fun _ => 0, 0, 0, 0, fun _ => []⟩
def nmap : Nat → Value := fun _ => .map none
theorem EgAt.new (D : Nat) (k : Int) (z : List Int) (hz : z.length = 138) (w : World) (W : World) (hW : W = w.alloc (.cells (egC D k z) 133)) : EgAt w.heap.size D (newG k z) nmap nilV W := by
  have r : W.heap[w.heap.size]? = some (.cells (egC D k z) 133 (0, 0)) := by rw [hW, _root_.Go.heap_alloc_new]
  have hc : ∀ j, W.cell? ⟨w.heap.size, j, none⟩ = (egC D k z)[j]? := fun j => cell_row r j
  refine ⟨fun j => by simp [World.frozen?, r], fun j hj => ?_, fun j u q => ?_, hz, fun i hi => ?_, fun i j _ _ _ x q => by rcases q with q | q <;> cases q⟩
  · rw [hc, (egC_get D k z hz j).2]
    unfold isSc at hj
    rcases hj with hj | hj
    · rw [if_neg (by omega)]
      match j, hj with
      | 0, _ => rfl
      | 1, _ => rfl
      | 2, _ => exact egC0_2
    · rw [if_neg (by omega), if_neg (by omega), if_neg (by omega), egC0_get j hj.1]
      obtain ⟨i, rfl⟩ : ∃ i, j = 141 + i := ⟨j - 141, by omega⟩
      have hi : i < 8 := by omega
      rw [Nat.add_sub_cancel_left]
      match i, hi with
      | 0, _ => rfl
      | 1, _ => rfl
      | 2, _ => rfl
      | 3, _ => rfl
      | 4, _ => rfl
      | 5, _ => rfl
      | 6, _ => rfl
      | 7, _ => rfl
  · have hj : j < 138 := by have := (List.getElem?_eq_some_iff.1 q).1; rw [List.length_map] at this; have hz' : (newG k z).z.length = 138 := hz; omega
    rw [hc, (egC_get D k z hz (3 + j)).2, if_pos (by omega), Nat.add_sub_cancel_left, ← q]
    unfold S newG
    simp
  · refine (BoV.none _ W).at' ?_ ?_ (fun e => by cases e)
    · rw [hc, (egC_get D k z hz _).2, if_neg (by omega), if_neg (by omega), if_neg (by omega), egC0_get _ (by omega)]
      match i, hi with
      | 0, _ => rfl
      | 1, _ => rfl
      | 2, _ => rfl
    · rw [hc, (egC_get D k z hz _).2, if_neg (by omega), if_neg (by omega), if_neg (by omega), egC0_get _ (by omega)]
      match i, hi with
      | 0, _ => rfl
      | 1, _ => rfl
      | 2, _ => rfl
end Go.Proofs.YtmmflekajbeamaaGreatDoor

namespace Go.Proofs.YtmmflekajbeamaaGreatDoor
open Go.RowKit Go.Maps Go.WideMaps

theorem wp_build3 {o : Oper} {a : Act} {w : World} {K : Act → World → Prop} {Q : Exit → Act → World → Prop} (ty : TypeId) (i j k : Nat) (x y z : Operand) (ho : o.op = .build ty #[(i, x), (j, y), (k, z)])
    (u v t r : Value) (hx : a.eval x = u) (hy : a.eval y = v) (hz : a.eval z = t) (hr : (Instr.build ty #[(i, u), (j, v), (k, t)]).run Tryz.prog w = .ok r w)
    (h : K (a.put o.dst r) w) : o.wp Tryz.prog a w K Q := by
  unfold Oper.wp execOp
  simp only [ho, Sem.run_bind, Sem.run_pure, Result.andThen_ok, List.map_toArray, List.map_cons, List.map_nil, hx, hy, hz, hr]
  exact h
theorem load_S (w : World) (x : Nat) (z : List Int) (hz : z.length = 138) (h : w.heap[x]? = some (.cells (S z) 28 (0, 0))) : (Instr.loadAt 28 (.pointer (some ⟨x, 0, none⟩))).run Tryz.prog w = .ok (.agg (S z)) w := by
  simp only [Instr.loadAt, Instr.sureAddr, Sem.run_bind, Sem.run_pure, Result.andThen_ok]
  rw [run_loadVar_row w x 28 28 (S z) (0, 0) _ h Tryz.underlying28 rfl (by rw [size34, S_size, hz])]
/-- What a start leaves: the device; an engine, if it answers OK. -/
def SePost (D : Nat) (vs : Nat → Value) (w : World) (n : Int) (g' : EgN) (d' : DvN) (e' : Ending) (w' : World) : Prop :=
  ∃ vs', DvAt D d' vs' w' ∧ Chg (dHas D vs) w w' ∧ (∀ x, dHas D vs' x → dHas D vs x ∨ w.heap.size ≤ x) ∧
    ((n ≠ 0 ∧ e' = .returned (.tuple #[.pointer none, .int .i64 n])) ∨ (n = 0 ∧ ∃ E m' v', w.heap.size ≤ E ∧ e' = .returned (.tuple #[.pointer (some ⟨E, 0, none⟩), .int .i64 0]) ∧ EdAt E D g' d' m' v' vs' w' ∧ ∀ x, eHas E m' v' x → w.heap.size ≤ x))
def engD (d : DvN) : DvN := { d with wk := wrap64 (d.wk + 1) }
theorem newG_ok (k : Int) (z : List Int) : EgOK (newG k z) := ⟨Nat.zero_le _, Nat.zero_le _, fun _ _ => Nat.zero_le _, fun _ _ _ h => by cases h⟩
set_option maxRecDepth 100000 in
set_option maxHeartbeats 8000000 in
theorem eStart_any (D : Nat) (d : DvN) (vs : Nat → Value) (z : List Int) (w : World) (h : DvAt D d vs w) (ht : Tab w) (hz : z.length = 138) (hs : stB z = true) :
    Calls Tryz.prog 45 #[.pointer (some ⟨D, 0, none⟩), .agg (S z)] w (SePost D vs w (openE dOps (newG (wrap64 (d.wk + 1)) z) (engD d)).1 (openE dOps (newG (wrap64 (d.wk + 1)) z) (engD d)).2.1 (openE dOps (newG (wrap64 (d.wk + 1)) z) (engD d)).2.2) := by
  have HI := hide (fun w' => isState_any z w' hz)
  rw [hs] at HI
  have R0 : isRowB (w.alloc (.cells (S z) 28)) w.heap.size 138 = true := by rw [isRowB_alloc_at _ _ _ _ _ rfl]; simp [S_size, hz]
  have D0 : rowD (w.alloc (.cells (S z) 28)) w.heap.size = S z := rowD_alloc_at _ _ _ _ rfl
  have HB0 : Hid (Below w.heap.size w (w.alloc (.cells (S z) 28))) := below_alloc _
  have HR0 : Hid ((w.alloc (.cells (S z) 28)).heap[w.heap.size]? = some (.cells (S z) 28 (0, 0))) := _root_.Go.heap_alloc_new w _
  have HH := hide h; have HT := hide ht; have HZ := hide hz
  have HLd := hide (fun w' x => load_S w' x z hz)
  generalize hk : wrap64 (d.wk + 1) = k at *
  have HEg : Hid (∀ w', DvAt D d vs w' → Calls Tryz.prog 96 #[.pointer (some ⟨D, 0, none⟩)] w' (DPost D vs w' k (engD d))) := fun w' h' => by
    have := engage_any D d vs w' h'
    rw [hk] at this
    have e : engD d = { d with wk := k } := by unfold engD; rw [hk]
    rw [e]
    exact this
  have HBd := hide (fun w' => build_eg D k z hz w')
  clear h ht hz hs hk
  go_enter Tryz.func45, Tryz.ntmps45
  go_wp2_with (refine wpList_load_S rfl _ rfl _ rfl R0 _ D0 ?_)
  refine (unhide HI _).mono ?_
  rintro e w1 ⟨rfl, hb1⟩
  have hB1 : Below w.heap.size w w1 := HB0.out.trans (hb1.mono HB0.out.size)
  have r1 : w1.heap[w.heap.size]? = some (.cells (S z) 28 (0, 0)) := (hb1.block _ (by rw [size_alloc1]; exact Nat.lt_succ_self _)).trans HR0.out
  have HB1 := hide hB1
  have hdw : DvAt D d vs w1.drew := HH.out.kept hB1.size (fun x q => hB1.block x (HH.out.has q).2)
  have HE1 := hide (HEg.out _ hdw)
  have hwl : w.heap.size < w1.heap.size := (Array.getElem?_eq_some_iff.1 r1).1
  have hDx : ¬ dHas D vs w.heap.size := fun q => by have := (HH.out.has q).2; omega
  clear hb1 HI R0 D0 hdw HEg
  go_upto_region 5 with fail
  refine held_pick2 4 [0, 1, 3] [2, 4, 5, 6] 4 (fun w' => w'.heap[w.heap.size]? = some (.cells (S z) 28 (0, 0))) (by kernel_rfl) (by kernel_rfl) (fun d _ _ _ _ h => by cases d <;> exact h) r1 ?_
  iterate 2
    refine wpTakeI_step ?_ rfl rfl ?_ ?_
    rotate_left
    · rintro w' d0
      go_simp
      rfl
    go_simp
  refine wpTakeI_step (.agg (S z)) rfl rfl ?_ ?_
  · rintro w' d0
    have hl := HLd.out w' _ d0
    simp only [execOp, List.getElem_toArray, List.getElem_cons_succ, List.getElem_cons_zero, Sem.run_bind]
    show Result.andThen (Sem.run Tryz.prog (Instr.loadAt 28 (.pointer (some ⟨w.heap.size, 0, none⟩))) w') _ = _
    rw [hl]
    rfl
  go_simp
  refine wpTakeI_nil ?_
  refine wpTailI_step rfl rfl (fun K hK => ?_)
  go_simp
  refine (unhide HE1).mono ?_
  rintro e w2 ⟨rfl, vs2, hd2, hf2⟩
  have r2 : w2.heap[w.heap.size]? = some (.cells (S z) 28 (0, 0)) := (hf2.chg.other _ hwl hDx).trans r1
  go_simp
  refine hK _ _ (fun _ => r2) ?_
  clear hK K
  refine wpTailI_step rfl rfl (fun K hK => ?_)
  refine wp_build3 133 0 1 3 _ _ _ rfl _ _ _ (.agg (egC D k z)) rfl rfl rfl (HBd.out _) ?_
  refine hK _ _ (fun h => absurd h (by decide)) ?_
  clear hK K
  refine wpTailI_step rfl rfl (fun K hK => ?_)
  go_simp
  refine hK _ _ (fun h => absurd h (by decide)) ?_
  clear hK K
  refine wpTailI_step rfl rfl (fun K hK => ?_)
  go_simp
  refine hK _ _ (fun h => absurd h (by decide)) ?_
  clear hK K
  refine wpTailI_nil ?_
  have hb2 : Below w2.heap.size w2 (w2.alloc (.cells (egC D k z) 133)) := (Below.refl _ _).alloc (Nat.le_refl _) _
  have hw2 : w.heap.size ≤ w2.heap.size := Nat.le_trans hB1.size hf2.below.size
  have hc2 : Chg (dHas D vs) w w2 := (Chg.of_below hB1).trans (fun x q => .inl q) (Chg.trans (F := dHas D vs) (w := w1) (w1 := w1.drew) (Chg.of_below ((Below.refl _ _).drew)) (fun x q => .inl q) hf2.chg)
  have vo2 : ∀ x, dHas D vs2 x → dHas D vs x ∨ w.heap.size ≤ x := fun x q => by
    rcases q with q | ⟨i, hi, q⟩
    · exact .inl (.inl q)
    · rcases hf2.own i hi x q with a | a
      · exact .inl (.inr ⟨i, hi, a⟩)
      · exact .inr (Nat.le_trans hB1.size a)
  have hd3 := hd2.kept hb2.size (fun x q => hb2.block x (hd2.has q).2)
  have hE3 : eHas w2.heap.size nmap nilV = fun x => x = w2.heap.size := by
    funext x
    refine propext ⟨fun q => ?_, fun q => .inl q⟩
    rcases q with q | ⟨i, _, q | q⟩
    · exact q
    · cases q
    · cases q
  have k3 : EdAt w2.heap.size D (newG k z) (engD d) nmap nilV vs2 (w2.alloc (.cells (egC D k z) 133)) := by
    refine ⟨EgAt.new D k z HZ.out w2 _ rfl, hd3, fun x q1 q2 => ?_⟩
    rw [hE3] at q1
    have := (hd2.has q2).2
    omega
  have ht3 : Tab (w2.alloc (.cells (egC D k z) 133)) := by
    have hp : 0 < D := by
      obtain ⟨a, c, e⟩ := owns_len (HH.out.own 0 (by decide))
      refine tab_ne HT.out (HH.out.bytes 0 (by decide)) (fun q => ?_)
      rw [e] at q
      cases q
    have hz0 := HT.out.pos
    exact HT.out.below (B := 1) (by decide) ((hc2.below hz0 (fun x q => by have := (HH.out.has q).1; omega)).trans (hb2.mono (by omega)))
  have HOp := hide (open_any w2.heap.size D (newG k z) (engD d) nmap nilV vs2 _ k3 ht3 (newG_ok k z))
  have HC2 := hide hc2; have HV2 := hide vo2; have HW2 := hide hw2; have HE3 := hide hE3; have HB2 := hide hb2
  clear hd2 hf2 hb2 hw2 hc2 vo2 hd3 hE3 k3 ht3 r1 r2 hB1 hwl hDx HE1 HBd HLd
  generalize openE dOps (newG k z) (engD d) = R at *
  obtain ⟨n, g', d'⟩ := R
  simp only at HOp ⊢
  go_wp2_with fail
  refine (unhide HOp).mono ?_
  rintro e w4 ⟨rfl, m4, v4, vs4, k4, f4⟩
  have HC4 : Hid (Chg (dHas D vs) w w4) := by
    refine HC2.out.trans (F1 := fun x => dHas D vs2 x ∨ w2.heap.size ≤ x) (fun x q => q.elim (HV2.out x) (fun a => .inr (Nat.le_trans HW2.out a))) ?_
    refine (Chg.of_below HB2.out).trans (fun x q => .inl q) (f4.chg.weak (fun x q => .inl ?_))
    rcases q with q | q
    · rw [HE3.out] at q
      exact .inr (Nat.le_of_eq q.symm)
    · exact .inl q
  have HV4 : Hid (∀ x, dHas D vs4 x → dHas D vs x ∨ w.heap.size ≤ x) := fun x q => by
    rcases f4.vo x q with a | a
    · exact HV2.out x a
    · exact .inr (Nat.le_trans HW2.out (Nat.le_trans HB2.out.size a))
  have HE4 : Hid (∀ x, eHas w2.heap.size m4 v4 x → w.heap.size ≤ x) := fun x q => by
    rcases f4.eo x q with a | a
    · rw [HE3.out] at a
      have a' : x = w2.heap.size := a
      rw [a']; exact HW2.out
    · exact Nat.le_trans HW2.out (Nat.le_trans HB2.out.size a)
  have HK4 := hide k4
  clear k4 f4 HOp
  by_cases hn : n = 0
  · subst hn
    go_wp2_with fail
    go_ret2
    exact ⟨vs4, HK4.out.dv, HC4.out, HV4.out, .inr ⟨rfl, _, m4, v4, HW2.out, rfl, HK4.out, HE4.out⟩⟩
  · have hn' : (n == 0) = false := by simpa using hn
    have HN := hide hn
    clear hn
    go_wp2_with fail
    go_ret2
    exact ⟨vs4, HK4.out.dv, HC4.out, HV4.out, .inl ⟨HN.out, rfl⟩⟩
end Go.Proofs.YtmmflekajbeamaaGreatDoor

namespace Go.Proofs.YtmmflekajbeamaaGreatDoor
open Go

section
variable {P : Program} {ops : Array Oper} {Q : Exit → Act → World → Prop} {md : Region.Mode} {S : World → Prop} {q : Nat}

theorem wpAnyQ_of_still {w : World} {Q1 : Act → Prop} (hQ : ∀ a, Q1 a → Q .normal a w) : ∀ (fuel : Nat) (listed : Array Bool) (a : Act), (∀ i, i < q → listed.getD i true = true) → wpAnyS P md ops w Q1 fuel listed a → wpAnyQ P md ops Q S q fuel listed a w
  | 0, _, _, _, h => ⟨h.1, hQ _ h.2⟩
  | fuel + 1, listed, _, hL, h => by
    refine ⟨fun h0 => hQ _ (h.1 h0), fun i hi => ?_⟩
    have h1 := (mem_ready.1 hi).1
    have hq : ¬ i < q := fun hlt => by rw [hL i hlt] at h1; cases h1
    refine wpOp_of_stOp (fun a' h' => ⟨fun hlt => absurd hlt hq, wpAnyQ_of_still hQ fuel _ a' (fun j hj => ?_) h'⟩) (h.2 i hi)
    by_cases hij : i = j
    · subst hij; exact absurd hj hq
    · rw [getD_set_ne true hij]; exact hL j hj
/-- The others, in their order; L behind them. -/
def wpTailJ (P : Program) (ops : Array Oper) (Q : Exit → Act → World → Prop) (S : World → Prop) (q : Nat) (L : Act → World → Prop) : List Nat → Act → World → Prop
  | [], a, w => L a w
  | k :: ts, a, w => ∃ o, ops[k]? = some o ∧ ∀ K : Act → World → Prop, (∀ a' w', (k < q → S w') → wpTailJ P ops Q S q L ts a' w' → K a' w') → if Region.wanted o (yielded ops a.tmps) then o.wp P a w K Q else K (a.put o.dst undef) w
theorem wpTailJ_nil {L : Act → World → Prop} {a : Act} {w : World} (h : L a w) : wpTailJ P ops Q S q L [] a w := h
theorem wpTailJ_step {L : Act → World → Prop} {k : Nat} {o : Oper} {ts : List Nat} {a : Act} {w : World} (hk : ops[k]? = some o) (hg : o.guard = none) (h : ∀ K : Act → World → Prop, (∀ a' w', (k < q → S w') → wpTailJ P ops Q S q L ts a' w' → K a' w') → o.wp P a w K Q) : wpTailJ P ops Q S q L (k :: ts) a w :=
  ⟨o, hk, fun K hK => by
    rw [if_pos (by simp [Region.wanted, hg])]
    exact h K hK⟩
def tailJ (md : Region.Mode) (ops : Array Oper) (q k n : Nat) : List Nat → Array Bool → Bool
  | [], listed => (List.range q).all (fun i => listed.getD i true) && Region.lexFrom md ops n k listed
  | j :: ts, listed => decide (Region.ready md ops listed = [j]) && tailJ md ops q k n ts (listed.setIfInBounds j true)
theorem wpAnyQ_tailJ {k : Nat} {l : List Oper} (hsel : Region.noSelect ops = true) (hl : ∀ j, l[j]? = ops[k + j]?) : ∀ (ts : List Nat) (listed : Array Bool) (a : Act) (w : World), tailJ md ops q k l.length ts listed = true → wpTailJ P ops Q S q (fun a' w' => wpStill P ops w' (fun a'' => Q .normal a'' w') l a') ts a w → wpAnyQ P md ops Q S q (ts.length + l.length) listed a w
  | [], listed, a, w, hB, h => by
    simp only [tailJ, Bool.and_eq_true] at hB
    rw [List.length_nil, Nat.zero_add]
    exact wpAnyQ_of_still (fun _ h => h) _ _ _ (fun i hi => List.all_eq_true.1 hB.1 i (List.mem_range.2 hi)) (wpAnyS_lex hsel l k listed a hl hB.2 h)
  | j :: ts, listed, a, w, hB, h => by
    simp only [tailJ, Bool.and_eq_true, decide_eq_true_eq] at hB
    obtain ⟨o, h0, h2⟩ := h
    rw [List.length_cons, show ts.length + 1 + l.length = ts.length + l.length + 1 by omega]
    refine ⟨fun h1 => (by rw [hB.1] at h1; cases h1), fun i hi => ?_⟩
    rw [hB.1] at hi
    have hik : i = j := by simpa using hi
    subst hik
    have h3 := h2 (fun a' w' => (i < q → S w') ∧ wpTailJ P ops Q S q (fun a' w' => wpStill P ops w' (fun a'' => Q .normal a'' w') l a') ts a' w') (fun _ _ h1 h2 => ⟨h1, h2⟩)
    have hw : wpOp P ops Q i (fun a' w' => (i < q → S w') ∧ wpTailJ P ops Q S q (fun a' w' => wpStill P ops w' (fun a'' => Q .normal a'' w') l a') ts a' w') a w := by
      unfold wpOp
      simp only [h0]
      split
      · rename_i hq; rw [if_pos hq] at h3; exact .inl h3
      · rename_i hq; rw [if_neg hq] at h3; exact h3
    exact wpOp_mono (fun a' w' h' => ⟨h'.1, wpAnyQ_tailJ hsel hl ts _ a' w' hB.2 h'.2⟩) hw
def headJ (md : Region.Mode) (ops : Array Oper) (F q k n : Nat) (ts : List Nat) : List Nat → Array Bool → Bool
  | [], listed => tailJ md ops q k n ts listed
  | i :: rs, listed => (Region.ready md ops listed).contains i && Region.free md ops listed i && lateB md ops F i listed && headJ md ops F q k n ts rs (listed.setIfInBounds i true)
theorem wpAnyQ_headJ {ts : List Nat} {w : World} {F k : Nat} {l : List Oper} (hsel : Region.noSelect ops = true) (hl : ∀ j, l[j]? = ops[k + j]?) (hQ : ∀ d v c a w, Q (.panic c) (Act.put a d v) w → Q (.panic c) a w) (hS : S w) :
    ∀ (rs : List Nat) (listed : Array Bool) (a : Act), (rs.all fun i => decide (i < q) && (List.range ops.size).all fun j => decide (j < q) || deepB md ops F j i) = true → headJ md ops F q k l.length ts rs listed = true →
      wpTakeI P ops S (fun a' => wpTailJ P ops Q S q (fun a' w' => wpStill P ops w' (fun a'' => Q .normal a'' w') l a') ts a' w) rs a → wpAnyQ P md ops Q S q (rs.length + (ts.length + l.length)) listed a w
  | [], listed, a, _, hB, h => by
    rw [List.length_nil, Nat.zero_add]
    exact wpAnyQ_tailJ hsel hl ts listed a w hB h
  | i :: rs, listed, a, hlq, hB, h => by
    simp only [headJ, Bool.and_eq_true] at hB
    simp only [List.all_cons, Bool.and_eq_true, decide_eq_true_eq] at hlq
    obtain ⟨⟨⟨hr, hf⟩, hlt⟩, hB'⟩ := hB
    obtain ⟨o, v, h0, hy, hK⟩ := h
    rw [List.length_cons, show rs.length + 1 + (ts.length + l.length) = (rs.length + (ts.length + l.length)) + 1 by omega]
    refine wpAnyQ_first2 h0 (Region.noSelect_spec hsel) (hQ o.dst v) (fun j hj hjs => ?_) hlq.1.1 (rs.length + (ts.length + l.length)) listed a w (Region.free_spec h0 hf) (late_of hlt) (by simpa using hr) hy hS (wpAnyQ_headJ hsel hl hQ hS rs _ _ hlq.2 hB' hK)
    have h1 := List.all_eq_true.1 hlq.1.2 j (List.mem_range.2 hjs)
    simp only [Bool.or_eq_true, decide_eq_true_eq] at h1
    rcases h1 with h1 | h1
    · omega
    · exact h1
def planJ (ops : Array Oper) (F : Nat) (rs ts : List Nat) (q k : Nat) : Bool :=
  Region.noSelect ops && decide (rs.length + (ts.length + (ops.size - k)) = ops.size) && (rs.all fun i => decide (i < q) && (List.range ops.size).all fun j => decide (j < q) || deepB .any ops F j i) && headJ .any ops F q k (ops.size - k) ts rs (Array.replicate ops.size false)
/-- Readers first, then some in their one order, then what only reads. -/
theorem held_pick3 {id : Nat} {a : Act} {w : World} (F : Nat) (rs ts : List Nat) (q k : Nat) (S : World → Prop) (hm : P.follows .mixedOrders = true) (hB : planJ ops F rs ts q k = true)
    (hQ : ∀ d v c a w, Q (.panic c) (Act.put a d v) w → Q (.panic c) a w) (hS : S w.drew)
    (h : wpTakeI P ops S (fun a' => wpTailJ P ops Q S q (fun a' w' => wpStill P ops w' (fun a'' => Q .normal a'' w') (ops.toList.drop k) a') ts a' w.drew) rs a) : (Code.region id ops true).wp P Q a w := by
  simp only [planJ, Bool.and_eq_true, decide_eq_true_eq] at hB
  obtain ⟨⟨⟨hsel, hlen⟩, hlast⟩, hhead⟩ := hB
  have hl : (ops.toList.drop k).length = ops.size - k := by simp
  have H := wpAnyQ_headJ (P := P) (md := .any) (Q := Q) (S := S) (q := q) (w := w.drew) (F := F) (k := k) (l := ops.toList.drop k) hsel (fun j => by simp) hQ hS rs _ a hlast (by rw [hl]; exact hhead) h
  refine wp_region_any hm ?_
  have H2 := wpAny_of_Q _ _ _ _ H
  rw [hl, hlen] at H2
  exact H2
end
end Go.Proofs.YtmmflekajbeamaaGreatDoor

namespace Go.Proofs.YtmmflekajbeamaaGreatDoor
open Go.RowKit Go.Maps Go.WideMaps

/-- What package crib's Start leaves. -/
def CsPost (D : Nat) (vs : Nat → Value) (w : World) (n : Int) (g' : EgN) (d' : DvN) (e' : Ending) (w' : World) : Prop :=
  ∃ vs', DvAt D d' vs' w' ∧ Chg (dHas D vs) w w' ∧ (∀ x, dHas D vs' x → dHas D vs x ∨ w.heap.size ≤ x) ∧
    ((n ≠ 0 ∧ e' = .returned (.tuple #[.pointer none, .int .i64 n])) ∨ (n = 0 ∧ ∃ X E m' v', w.heap.size ≤ E ∧ w.heap.size ≤ X ∧ e' = .returned (.tuple #[.pointer (some ⟨X, 0, none⟩), .int .i64 0]) ∧ XAt X E w' ∧ EdAt E D g' d' m' v' vs' w' ∧ (∀ x, eHas E m' v' x → w.heap.size ≤ x ∧ x ≠ X) ∧ ∀ x, dHas D vs' x → x ≠ X))
set_option maxRecDepth 100000 in
set_option maxHeartbeats 4000000 in
theorem cStart_any (X0 D : Nat) (d : DvN) (vs : Nat → Value) (z : List Int) (w : World) (hx : XAt X0 D w) (h : DvAt D d vs w) (ht : Tab w) (hz : z.length = 138) (hs : stB z = true) :
    Calls Tryz.prog 18 #[.pointer (some ⟨X0, 0, none⟩), .agg (S z)] w (CsPost D vs w (openE dOps (newG (wrap64 (d.wk + 1)) z) (engD d)).1 (openE dOps (newG (wrap64 (d.wk + 1)) z) (engD d)).2.1 (openE dOps (newG (wrap64 (d.wk + 1)) z) (engD d)).2.2) := by
  have HWi := hide (fun w' (h : XAt X0 D w') => within_any X0 D w' h)
  have HSt := hide (fun w' (h' : DvAt D d vs w') (ht' : Tab w') => eStart_any D d vs z w' h' ht' hz hs)
  have HH := hide h; have HT := hide ht
  generalize openE dOps (newG (wrap64 (d.wk + 1)) z) (engD d) = R at *
  obtain ⟨n, g', d'⟩ := R
  simp only at HSt ⊢
  clear h ht hs
  have HR0 : Hid ((w.alloc (.cells (S z) 28)).heap[w.heap.size]? = some (.cells (S z) 28 (0, 0))) := _root_.Go.heap_alloc_new w _
  have HB0 : Hid (Below w.heap.size w (w.alloc (.cells (S z) 28))) := below_alloc _
  have HLd := hide (fun w' x => load_S w' x z hz)
  obtain ⟨W0, hW0⟩ : ∃ W0, W0 = w.alloc (.cells (S z) 28) := ⟨_, rfl⟩
  have hwd := hW0
  rw [← hW0] at HR0 HB0
  have HW0 := hide hW0
  have r0 := HR0.out
  have hx0 : XAt X0 D W0.drew := (World.cell?_of_block (HB0.out.block X0 (block_lt_of_cell hx))).trans hx
  have hd0 : DvAt D d vs W0.drew := HH.out.kept HB0.out.size (fun x q => HB0.out.block x (HH.out.has q).2)
  have ht0 : Tab W0.drew := HT.out.below HT.out.pos HB0.out.drew
  clear hW0 hwd hz hx
  go_enter Tryz.func18, Tryz.ntmps18
  go_upto_region 1 with fail
  rw [← HW0.out]
  refine held_pick3 6 [0, 2] [1, 3] 3 4 (fun w' => w'.heap[w.heap.size]? = some (.cells (S z) 28 (0, 0))) (by kernel_rfl) (by kernel_rfl) (fun d _ _ _ _ h => by cases d <;> exact h) r0 ?_
  refine wpTakeI_step ?_ rfl rfl ?_ ?_
  rotate_left
  · rintro w' d0
    go_simp
    rfl
  go_simp
  refine wpTakeI_step (.agg (S z)) rfl rfl ?_ ?_
  · rintro w' d0
    have hl := HLd.out w' _ d0
    simp only [execOp, List.getElem_toArray, List.getElem_cons_succ, List.getElem_cons_zero, Sem.run_bind]
    show Result.andThen (Sem.run Tryz.prog (Instr.loadAt 28 (.pointer (some ⟨w.heap.size, 0, none⟩))) w') _ = _
    rw [hl]
    rfl
  go_simp
  refine wpTakeI_nil ?_
  refine wpTailJ_step rfl rfl (fun K hK => ?_)
  go_simp
  refine (unhide HWi _ hx0).mono ?_
  rintro e w' ⟨rfl, hw'⟩
  obtain rfl := hw'.symm
  go_simp
  refine hK _ _ (fun _ => r0) ?_
  clear hK K
  refine wpTailJ_step rfl rfl (fun K hK => ?_)
  go_simp
  refine (unhide HSt _ hd0 ht0).mono ?_
  rintro e w2 ⟨vs2, hd2, hc2, vo2, hres⟩
  have HC2 : Hid (Chg (dHas D vs) w w2) := (Chg.of_below (HB0.out.drew)).trans (fun x q => .inl q) hc2
  have HV2 : Hid (∀ x, dHas D vs2 x → dHas D vs x ∨ w.heap.size ≤ x) := fun x q => (vo2 x q).imp id (fun a => Nat.le_trans HB0.out.size a)
  have HD2 := hide hd2
  rcases hres with ⟨hn, rfl⟩ | ⟨rfl, E, m', v', hE, rfl, k2, eo⟩
  · have HN := hide hn
    have hn' : (n == 0) = false := by simpa using hn
    go_simp
    refine hK _ _ (fun h => absurd h (by decide)) ?_
    clear hK K hd2 hc2 vo2 HSt hn
    refine wpTailJ_nil ?_
    repeat still_step
    refine wpStill_nil ?_
    go_wp2_with fail
    go_ret2
    exact ⟨vs2, HD2.out, HC2.out, HV2.out, .inl ⟨HN.out, rfl⟩⟩
  · have HK2 := hide k2
    have HEo : Hid (∀ x, eHas E m' v' x → w.heap.size ≤ x) := fun x q => Nat.le_trans HB0.out.size (eo x q)
    have HE : Hid (w.heap.size ≤ E) := Nat.le_trans HB0.out.size hE
    go_simp
    refine hK _ _ (fun h => absurd h (by decide)) ?_
    clear hK K hd2 hc2 vo2 HSt k2 eo hE
    refine wpTailJ_nil ?_
    repeat still_step
    refine wpStill_nil ?_
    go_wp2_with fail
    go_ret2
    have hb3 : Below w2.heap.size w2 (w2.alloc (.cells #[.pointer (some ⟨E, 0, none⟩)] 96)) := (Below.refl _ _).alloc (Nat.le_refl _) _
    refine ⟨vs2, HD2.out.kept hb3.size (fun x q => hb3.block x (HD2.out.has q).2), HC2.out.trans (fun x q => .inl q) (Chg.of_below hb3), HV2.out, .inr ⟨rfl, w2.heap.size, E, m', v', HE.out, HC2.out.size, rfl, cell_row (_root_.Go.heap_alloc_new w2 _) 0, HK2.out.up hb3, fun x q => ⟨HEo.out x q, ?_⟩, fun x q => ?_⟩⟩
    · have := (HK2.out.eg.has q).2; omega
    · have := (HD2.out.has q).2; omega
end Go.Proofs.YtmmflekajbeamaaGreatDoor
