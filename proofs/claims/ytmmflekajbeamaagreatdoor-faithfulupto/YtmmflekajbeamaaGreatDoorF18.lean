/-
  The engine's book: a plan is laid in (book.lay), where the words are not there yet; the whole of lay.
  The engine's book: a plan is laid in (book.lay), where the words are not there yet.
-/
import Derived.Test.YtmmflekajbeamaaGreatDoorF17
namespace Go.Proofs.YtmmflekajbeamaaGreatDoor
open Go.RowKit Go.Maps Go.WideMaps

theorem len9 (z : List Int) (h : z.length = 9) : ∃ a0 a1 a2 a3 a4 a5 a6 a7 a8, z = [a0, a1, a2, a3, a4, a5, a6, a7, a8] := by
  match z, h with
  | [a0, a1, a2, a3, a4, a5, a6, a7, a8], _ => exact ⟨a0, a1, a2, a3, a4, a5, a6, a7, a8, rfl⟩
/-- The blocks that a book owns. -/
def bkHas (mv v : Value) (g : Nat) : Prop := mv = .map (some g) ∨ v.ownBlock = some g
theorem BoAt.lt {B N o : Nat} {l : List KwN} {mv v : Value} {w : World} (h : BoAt B N o l mv v w) : N < w.heap.size := block_lt_of_cell h.c0
theorem BoAt.has {B N o : Nat} {l : List KwN} {mv v : Value} {w : World} (h : BoAt B N o l mv v w) {g : Nat} (hg : bkHas mv v g) : B ≤ g ∧ g < w.heap.size ∧ g ≠ N := by
  rcases hg with hg | hg
  · rcases h.mp with ⟨q, _⟩ | ⟨b, D, q, hb, hm, _⟩
    · rw [q] at hg; cases hg
    · rw [q] at hg
      cases hg
      refine ⟨hb, hm.lt, fun e => ?_⟩
      obtain ⟨es, cl, hh⟩ := map_of hm
      obtain ⟨c, t, fr, hc⟩ := cells_of_cell h.c0
      rw [← e, hh] at hc; cases hc
  · have := row_lt h.ls g hg
    exact ⟨this.1, this.2, fun e => h.nv (e ▸ hg)⟩
theorem BoAt.apart {B N o : Nat} {l : List KwN} {b : Nat} {v : Value} {w : World} (h : BoAt B N o l (.map (some b)) v w) : v.ownBlock ≠ some b := fun e => by
  rcases h.mp with ⟨q, _⟩ | ⟨b', D, q, hb, hm, _⟩
  · cases q
  · cases q
    obtain ⟨es, cl, hh⟩ := map_of hm
    obtain ⟨_, c, t, fr, hc⟩ := ownsRow_cells h.ls b e
    rw [hh] at hc; cases hc
theorem BoAt.kept {B N o : Nat} {l : List KwN} {mv v : Value} {w w' : World} (h : BoAt B N o l mv v w) (hN : ∀ j, j = o ∨ j = o + 1 → w'.cell? ⟨N, j, none⟩ = w.cell? ⟨N, j, none⟩) (hk : ∀ g, bkHas mv v g → w'.heap[g]? = w.heap[g]?) : BoAt B N o l mv v w' := by
  refine ⟨(hN o (.inl rfl)).trans h.c0, (hN (o + 1) (.inr rfl)).trans h.c1, h.nv, ownsRow_keep h.ls (fun g hg => hk g (.inr hg)), h.ok, h.one, ?_⟩
  rcases h.mp with q | ⟨b, D, q, hB, hm, ht⟩
  · exact .inl q
  · exact .inr ⟨b, D, q, hB, map_keep hm (hk b (.inl q)), ht⟩
theorem BFr.trans {B N o : Nat} {mv v mv1 v1 : Value} {w w1 w2 : World} (h : BFr B N o mv v w w1) (own : ∀ g, bkHas mv1 v1 g → bkHas mv v g ∨ w.heap.size ≤ g) (k : BFr B N o mv1 v1 w1 w2) : BFr B N o mv v w w2 := by
  refine ⟨h.below.trans k.below, fun g hg h1 h2 h3 => ?_, fun j h1 h2 => (k.cells j h1 h2).trans (h.cells j h1 h2), fun j => (k.fz j).trans (h.fz j)⟩
  have hn : ¬ bkHas mv1 v1 g := fun q => by
    rcases own g q with (e | e) | e
    · exact h2 g e rfl
    · exact h3 e
    · omega
  exact (k.other g (Nat.lt_of_lt_of_le hg h.below.size) h1 (fun b e q => hn (.inl (by rw [e, q]))) (fun e => hn (.inr e))).trans (h.other g hg h1 h2 h3)
theorem BFr.above {B N o : Nat} {mv v : Value} {w w' : World} (hB : B ≤ w.heap.size) (hN : N < w.heap.size) (h : Below w.heap.size w w') : BFr B N o mv v w w' :=
  ⟨h.mono hB, fun g hg _ _ _ => h.block g hg, fun _ _ _ => World.cell?_of_block (h.block N hN), fun _ => World.frozen?_of_block (h.block N hN)⟩
/-- A map made for a book that has none. -/
theorem BoAt.made {B N o : Nat} {v : Value} {w w0 : World} (h : BoAt B N o [] (.map none) v w) (hBN : B ≤ N) (hb : Below w.heap.size w w0) (W : World) (hW : W = (w0.alloc (.map #[] 0)).setCell ⟨N, o, none⟩ (.map (some w0.heap.size))) :
    BoAt B N o [] (.map (some w0.heap.size)) v W ∧ BFr B N o (.map none) v w W := by
  have hN := h.lt
  have hB : B ≤ w.heap.size := Nat.le_trans hBN (Nat.le_of_lt hN)
  have hN0 : N < w0.heap.size := Nat.lt_of_lt_of_le hN hb.size
  have e0 : ∀ g, g < w0.heap.size → g ≠ N → W.heap[g]? = w0.heap[g]? := fun g hg hn => by rw [hW]; exact (set_other hn).trans (Below.heap_alloc w0 _ g hg)
  have eN : ∀ j, j ≠ o → W.cell? ⟨N, j, none⟩ = w.cell? ⟨N, j, none⟩ := fun j hj => by rw [hW, cell_off (fun e => hj e.symm)]; exact World.cell?_of_block ((Below.heap_alloc w0 _ N hN0).trans (hb.block N hN))
  have eF : ∀ j, W.frozen? ⟨N, j, none⟩ = w.frozen? ⟨N, j, none⟩ := fun j => by rw [hW, World.frozen?_setCell]; exact World.frozen?_of_block ((Below.heap_alloc w0 _ N hN0).trans (hb.block N hN))
  have hbel : Below w.heap.size w (w0.alloc (.map #[] 0)) := hb.alloc hb.size _
  refine ⟨⟨?_, (eN (o + 1) (by omega)).trans h.c1, h.nv, ?_, h.ok, h.one, .inr ⟨w0.heap.size, .map [], rfl, Nat.le_trans hB hb.size, ?_, fun e _ => ⟨⟨fun q => (by cases q), fun q => (by cases q)⟩, fun n hn => (by simp [bkW] at hn)⟩⟩⟩, ⟨?_, fun g hg h1 _ h3 => (e0 g (Nat.lt_of_lt_of_le hg hb.size) h1).trans (hb.block g hg), fun j h1 _ => eN j h1, eF⟩⟩
  · rw [hW]
    exact World.cell?_setCell_same _ _ _ ((World.cell?_of_block ((Below.heap_alloc w0 _ N hN0).trans (hb.block N hN))).trans h.c0)
  · exact ownsRow_keep h.ls (fun g hg => (e0 g (Nat.lt_of_lt_of_le (row_lt h.ls g hg).2 hb.size) (fun e => h.nv (e ▸ hg))).trans (hb.block g (row_lt h.ls g hg).2))
  · rw [hW]
    exact map_keep (World.ownsMap_made w0 _ _ _) (set_other (by omega))
  · rw [hW]
    exact (hbel.mono hB).setCell (p := ⟨N, o, none⟩) hBN _
/-- Behind a key more in the map, and an append to the list. -/
theorem lay_end {B N o : Nat} {l : List KwN} {b : Nat} {v : Value} {w w0 w3 w5 w4 : World} {ws : List Nat} {D' : DataW Unit} (h : BoAt B N o l (.map (some b)) v w) (hBN : B ≤ N) (hws : wOK ws) (hn : ws ∉ bkW l) (hb0 : Below w.heap.size w w0) (hg3 : w0.grownBy w3 (some b)) (ho3 : w3.ownsMap Tryz.prog 187 (plainElem Tryz.prog 3) b (l.length + 1) D') (hk3 : BoOK D' (bkW l ++ [ws]))
    (hb5 : Below w3.heap.size w3 w5) (g cap : Nat) (ho : w4.ownsRow B 127 2 (.slice (some ⟨g, 0, none⟩) (l.length + 1) cap) (l.length + 1) (bkCs l ++ [.string (bya (wdsT ws)), .string (bya [])])) (hgr : w5.grownBy w4 v.ownBlock) (ha : v.ownBlock = some g ∨ w.heap.size ≤ g) (W : World) (hW : W = w4.setCell ⟨N, o + 1, none⟩ (.slice (some ⟨g, 0, none⟩) (l.length + 1) cap)) :
    BoAt B N o (l ++ [(ws, [])]) (.map (some b)) (.slice (some ⟨g, 0, none⟩) (l.length + 1) cap) W ∧ BFr B N o (.map (some b)) v w W := by
  have hN := h.lt
  have hBw : B ≤ w.heap.size := Nat.le_trans hBN (Nat.le_of_lt hN)
  have hbh := h.has (g := b) (.inl rfl)
  have hbv := h.apart
  have hz03 : w.heap.size ≤ w3.heap.size := Nat.le_trans hb0.size hg3.size
  have hk : ∀ k, k < w.heap.size → k ≠ b → v.ownBlock ≠ some k → w4.heap[k]? = w.heap[k]? := fun k h1 h2 h3 =>
    (hgr.block k (Nat.lt_of_lt_of_le (Nat.lt_of_lt_of_le h1 hz03) hb5.size) (fun e => h3 e.symm)).trans ((hb5.block k (Nat.lt_of_lt_of_le h1 hz03)).trans ((hg3.block k (Nat.lt_of_lt_of_le h1 hb0.size) (fun e => h2 (Option.some.inj e))).trans (hb0.block k h1)))
  have hN4 : w4.heap[N]? = w.heap[N]? := hk N hN (fun e => hbh.2.2 e.symm) h.nv
  have hgN : g ≠ N := by
    rcases ha with ha | ha
    · exact fun e => h.nv (e ▸ ha)
    · omega
  have hWo : ∀ k, k ≠ N → W.heap[k]? = w4.heap[k]? := fun k hk => by rw [hW]; exact set_other hk
  have hWc : ∀ j, j ≠ o + 1 → W.cell? ⟨N, j, none⟩ = w.cell? ⟨N, j, none⟩ := fun j hj => by rw [hW, cell_off (fun e => hj e.symm)]; exact World.cell?_of_block hN4
  refine ⟨⟨(hWc o (by omega)).trans h.c0, ?_, (fun e => hgN (Option.some.inj e)), ?_, fun x hx => ?_, fun i j hi e => ?_, .inr ⟨b, D', rfl, hbh.1, ?_, ?_⟩⟩, ⟨?_, fun k h1 h2 h3 h4 => (hWo k h2).trans (hk k h1 (h3 b rfl) h4), fun j _ h2 => hWc j h2, fun j => by rw [hW, World.frozen?_setCell]; exact World.frozen?_of_block hN4⟩⟩
  · rw [hW]
    exact World.cell?_setCell_same _ _ _ ((World.cell?_of_block hN4).trans h.c1)
  · have e1 : bkCs (l ++ [(ws, [])]) = bkCs l ++ [.string (bya (wdsT ws)), .string (bya [])] := by unfold bkCs; rw [List.map_append]; exact knCs_snoc _ _
    rw [e1, List.length_append, List.length_singleton]
    exact ownsRow_keep ho (fun k hk => by cases hk; exact hWo g hgN)
  · rcases List.mem_append.1 hx with q | q
    · exact h.ok x q
    · simp at q; rw [q]; exact hws
  · have ew : bkW (l ++ [(ws, [])]) = bkW l ++ [ws] := by simp [bkW]
    rw [ew] at e
    have hlw : (bkW l).length = l.length := by simp [bkW]
    rw [List.length_append, List.length_singleton] at hi
    have key : ∀ m, m ≤ l.length → (bkW l ++ [ws])[m]? = some ws → m = l.length := fun m hm q => by
      rcases Nat.lt_or_ge m l.length with hl | hl
      · rw [List.getElem?_append_left (by omega)] at q
        exact absurd (List.mem_of_getElem? q) hn
      · omega
    have hlast : (bkW l ++ [ws])[l.length]? = some ws := by rw [← hlw, List.getElem?_append_right (Nat.le_refl _), Nat.sub_self]; rfl
    have hj : j < l.length + 1 := by
      rcases Nat.lt_or_ge j (l.length + 1) with q | q
      · exact q
      · have e2 : (bkW l ++ [ws])[j]? = none := List.getElem?_eq_none (by rw [List.length_append, hlw, List.length_singleton]; exact q)
        have e3 : i < (bkW l ++ [ws]).length := by rw [List.length_append, hlw, List.length_singleton]; exact hi
        rw [e2, List.getElem?_eq_getElem e3] at e
        cases e
    rcases Nat.lt_or_ge i l.length with q1 | q1 <;> rcases Nat.lt_or_ge j l.length with q2 | q2
    · rw [List.getElem?_append_left (by omega), List.getElem?_append_left (by omega)] at e
      exact h.one i j q1 e
    · have ej : j = l.length := by omega
      rw [ej, hlast] at e
      have := key i (by omega) e
      omega
    · have ei : i = l.length := by omega
      rw [ei, hlast] at e
      have := key j (by omega) e.symm
      omega
    · omega
  · rw [List.length_append, List.length_singleton]
    exact map_keep ho3 ((hWo b hbh.2.2).trans ((hgr.block b (Nat.lt_of_lt_of_le ho3.lt hb5.size) (fun e => hbv e.symm)).trans (hb5.block b ho3.lt)))
  · have ew : bkW (l ++ [(ws, [])]) = bkW l ++ [ws] := by simp [bkW]
    rw [ew]; exact hk3
  · rw [hW]
    refine ((((hb0.mono hBw).trans ?_).trans (hb5.mono (Nat.le_trans hBw hz03))).grown hgr (Nat.le_trans hBw (Nat.le_trans hz03 hb5.size)) (fun k hk => (row_lt h.ls k hk).1)).setCell (p := ⟨N, o + 1, none⟩) hBN _
    exact (Below.refl _ _).grown hg3 (Nat.le_trans hBw hb0.size) (fun k hk => by cases hk; exact hbh.1)
theorem World.setCell_alloc_swap (w : World) (a : Addr) (v : Value) (o : Obj) (h : a.block < w.heap.size) : (w.setCell a v).alloc o = (w.alloc o).setCell a v := by
  unfold World.setCell World.alloc
  congr 1
  apply Array.ext_getElem?
  intro k
  simp only [Array.getElem?_modify, Array.getElem?_push, Array.size_modify]
  by_cases hk : a.block = k
  · subst hk
    simp [Nat.ne_of_lt h]
  · simp [hk]
end Go.Proofs.YtmmflekajbeamaaGreatDoor

namespace Go.Proofs.YtmmflekajbeamaaGreatDoor
open Go.RowKit Go.Maps Go.WideMaps

theorem bkCs_len (l : List KwN) : (bkCs l).length = l.length * 2 := by
  induction l with
  | nil => rfl
  | cons k l ih => rw [bkCs_cons, List.length_cons, List.length_cons, ih, List.length_cons]; omega
def LayPost (B N o : Nat) (l' : List KwN) (mv v : Value) (w : World) (e' : Ending) (w' : World) : Prop :=
  e' = .returned (.tuple #[]) ∧ ∃ mv' v', BoAt B N o l' mv' v' w' ∧ BFr B N o mv v w w' ∧ ∀ g, bkHas mv' v' g → bkHas mv v g ∨ w.heap.size ≤ g
set_option maxRecDepth 100000 in
set_option maxHeartbeats 4000000 in
theorem lay_some (B N o : Nat) (l : List KwN) (b : Nat) (v : Value) (ws : List Nat) (p : ByteArray) (w : World) (h : BoAt B N o l (.map (some b)) v w) (hBN : B ≤ N) (hf : ∀ j, w.frozen? ⟨N, j, none⟩ = false) (hw : wOK ws) (hn : ws ∉ bkW l) (hl : l.length ≤ 1000000000000) :
    Calls Tryz.prog 190 #[.pointer (some ⟨N, o, none⟩), .agg (S (wdZ ws)), .string p] w (LayPost B N o (l ++ [(ws, lst p)]) (.map (some b)) v w) := by
  have hNw := h.lt
  have HL := hide hl; have HWs := hide hw; have HNo := hide hn; have HBN := hide hBN
  have cw0 := h.c0
  obtain ⟨X, hX⟩ : ∃ X, X = w.heap.size := ⟨_, rfl⟩
  have HX : Hid (¬ bkHas (.map (some b)) v X) := fun q => by have := (h.has q).2.1; omega
  obtain ⟨W, hW⟩ : ∃ W, W = w.alloc (.cells (S (wdZ ws)) 187) := ⟨_, rfl⟩
  have hrow : W.heap[X]? = some (.cells (S (wdZ ws)) 187 (0, 0)) := by rw [hW, hX, _root_.Go.heap_alloc_new]
  have hbW : Below w.heap.size w W := by rw [hW]; exact (Below.refl _ _).alloc (Nat.le_refl _) _
  have HW := hide (h.up hbW)
  have HF : Hid (∀ j, W.frozen? ⟨N, j, none⟩ = false) := fun j => (World.frozen?_of_block (hbW.block N hNw)).trans (hf j)
  have HFin : Hid (∀ W', BFr B N o (.map (some b)) v W W' → BFr B N o (.map (some b)) v w W') := fun W' k => (BFr.above (Nat.le_trans hBN (Nat.le_of_lt hNw)) hNw hbW).trans (fun g q => .inl q) k
  have HOwn : Hid (∀ g, bkHas (.map (some b)) v g → bkHas (.map (some b)) v g ∨ w.heap.size ≤ g) := fun g q => .inl q
  have HWz := hide hbW.size
  have me := map_eqn b
  have HWe := hide hW; have HXe := hide hX
  clear h hbW hf hn hw hl hBN hX hW
  have c0 := HW.out.c0; have c1 := HW.out.c1
  have g0 := HF.out o; have g1 := HF.out (o + 1)
  obtain ⟨D, hown, htok⟩ : ∃ D, W.ownsMap Tryz.prog 187 (plainElem Tryz.prog 3) b l.length D ∧ BoOK D (bkW l) := by
    rcases HW.out.mp with ⟨q, _⟩ | ⟨b', D, q, _, hm, ht⟩
    · cases q
    · cases q; exact ⟨D, hm, ht⟩
  obtain ⟨va, vc, hv⟩ := owns_len HW.out.ls
  obtain ⟨x, hrun⟩ : ∃ x, (Instr.lookup 129 (.map (some b)) (.agg (S (wdZ ws))) true).run Tryz.prog W.drew = .ok (.tuple #[x, .bool false]) W.drew := by
    obtain ⟨x, ps', hrun, hx⟩ := (hown.drew).look_ok lawW Tryz.underlying129 (zeroI _) (plainElem_int (H := Unit) Tryz.underlying3 (a := 0) (by decide)) (keyOfWs HWs.out)
    have hf : Maps.has D (kW ws) = false := by
      cases hq : Maps.has D (kW ws)
      · rfl
      · exact absurd ((htok ws HWs.out).1.1 hq) HNo.out
    rw [hf] at hrun
    exact ⟨x, hrun⟩
  have HK := hide (keyOfWs HWs.out)
  have HTk := hide (htok.add hown.isMap HWs.out HNo.out)
  have HOd := hide (hown.drew.drew)
  have hl' : l.length < maxLen := by have := HL.out; unfold maxLen; omega
  have hw64 : (Lit.int .i64 (l.length : Int)).wf = true := by
    have := HL.out
    refine WalkArith.wf_i64 ?_ <;> omega
  have HW64 := hide hw64; have HL' := hide hl'
  have HTx := hide (fun w' => wdText_any ws w' HWs.out.1 HWs.out.2)
  obtain ⟨inf, hinf, hz, hsz1, hby⟩ := infoKn
  have HInf := hide hinf; have HZ := hide hz; have HSz := hide hsz1; have HBy := hide hby
  have HV := hide hv
  rw [hv] at c1
  have hXb : X ≠ b := fun e => HX.out (.inl (by rw [e]))
  have hXo : some X ≠ (Value.slice va l.length vc).ownBlock := fun e => HX.out (.inr (by rw [HV.out, ← e]))
  have hbw : bkW l = bkW l := rfl
  have HLw : Hid ((bkW l).length = l.length) := by unfold Hid bkW; simp
  have hN : N < W.heap.size := HW.out.lt
  have hz9 := wdZ_len HWs.out.1
  clear hown htok hinf hz hsz1 hby hv hl' hw64 hbw
  generalize hLe : l.length = L at *
  have HLe := hide hLe
  clear hLe
  generalize hQ : wdZ ws = z at *
  clear hQ
  obtain ⟨a0, a1, a2, a3, a4, a5, a6, a7, a8, rfl⟩ := len9 z hz9
  simp only [S, List.map_cons, List.map_nil] at *
  have q0 : W.cell? ⟨X, 0, none⟩ = some (.int .i64 a0) := by simp [World.cell?, hrow]
  have q1 : W.cell? ⟨X, 1, none⟩ = some (.int .i64 a1) := by simp [World.cell?, hrow]
  have q2 : W.cell? ⟨X, 2, none⟩ = some (.int .i64 a2) := by simp [World.cell?, hrow]
  have q3 : W.cell? ⟨X, 3, none⟩ = some (.int .i64 a3) := by simp [World.cell?, hrow]
  have q4 : W.cell? ⟨X, 4, none⟩ = some (.int .i64 a4) := by simp [World.cell?, hrow]
  have q5 : W.cell? ⟨X, 5, none⟩ = some (.int .i64 a5) := by simp [World.cell?, hrow]
  have q6 : W.cell? ⟨X, 6, none⟩ = some (.int .i64 a6) := by simp [World.cell?, hrow]
  have q7 : W.cell? ⟨X, 7, none⟩ = some (.int .i64 a7) := by simp [World.cell?, hrow]
  have q8 : W.cell? ⟨X, 8, none⟩ = some (.int .i64 a8) := by simp [World.cell?, hrow]
  clear hrow
  go_enter Tryz.func190, Tryz.ntmps190
  go_wp2_with fail
  have hww := HWe.out; have hxx := HXe.out
  rw [← hww, ← hxx]
  clear hww hxx cw0 hNw me
  refine still_all (by kernel_rfl) (by kernel_rfl) ?_
  repeat still_step
  refine wpStill_nil ?_
  go_wp2_with fail
  refine still_tail 6 (by kernel_rfl) (by kernel_rfl) ?_
  simp only [List.take_succ_cons, List.take_zero, List.drop_succ_cons, List.drop_zero]
  repeat still_step
  refine wpStill_nil ?_
  go_wp2_with (at_mapUpdate; refine wpList_mapUpdate_own _ rfl _ _ _ 129 rfl 187 3 lawW Tryz.underlying129 _ b L D rfl HOd.out HL'.out _ _ (kW ws) rfl rfl HK.out (.lit (.int .i64 (L : Int))) [] (plainElem_int Tryz.underlying3 HW64.out) ?_; intro w3 hown3 hgr3; have H3 := hide hown3; have HG3 := hide hgr3; clear hown3 hgr3)
  have hXz : X < W.heap.size := block_lt_of_cell q0
  have kk : ∀ g j, g < W.heap.size → g ≠ b → w3.cell? ⟨g, j, none⟩ = W.cell? ⟨g, j, none⟩ := fun g j h1 h2 => World.cell?_of_block (HG3.out.block g h1 (fun e => h2 (Option.some.inj e)))
  have hNb : N ≠ b := fun e => (HW.out.has (g := b) (.inl rfl)).2.2 e.symm
  have hz3 : W.heap.size ≤ w3.heap.size := HG3.out.size
  have d0 := (kk N o hN hNb).trans c0
  have d1 := (kk N (o + 1) hN hNb).trans c1
  have t0 := (kk X 0 hXz hXb).trans q0
  have t1 := (kk X 1 hXz hXb).trans q1
  have t2 := (kk X 2 hXz hXb).trans q2
  have t3 := (kk X 3 hXz hXb).trans q3
  have t4 := (kk X 4 hXz hXb).trans q4
  have t5 := (kk X 5 hXz hXb).trans q5
  have t6 := (kk X 6 hXz hXb).trans q6
  have t7 := (kk X 7 hXz hXb).trans q7
  have t8 := (kk X 8 hXz hXb).trans q8
  have HFz3 : Hid (∀ j, w3.frozen? ⟨N, j, none⟩ = false) := fun j => (World.frozen?_of_block (HG3.out.block N hN (fun e => hNb (Option.some.inj e)))).trans (HF.out j)
  have HLs : Hid (w3.ownsRow B 127 2 (.slice va L vc) L (bkCs l)) := by
    have := HW.out.ls
    rw [HV.out, HLe.out] at this
    exact ownsRow_keep this (fun g hg => HG3.out.block g (row_lt this g hg).2 (fun e => by have := HW.out.apart; rw [HV.out] at this; exact this (by rw [← Option.some.inj e]; exact hg)))
  clear hrun kk q0 q1 q2 q3 q4 q5 q6 q7 q8 c0 c1 g0 g1
  refine held_tail 6 4 (fun w' => w'.cell? ⟨N, o + 1, none⟩ = some (.slice va L vc) ∧ w'.cell? ⟨X, 0, none⟩ = some (.int .i64 a0) ∧ w'.cell? ⟨X, 1, none⟩ = some (.int .i64 a1) ∧ w'.cell? ⟨X, 2, none⟩ = some (.int .i64 a2) ∧ w'.cell? ⟨X, 3, none⟩ = some (.int .i64 a3) ∧ w'.cell? ⟨X, 4, none⟩ = some (.int .i64 a4) ∧ w'.cell? ⟨X, 5, none⟩ = some (.int .i64 a5) ∧ w'.cell? ⟨X, 6, none⟩ = some (.int .i64 a6) ∧ w'.cell? ⟨X, 7, none⟩ = some (.int .i64 a7) ∧ w'.cell? ⟨X, 8, none⟩ = some (.int .i64 a8)) (by kernel_rfl) (by kernel_rfl) (fun d _ _ _ _ h => by cases d <;> exact h) ⟨d1, t0, t1, t2, t3, t4, t5, t6, t7, t8⟩ ?_
  simp only [List.take_succ_cons, List.take_zero, List.drop_succ_cons, List.drop_zero]
  iterate 6
    refine wpTake_step ?_ rfl ?_ ?_
    rotate_left
    · rintro w' ⟨e1, f0, f1, f2, f3, f4, f5, f6, f7, f8⟩
      go_simp
      rfl
    go_simp
  refine wpTake_nil ?_
  refine wpTail_step rfl (fun K hK => ?_)
  go_simp
  refine (unhide HTx _).mono ?_
  rintro e w5 ⟨rfl, hb5⟩
  have HB5 : Hid (Below w3.heap.size w3 w5) := ((Below.refl w3.heap.size w3).drew).trans hb5
  clear hb5
  have hz5 := HB5.out.size
  have hX3 : X < w3.heap.size := Nat.lt_of_lt_of_le hXz hz3
  have hN3 : N < w3.heap.size := Nat.lt_of_lt_of_le hN hz3
  have k5 : ∀ g j, g < w3.heap.size → w5.cell? ⟨g, j, none⟩ = w3.cell? ⟨g, j, none⟩ := fun g j h1 => World.cell?_of_block (HB5.out.block g h1)
  have s1 := (k5 N (o + 1) hN3).trans d1
  have s0 := (k5 N o hN3).trans d0
  have u0 := (k5 X 0 hX3).trans t0
  have u1 := (k5 X 1 hX3).trans t1
  have u2 := (k5 X 2 hX3).trans t2
  have u3 := (k5 X 3 hX3).trans t3
  have u4 := (k5 X 4 hX3).trans t4
  have u5 := (k5 X 5 hX3).trans t5
  have u6 := (k5 X 6 hX3).trans t6
  have u7 := (k5 X 7 hX3).trans t7
  have u8 := (k5 X 8 hX3).trans t8
  clear k5 d0 d1 t0 t1 t2 t3 t4 t5 t6 t7 t8
  go_simp
  refine hK _ _ ⟨s1, u0, u1, u2, u3, u4, u5, u6, u7, u8⟩ ?_
  clear hK K
  refine wpTail_step rfl (fun K hK => ?_)
  go_simp
  refine hK _ _ ⟨s1, u0, u1, u2, u3, u4, u5, u6, u7, u8⟩ ?_
  clear hK K
  refine wpTail_step rfl (fun K hK => ?_)
  go_simp
  have hX5 : X < w5.heap.size := Nat.lt_of_lt_of_le hX3 hz5
  have hN5 : N < w5.heap.size := Nat.lt_of_lt_of_le hN3 hz5
  have k6 : ∀ ob g j, g < w5.heap.size → (w5.alloc ob).cell? ⟨g, j, none⟩ = w5.cell? ⟨g, j, none⟩ := fun ob g j h1 => World.cell?_of_block (Below.heap_alloc w5 ob g h1)
  refine hK _ _ ⟨(k6 _ N (o + 1) hN5).trans s1, (k6 _ X 0 hX5).trans u0, (k6 _ X 1 hX5).trans u1, (k6 _ X 2 hX5).trans u2, (k6 _ X 3 hX5).trans u3, (k6 _ X 4 hX5).trans u4, (k6 _ X 5 hX5).trans u5, (k6 _ X 6 hX5).trans u6, (k6 _ X 7 hX5).trans u7, (k6 _ X 8 hX5).trans u8⟩ ?_
  clear hK K
  refine wpTail_step rfl (fun K hK => ?_)
  have HO5 : Hid ((w5.alloc (.cells #[.string (bya (wdsT ws)), .string ⟨#[]⟩] 127)).ownsRow B 127 2 (.slice va L vc) L (bkCs l)) := (own_grow HLs.out HB5.out).alloc _
  refine wp_append_lies _ _ _ 57 rfl B 127 inf _ 2 32 Tryz.underlying57 HInf.out HZ.out HSz.out HBy.out rfl (by decide) (.slice va L vc) L (bkCs l) rfl HO5.out ⟨w5.heap.size, 0, none⟩ 1 1 [.string (bya (wdsT ws)), .string ⟨#[]⟩] rfl rfl (World.news_of_block (_root_.Go.heap_alloc_new w5 _)) (fun u hu => by simp at hu; rcases hu with rfl | rfl <;> rfl) (by decide) (by have := HL.out; unfold maxLen; omega) (by have := HL.out; omega) (by rw [size_alloc1]; have := HBN.out; omega) (w5.heap.size + 1) (by rw [size_alloc1]) ?_
  intro g cap w4 hown4 hgr4 hat4 hlt4
  have hNo : some N ≠ (Value.slice va L vc).ownBlock := fun q => HW.out.nv (by rw [HV.out]; exact q.symm)
  have k1 : ∀ j, w4.cell? ⟨N, j, none⟩ = w5.cell? ⟨N, j, none⟩ := fun j => by
    rw [hgr4.cell_far ⟨N, j, none⟩ (by rw [size_alloc1]; exact Nat.lt_succ_of_lt hN5) hNo]
    exact World.cell?_of_block (Below.heap_alloc w5 _ N hN5)
  have k2 : ∀ j, w4.frozen? ⟨N, j, none⟩ = false := fun j => by
    rw [hgr4.frozen_far ⟨N, j, none⟩ (by rw [size_alloc1]; exact Nat.lt_succ_of_lt hN5) hNo]
    exact (World.frozen?_of_block (w := w5) (Below.heap_alloc w5 _ N hN5)).trans ((World.frozen?_of_block (HB5.out.block N hN3)).trans (HFz3.out j))
  have k3 : ∀ j, w4.cell? ⟨X, j, none⟩ = w5.cell? ⟨X, j, none⟩ := fun j => by
    rw [hgr4.cell_far ⟨X, j, none⟩ (by rw [size_alloc1]; exact Nat.lt_succ_of_lt hX5) hXo]
    exact World.cell?_of_block (Below.heap_alloc w5 _ X hX5)
  have HE4 : Hid (∀ W', W' = w4.setCell ⟨N, o + 1, none⟩ (.slice (some ⟨g, 0, none⟩) (L + 1) cap) → BoAt B N o (l ++ [(ws, [])]) (.map (some b)) (.slice (some ⟨g, 0, none⟩) (L + 1) cap) W' ∧ BFr B N o (.map (some b)) v W W') := fun W' hW' => by
    have key := lay_end (w := W) (w0 := W.drew.drew) (w3 := w3) (w5 := w5.alloc (.cells #[.string (bya (wdsT ws)), .string ⟨#[]⟩] 127)) (w4 := w4) (W := W') HW.out HBN.out HWs.out HNo.out (((Below.refl _ _).drew).drew) HG3.out (by rw [HLe.out]; exact H3.out) (by have := HTk.out; rw [HLw.out] at this; exact this) (HB5.out.alloc hz5 _) g cap (by rw [HLe.out]; exact hown4) (by rw [HV.out]; exact hgr4) (by rw [HV.out]; rcases hat4 with q | q; exact .inl q; exact .inr (by omega)) (by rw [HLe.out]; exact hW')
    rw [HLe.out] at key
    exact key
  have HAt : Hid (v.ownBlock = some g ∨ W.heap.size ≤ g) := by unfold Hid; rw [HV.out]; rcases hat4 with q | q; exact .inl q; exact .inr (by omega)
  refine hK _ _ ⟨(k1 (o + 1)).trans s1, (k3 0).trans u0, (k3 1).trans u1, (k3 2).trans u2, (k3 3).trans u3, (k3 4).trans u4, (k3 5).trans u5, (k3 6).trans u6, (k3 7).trans u7, (k3 8).trans u8⟩ ?_
  have y1 := (k1 (o + 1)).trans s1
  have y0 := (k1 o).trans s0
  have yf := k2 (o + 1)
  have h4L : w4.frozen? ⟨g, L * 2 + 1, none⟩ = false := hown4.frozenAt _
  have h4c : ∃ u, w4.cell? ⟨g, L * 2 + 1, none⟩ = some u := ⟨_, by
    rw [hown4.cellAt (L * 2 + 1) (by omega), List.getElem?_append_right (by rw [bkCs_len, HLe.out]; omega), bkCs_len, HLe.out, show L * 2 + 1 - L * 2 = 1 by omega]
    rfl⟩
  obtain ⟨u, hu⟩ := h4c
  have hgN : g ≠ N := by
    rcases hat4 with q | q
    · exact fun e => hNo (by rw [← e]; exact q.symm)
    · omega
  clear hown4 hgr4 hat4 k1 k3 k2 s0 s1 u0 u1 u2 u3 u4 u5 u6 u7 u8 hK K k6
  unfold wpTailS
  have hL0 : ¬ (L : Int) < 0 := by omega
  have hL1 : (L : Int) < ((L + 1 : Nat) : Int) := by omega
  go_wp2_with fail
  go_end0
  obtain ⟨e1, e2⟩ := HE4.out _ rfl
  have e3 := e1.setPlan (n := l.length) (k := (ws, [])) (g := g) (c := cap) (by simp) (by rw [List.length_append, HLe.out]; rfl) (lst p)
  rw [bya_lst, HLe.out] at e3
  have own : ∀ g', bkHas (.map (some b)) (.slice (some ⟨g, 0, none⟩) (L + 1) cap) g' → bkHas (.map (some b)) v g' ∨ W.heap.size ≤ g' := fun g' q => by
    rcases q with q | q
    · exact .inl (.inl q)
    · cases q
      rcases HAt.out with a | a
      · exact .inl (.inr a)
      · exact .inr a
  have e4 : (l ++ [(ws, [])]).set L (ws, lst p) = l ++ [(ws, lst p)] := by rw [← HLe.out]; simp
  rw [e4] at e3
  refine ⟨rfl, _, _, e3.1, HFin.out _ (e2.trans own e3.2), fun g' q => ?_⟩
  rcases own g' q with a | a
  · exact HOwn.out g' a
  · exact .inr (Nat.le_trans HWz.out a)

set_option maxRecDepth 100000 in
set_option maxHeartbeats 4000000 in
theorem lay_nil (B N o : Nat) (v : Value) (ws : List Nat) (p : ByteArray) (w : World) (h : BoAt B N o [] (.map none) v w) (hBN : B ≤ N) (hf : ∀ j, w.frozen? ⟨N, j, none⟩ = false) (hw : wOK ws) :
    Calls Tryz.prog 190 #[.pointer (some ⟨N, o, none⟩), .agg (S (wdZ ws)), .string p] w (LayPost B N o ([] ++ [(ws, lst p)]) (.map none) v w) := by
  have hNw := h.lt
  have cw0 := h.c0
  obtain ⟨l, hl0⟩ : ∃ l : List KwN, l = [] := ⟨[], rfl⟩
  have HL : Hid (l.length ≤ 1000000000000) := by unfold Hid; rw [hl0]; exact Nat.zero_le _
  have HNo : Hid (ws ∉ bkW l) := by unfold Hid; rw [hl0]; exact List.not_mem_nil
  have HWs := hide hw; have HBN := hide hBN
  obtain ⟨X, hX⟩ : ∃ X, X = w.heap.size := ⟨_, rfl⟩
  obtain ⟨b, hb⟩ : ∃ b, b = w.heap.size + 1 := ⟨_, rfl⟩
  have hs0 : (w.alloc (.cells (S (wdZ ws)) 187)).heap.size = w.heap.size + 1 := size_alloc1 _ _
  have hb0 : Below w.heap.size w (w.alloc (.cells (S (wdZ ws)) 187)) := (Below.refl _ _).alloc (Nat.le_refl _) _
  obtain ⟨W, hW⟩ : ∃ W, W = ((w.setCell ⟨N, o, none⟩ (.map (some (w.heap.size + 1)))).alloc (.cells (S (wdZ ws)) 187)).alloc (.map #[] 0) := ⟨_, rfl⟩
  have hW' : W = ((w.alloc (.cells (S (wdZ ws)) 187)).alloc (.map #[] 0)).setCell ⟨N, o, none⟩ (.map (some (w.heap.size + 1))) := by rw [hW, World.setCell_alloc_swap _ _ _ _ hNw, World.setCell_alloc_swap _ _ _ _ (by show N < _; rw [size_alloc1]; omega)]
  have made := h.made hBN hb0 W (by rw [hW', hs0])
  rw [hs0, ← hb] at made
  have HX : Hid (¬ bkHas (.map (some b)) v X) := fun q => by
    rcases q with q | q
    · cases q; omega
    · have := (row_lt h.ls X q).2; omega
  have hrow : W.heap[X]? = some (.cells (S (wdZ ws)) 187 (0, 0)) := by rw [hW', set_other (by omega), Below.heap_alloc _ _ _ (by rw [hs0]; omega), hX, _root_.Go.heap_alloc_new]
  have HW : Hid (BoAt B N o l (.map (some b)) v W) := by unfold Hid; rw [hl0]; exact made.1
  have HF : Hid (∀ j, W.frozen? ⟨N, j, none⟩ = false) := fun j => (made.2.fz j).trans (hf j)
  have HOwn : Hid (∀ g, bkHas (.map (some b)) v g → bkHas (.map none) v g ∨ w.heap.size ≤ g) := fun g q => by
    rcases q with q | q
    · cases q; exact .inr (by omega)
    · exact .inl (.inr q)
  have HFin : Hid (∀ W', BFr B N o (.map (some b)) v W W' → BFr B N o (.map none) v w W') := fun W' k => made.2.trans HOwn.out k
  have HWz : Hid (w.heap.size ≤ W.heap.size) := made.2.below.size
  have me := map_eq0
  have mk : ∀ w, (Instr.makeMap 129 none).run Tryz.prog w = .ok (.map (some w.heap.size)) (w.alloc (.map #[] 0)) := fun w => rfl
  have gw0 := hf o
  have HWe := hide hW; have HXe := hide hX
  have hNz : ¬ N = w.heap.size := by omega
  suffices HH : Calls Tryz.prog 190 #[.pointer (some ⟨N, o, none⟩), .agg (S (wdZ ws)), .string p] w (LayPost B N o (l ++ [(ws, lst p)]) (.map none) v w) by rw [hl0] at HH; exact HH
  clear h hf hw hBN hX hW hW' hs0 hb0 made hl0 hb
  have c0 := HW.out.c0; have c1 := HW.out.c1
  have g0 := HF.out o; have g1 := HF.out (o + 1)
  obtain ⟨D, hown, htok⟩ : ∃ D, W.ownsMap Tryz.prog 187 (plainElem Tryz.prog 3) b l.length D ∧ BoOK D (bkW l) := by
    rcases HW.out.mp with ⟨q, _⟩ | ⟨b', D, q, _, hm, ht⟩
    · cases q
    · cases q; exact ⟨D, hm, ht⟩
  obtain ⟨va, vc, hv⟩ := owns_len HW.out.ls
  obtain ⟨x, hrun⟩ : ∃ x, (Instr.lookup 129 (.map (some b)) (.agg (S (wdZ ws))) true).run Tryz.prog W.drew = .ok (.tuple #[x, .bool false]) W.drew := by
    obtain ⟨x, ps', hrun, hx⟩ := (hown.drew).look_ok lawW Tryz.underlying129 (zeroI _) (plainElem_int (H := Unit) Tryz.underlying3 (a := 0) (by decide)) (keyOfWs HWs.out)
    have hf : Maps.has D (kW ws) = false := by
      cases hq : Maps.has D (kW ws)
      · rfl
      · exact absurd ((htok ws HWs.out).1.1 hq) HNo.out
    rw [hf] at hrun
    exact ⟨x, hrun⟩
  have HK := hide (keyOfWs HWs.out)
  have HTk := hide (htok.add hown.isMap HWs.out HNo.out)
  have HOd := hide (hown.drew.drew)
  have hl' : l.length < maxLen := by have := HL.out; unfold maxLen; omega
  have hw64 : (Lit.int .i64 (l.length : Int)).wf = true := by
    have := HL.out
    refine WalkArith.wf_i64 ?_ <;> omega
  have HW64 := hide hw64; have HL' := hide hl'
  have HTx := hide (fun w' => wdText_any ws w' HWs.out.1 HWs.out.2)
  obtain ⟨inf, hinf, hz, hsz1, hby⟩ := infoKn
  have HInf := hide hinf; have HZ := hide hz; have HSz := hide hsz1; have HBy := hide hby
  have HV := hide hv
  rw [hv] at c1
  have hXb : X ≠ b := fun e => HX.out (.inl (by rw [e]))
  have hXo : some X ≠ (Value.slice va l.length vc).ownBlock := fun e => HX.out (.inr (by rw [HV.out, ← e]))
  have hbw : bkW l = bkW l := rfl
  have HLw : Hid ((bkW l).length = l.length) := by unfold Hid bkW; simp
  have hN : N < W.heap.size := HW.out.lt
  have hz9 := wdZ_len HWs.out.1
  clear hown htok hinf hz hsz1 hby hv hl' hw64 hbw
  generalize hLe : l.length = L at *
  have HLe := hide hLe
  clear hLe
  generalize hQ : wdZ ws = z at *
  clear hQ
  obtain ⟨a0, a1, a2, a3, a4, a5, a6, a7, a8, rfl⟩ := len9 z hz9
  simp only [S, List.map_cons, List.map_nil] at *
  have q0 : W.cell? ⟨X, 0, none⟩ = some (.int .i64 a0) := by simp [World.cell?, hrow]
  have q1 : W.cell? ⟨X, 1, none⟩ = some (.int .i64 a1) := by simp [World.cell?, hrow]
  have q2 : W.cell? ⟨X, 2, none⟩ = some (.int .i64 a2) := by simp [World.cell?, hrow]
  have q3 : W.cell? ⟨X, 3, none⟩ = some (.int .i64 a3) := by simp [World.cell?, hrow]
  have q4 : W.cell? ⟨X, 4, none⟩ = some (.int .i64 a4) := by simp [World.cell?, hrow]
  have q5 : W.cell? ⟨X, 5, none⟩ = some (.int .i64 a5) := by simp [World.cell?, hrow]
  have q6 : W.cell? ⟨X, 6, none⟩ = some (.int .i64 a6) := by simp [World.cell?, hrow]
  have q7 : W.cell? ⟨X, 7, none⟩ = some (.int .i64 a7) := by simp [World.cell?, hrow]
  have q8 : W.cell? ⟨X, 8, none⟩ = some (.int .i64 a8) := by simp [World.cell?, hrow]
  clear hrow
  go_enter Tryz.func190, Tryz.ntmps190
  go_wp2_with fail
  have hww := HWe.out; have hxx := HXe.out
  rw [← hww, ← hxx]
  clear hww hxx cw0 gw0 hNw me mk hNz
  refine still_all (by kernel_rfl) (by kernel_rfl) ?_
  repeat still_step
  refine wpStill_nil ?_
  go_wp2_with fail
  refine still_tail 6 (by kernel_rfl) (by kernel_rfl) ?_
  simp only [List.take_succ_cons, List.take_zero, List.drop_succ_cons, List.drop_zero]
  repeat still_step
  refine wpStill_nil ?_
  go_wp2_with (at_mapUpdate; refine wpList_mapUpdate_own _ rfl _ _ _ 129 rfl 187 3 lawW Tryz.underlying129 _ b L D rfl HOd.out HL'.out _ _ (kW ws) rfl rfl HK.out (.lit (.int .i64 (L : Int))) [] (plainElem_int Tryz.underlying3 HW64.out) ?_; intro w3 hown3 hgr3; have H3 := hide hown3; have HG3 := hide hgr3; clear hown3 hgr3)
  have hXz : X < W.heap.size := block_lt_of_cell q0
  have kk : ∀ g j, g < W.heap.size → g ≠ b → w3.cell? ⟨g, j, none⟩ = W.cell? ⟨g, j, none⟩ := fun g j h1 h2 => World.cell?_of_block (HG3.out.block g h1 (fun e => h2 (Option.some.inj e)))
  have hNb : N ≠ b := fun e => (HW.out.has (g := b) (.inl rfl)).2.2 e.symm
  have hz3 : W.heap.size ≤ w3.heap.size := HG3.out.size
  have d0 := (kk N o hN hNb).trans c0
  have d1 := (kk N (o + 1) hN hNb).trans c1
  have t0 := (kk X 0 hXz hXb).trans q0
  have t1 := (kk X 1 hXz hXb).trans q1
  have t2 := (kk X 2 hXz hXb).trans q2
  have t3 := (kk X 3 hXz hXb).trans q3
  have t4 := (kk X 4 hXz hXb).trans q4
  have t5 := (kk X 5 hXz hXb).trans q5
  have t6 := (kk X 6 hXz hXb).trans q6
  have t7 := (kk X 7 hXz hXb).trans q7
  have t8 := (kk X 8 hXz hXb).trans q8
  have HFz3 : Hid (∀ j, w3.frozen? ⟨N, j, none⟩ = false) := fun j => (World.frozen?_of_block (HG3.out.block N hN (fun e => hNb (Option.some.inj e)))).trans (HF.out j)
  have HLs : Hid (w3.ownsRow B 127 2 (.slice va L vc) L (bkCs l)) := by
    have := HW.out.ls
    rw [HV.out, HLe.out] at this
    exact ownsRow_keep this (fun g hg => HG3.out.block g (row_lt this g hg).2 (fun e => by have := HW.out.apart; rw [HV.out] at this; exact this (by rw [← Option.some.inj e]; exact hg)))
  clear hrun kk q0 q1 q2 q3 q4 q5 q6 q7 q8 c0 c1 g0 g1
  refine held_tail 6 4 (fun w' => w'.cell? ⟨N, o + 1, none⟩ = some (.slice va L vc) ∧ w'.cell? ⟨X, 0, none⟩ = some (.int .i64 a0) ∧ w'.cell? ⟨X, 1, none⟩ = some (.int .i64 a1) ∧ w'.cell? ⟨X, 2, none⟩ = some (.int .i64 a2) ∧ w'.cell? ⟨X, 3, none⟩ = some (.int .i64 a3) ∧ w'.cell? ⟨X, 4, none⟩ = some (.int .i64 a4) ∧ w'.cell? ⟨X, 5, none⟩ = some (.int .i64 a5) ∧ w'.cell? ⟨X, 6, none⟩ = some (.int .i64 a6) ∧ w'.cell? ⟨X, 7, none⟩ = some (.int .i64 a7) ∧ w'.cell? ⟨X, 8, none⟩ = some (.int .i64 a8)) (by kernel_rfl) (by kernel_rfl) (fun d _ _ _ _ h => by cases d <;> exact h) ⟨d1, t0, t1, t2, t3, t4, t5, t6, t7, t8⟩ ?_
  simp only [List.take_succ_cons, List.take_zero, List.drop_succ_cons, List.drop_zero]
  iterate 6
    refine wpTake_step ?_ rfl ?_ ?_
    rotate_left
    · rintro w' ⟨e1, f0, f1, f2, f3, f4, f5, f6, f7, f8⟩
      go_simp
      rfl
    go_simp
  refine wpTake_nil ?_
  refine wpTail_step rfl (fun K hK => ?_)
  go_simp
  refine (unhide HTx _).mono ?_
  rintro e w5 ⟨rfl, hb5⟩
  have HB5 : Hid (Below w3.heap.size w3 w5) := ((Below.refl w3.heap.size w3).drew).trans hb5
  clear hb5
  have hz5 := HB5.out.size
  have hX3 : X < w3.heap.size := Nat.lt_of_lt_of_le hXz hz3
  have hN3 : N < w3.heap.size := Nat.lt_of_lt_of_le hN hz3
  have k5 : ∀ g j, g < w3.heap.size → w5.cell? ⟨g, j, none⟩ = w3.cell? ⟨g, j, none⟩ := fun g j h1 => World.cell?_of_block (HB5.out.block g h1)
  have s1 := (k5 N (o + 1) hN3).trans d1
  have s0 := (k5 N o hN3).trans d0
  have u0 := (k5 X 0 hX3).trans t0
  have u1 := (k5 X 1 hX3).trans t1
  have u2 := (k5 X 2 hX3).trans t2
  have u3 := (k5 X 3 hX3).trans t3
  have u4 := (k5 X 4 hX3).trans t4
  have u5 := (k5 X 5 hX3).trans t5
  have u6 := (k5 X 6 hX3).trans t6
  have u7 := (k5 X 7 hX3).trans t7
  have u8 := (k5 X 8 hX3).trans t8
  clear k5 d0 d1 t0 t1 t2 t3 t4 t5 t6 t7 t8
  go_simp
  refine hK _ _ ⟨s1, u0, u1, u2, u3, u4, u5, u6, u7, u8⟩ ?_
  clear hK K
  refine wpTail_step rfl (fun K hK => ?_)
  go_simp
  refine hK _ _ ⟨s1, u0, u1, u2, u3, u4, u5, u6, u7, u8⟩ ?_
  clear hK K
  refine wpTail_step rfl (fun K hK => ?_)
  go_simp
  have hX5 : X < w5.heap.size := Nat.lt_of_lt_of_le hX3 hz5
  have hN5 : N < w5.heap.size := Nat.lt_of_lt_of_le hN3 hz5
  have k6 : ∀ ob g j, g < w5.heap.size → (w5.alloc ob).cell? ⟨g, j, none⟩ = w5.cell? ⟨g, j, none⟩ := fun ob g j h1 => World.cell?_of_block (Below.heap_alloc w5 ob g h1)
  refine hK _ _ ⟨(k6 _ N (o + 1) hN5).trans s1, (k6 _ X 0 hX5).trans u0, (k6 _ X 1 hX5).trans u1, (k6 _ X 2 hX5).trans u2, (k6 _ X 3 hX5).trans u3, (k6 _ X 4 hX5).trans u4, (k6 _ X 5 hX5).trans u5, (k6 _ X 6 hX5).trans u6, (k6 _ X 7 hX5).trans u7, (k6 _ X 8 hX5).trans u8⟩ ?_
  clear hK K
  refine wpTail_step rfl (fun K hK => ?_)
  have HO5 : Hid ((w5.alloc (.cells #[.string (bya (wdsT ws)), .string ⟨#[]⟩] 127)).ownsRow B 127 2 (.slice va L vc) L (bkCs l)) := (own_grow HLs.out HB5.out).alloc _
  refine wp_append_lies _ _ _ 57 rfl B 127 inf _ 2 32 Tryz.underlying57 HInf.out HZ.out HSz.out HBy.out rfl (by decide) (.slice va L vc) L (bkCs l) rfl HO5.out ⟨w5.heap.size, 0, none⟩ 1 1 [.string (bya (wdsT ws)), .string ⟨#[]⟩] rfl rfl (World.news_of_block (_root_.Go.heap_alloc_new w5 _)) (fun u hu => by simp at hu; rcases hu with rfl | rfl <;> rfl) (by decide) (by have := HL.out; unfold maxLen; omega) (by have := HL.out; omega) (by rw [size_alloc1]; have := HBN.out; omega) (w5.heap.size + 1) (by rw [size_alloc1]) ?_
  intro g cap w4 hown4 hgr4 hat4 hlt4
  have hNo : some N ≠ (Value.slice va L vc).ownBlock := fun q => HW.out.nv (by rw [HV.out]; exact q.symm)
  have k1 : ∀ j, w4.cell? ⟨N, j, none⟩ = w5.cell? ⟨N, j, none⟩ := fun j => by
    rw [hgr4.cell_far ⟨N, j, none⟩ (by rw [size_alloc1]; exact Nat.lt_succ_of_lt hN5) hNo]
    exact World.cell?_of_block (Below.heap_alloc w5 _ N hN5)
  have k2 : ∀ j, w4.frozen? ⟨N, j, none⟩ = false := fun j => by
    rw [hgr4.frozen_far ⟨N, j, none⟩ (by rw [size_alloc1]; exact Nat.lt_succ_of_lt hN5) hNo]
    exact (World.frozen?_of_block (w := w5) (Below.heap_alloc w5 _ N hN5)).trans ((World.frozen?_of_block (HB5.out.block N hN3)).trans (HFz3.out j))
  have k3 : ∀ j, w4.cell? ⟨X, j, none⟩ = w5.cell? ⟨X, j, none⟩ := fun j => by
    rw [hgr4.cell_far ⟨X, j, none⟩ (by rw [size_alloc1]; exact Nat.lt_succ_of_lt hX5) hXo]
    exact World.cell?_of_block (Below.heap_alloc w5 _ X hX5)
  have HE4 : Hid (∀ W', W' = w4.setCell ⟨N, o + 1, none⟩ (.slice (some ⟨g, 0, none⟩) (L + 1) cap) → BoAt B N o (l ++ [(ws, [])]) (.map (some b)) (.slice (some ⟨g, 0, none⟩) (L + 1) cap) W' ∧ BFr B N o (.map (some b)) v W W') := fun W' hW' => by
    have key := lay_end (w := W) (w0 := W.drew.drew) (w3 := w3) (w5 := w5.alloc (.cells #[.string (bya (wdsT ws)), .string ⟨#[]⟩] 127)) (w4 := w4) (W := W') HW.out HBN.out HWs.out HNo.out (((Below.refl _ _).drew).drew) HG3.out (by rw [HLe.out]; exact H3.out) (by have := HTk.out; rw [HLw.out] at this; exact this) (HB5.out.alloc hz5 _) g cap (by rw [HLe.out]; exact hown4) (by rw [HV.out]; exact hgr4) (by rw [HV.out]; rcases hat4 with q | q; exact .inl q; exact .inr (by omega)) (by rw [HLe.out]; exact hW')
    rw [HLe.out] at key
    exact key
  have HAt : Hid (v.ownBlock = some g ∨ W.heap.size ≤ g) := by unfold Hid; rw [HV.out]; rcases hat4 with q | q; exact .inl q; exact .inr (by omega)
  refine hK _ _ ⟨(k1 (o + 1)).trans s1, (k3 0).trans u0, (k3 1).trans u1, (k3 2).trans u2, (k3 3).trans u3, (k3 4).trans u4, (k3 5).trans u5, (k3 6).trans u6, (k3 7).trans u7, (k3 8).trans u8⟩ ?_
  have y1 := (k1 (o + 1)).trans s1
  have y0 := (k1 o).trans s0
  have yf := k2 (o + 1)
  have h4L : w4.frozen? ⟨g, L * 2 + 1, none⟩ = false := hown4.frozenAt _
  have h4c : ∃ u, w4.cell? ⟨g, L * 2 + 1, none⟩ = some u := ⟨_, by
    rw [hown4.cellAt (L * 2 + 1) (by omega), List.getElem?_append_right (by rw [bkCs_len, HLe.out]; omega), bkCs_len, HLe.out, show L * 2 + 1 - L * 2 = 1 by omega]
    rfl⟩
  obtain ⟨u, hu⟩ := h4c
  have hgN : g ≠ N := by
    rcases hat4 with q | q
    · exact fun e => hNo (by rw [← e]; exact q.symm)
    · omega
  clear hown4 hgr4 hat4 k1 k3 k2 s0 s1 u0 u1 u2 u3 u4 u5 u6 u7 u8 hK K k6
  unfold wpTailS
  have hL0 : ¬ (L : Int) < 0 := by omega
  have hL1 : (L : Int) < ((L + 1 : Nat) : Int) := by omega
  go_wp2_with fail
  go_end0
  obtain ⟨e1, e2⟩ := HE4.out _ rfl
  have e3 := e1.setPlan (n := l.length) (k := (ws, [])) (g := g) (c := cap) (by simp) (by rw [List.length_append, HLe.out]; rfl) (lst p)
  rw [bya_lst, HLe.out] at e3
  have own : ∀ g', bkHas (.map (some b)) (.slice (some ⟨g, 0, none⟩) (L + 1) cap) g' → bkHas (.map (some b)) v g' ∨ W.heap.size ≤ g' := fun g' q => by
    rcases q with q | q
    · exact .inl (.inl q)
    · cases q
      rcases HAt.out with a | a
      · exact .inl (.inr a)
      · exact .inr a
  have e4 : (l ++ [(ws, [])]).set L (ws, lst p) = l ++ [(ws, lst p)] := by rw [← HLe.out]; simp
  rw [e4] at e3
  refine ⟨rfl, _, _, e3.1, HFin.out _ (e2.trans own e3.2), fun g' q => ?_⟩
  rcases own g' q with a | a
  · exact HOwn.out g' a
  · exact .inr (Nat.le_trans HWz.out a)
end Go.Proofs.YtmmflekajbeamaaGreatDoor
