/-
  Plans: an expression is held once (table.hold); constants and registers.
  Plans: constants, registers, ops and loads in the table.
-/
import Derived.Test.YtmmflekajbeamaaDoorP18
namespace Go.Proofs.YtmmflekajbeamaaDoor
open Go.RowKit Go.Maps Go.WideMaps

theorem infoEx : ∃ i, Tryd.prog.info? 218 = some i ∧ i.zero = some (.agg #[.int .i64 0, .int .i64 0, .int .i64 0, .int .i64 0]) ∧ i.size = 4 ∧ i.bytes = 32 := by
  have h : (Tryd.prog.info? 218).map (fun i => (i.zero, i.size, i.bytes)) = some (some (.agg #[.int .i64 0, .int .i64 0, .int .i64 0, .int .i64 0]), 4, 32) := by kernel_rfl
  cases hq : Tryd.prog.info? 218 with
  | none => rw [hq] at h; cases h
  | some i =>
    rw [hq] at h
    simp only [Option.map_some, Option.some.injEq, Prod.mk.injEq] at h
    exact ⟨i, rfl, h.1, h.2.1, h.2.2⟩
/-- Behind a store into the map. -/
theorem TabAt.putM {B N : Nat} {T : List Ex} {b : Nat} {v : Value} {w w1 : World} (h : TabAt B N T b v w) (hg : w.grownBy w1 (some b)) :
    (w1.cell? ⟨N, 0, none⟩ = some (.map (some b)) ∧ w1.cell? ⟨N, 1, none⟩ = some v ∧ (∀ i, w1.frozen? ⟨N, i, none⟩ = false) ∧ w1.ownsRow B 218 4 v T.length (exCs T)) ∧ TFr B N b w w1 := by
  obtain ⟨a1, a2⟩ := h.apart
  have hk : ∀ g, g < w.heap.size → g ≠ b → w1.heap[g]? = w.heap[g]? := fun g hlt hne => hg.block g hlt (fun e => hne (Option.some.inj e))
  have hN := hk N h.nlt a1
  exact ⟨⟨(World.cell?_of_block hN).trans h.c0, (World.cell?_of_block hN).trans h.c1, fun i => (World.frozen?_of_block hN).trans (h.fz i), ownsRow_keep h.ls (fun g hg' => hk g (row_lt h.ls g hg').2 (fun e => a2 (e ▸ hg')))⟩,
    ⟨(Below.refl _ _).grown hg (Nat.le_trans h.bN (Nat.le_of_lt h.nlt)) (fun j hj => by cases hj; exact h.bb), fun g hlt _ h2 _ => hk g hlt h2⟩⟩
/-- Behind a key more in the map, and an append to the list. -/
theorem hold_end {B N : Nat} {T : List Ex} {b : Nat} {v : Value} {w w0 w3 w5 w4 : World} {e : Ex} {D' : DataW Unit} (h : TabAt B N T b v w) (hb0 : Below w.heap.size w w0) (hg3 : w0.grownBy w3 (some b)) (ho3 : w3.ownsMap Tryd.prog 218 (plainElem Tryd.prog 3) b (T.length + 1) D') (hk3 : TabOK D' (T ++ [e]))
    (hb5 : Below w3.heap.size w3 w5) (g cap : Nat) (ho : w4.ownsRow B 218 4 (.slice (some ⟨g, 0, none⟩) (T.length + 1) cap) (T.length + 1) (exCs T ++ exC e)) (hgr : w5.grownBy w4 v.ownBlock) (ha : v.ownBlock = some g ∨ w.heap.size ≤ g) :
    TabAt B N (T ++ [e]) b (.slice (some ⟨g, 0, none⟩) (T.length + 1) cap) (w4.setCell ⟨N, 1, none⟩ (.slice (some ⟨g, 0, none⟩) (T.length + 1) cap)) ∧ TFr B N b w (w4.setCell ⟨N, 1, none⟩ (.slice (some ⟨g, 0, none⟩) (T.length + 1) cap)) := by
  have hBw : B ≤ w.heap.size := Nat.le_trans h.bN (Nat.le_of_lt h.nlt)
  have h0 := h.above hb0
  obtain ⟨a1, a2⟩ := h.apart
  obtain ⟨⟨c0, c1, fz, ls⟩, f3⟩ := h0.putM hg3
  have f03 : TFr B N b w w3 := (TFr.above hBw hb0).trans f3
  have hN3 : N < w3.heap.size := block_lt_of_cell c0
  have hw3 : w.heap.size ≤ w3.heap.size := f03.below.size
  have hk : ∀ k, k < w3.heap.size → v.ownBlock ≠ some k → w4.heap[k]? = w3.heap[k]? := fun k hk hn => (hgr.block k (Nat.lt_of_lt_of_le hk hb5.size) (fun e => hn e.symm)).trans (hb5.block k hk)
  have hN1 := hk N hN3 (fun e => h.nv N e rfl)
  have k1 : ∀ j, w4.cell? ⟨N, j, none⟩ = w3.cell? ⟨N, j, none⟩ := fun j => World.cell?_of_block hN1
  have k2 : ∀ j, w4.frozen? ⟨N, j, none⟩ = w3.frozen? ⟨N, j, none⟩ := fun j => World.frozen?_of_block hN1
  have hgN : g ≠ N := by
    rcases ha with ha | ha
    · exact h.nv g ha
    · have := h.nlt; omega
  have hB5 : B ≤ w5.heap.size := Nat.le_trans hBw (Nat.le_trans hw3 hb5.size)
  have hbel : Below B w (w4.setCell ⟨N, 1, none⟩ (.slice (some ⟨g, 0, none⟩) (T.length + 1) cap)) :=
    ((f03.below.trans (hb5.mono (Nat.le_trans hBw hw3))).grown hgr hB5 (fun k hk => (row_lt h.ls k hk).1)).setCell h.bN _
  generalize hv : Value.slice (some ⟨g, 0, none⟩) (T.length + 1) cap = v' at *
  have hvb : v'.ownBlock = some g := by rw [← hv]; rfl
  have hh : ∀ k, k ≠ N → (w4.setCell ⟨N, 1, none⟩ v').heap[k]? = w4.heap[k]? := fun k hk => heap_set_other _ _ hk
  refine ⟨⟨cell_of_rows ((k1 0).trans c0) (by decide), cell_set_same ((k1 1).trans c1), fun i => by rw [World.frozen?_setCell, k2]; exact fz i, h.bN, h.bb,
    fun k hk => by rw [hvb] at hk; cases hk; exact hgN, ?_, ?_⟩, hbel, fun k hk' h1 h2 h3 => ?_⟩
  · rw [exCs_snoc, List.length_append, List.length_singleton]
    exact ownsRow_keep ho (fun k hk => by rw [hvb] at hk; cases hk; exact hh g hgN)
  · refine ⟨D', ?_, hk3⟩
    rw [List.length_append, List.length_singleton]
    exact map_keep ho3 ((hh b (fun e => a1 e.symm)).trans (hk b ho3.lt a2))
  · have hne : v.ownBlock ≠ some k := fun e => by
      obtain ⟨cur, hc⟩ := ownsRow_kind h.ls k e
      exact h3 cur hc
    exact ((hh k h1).trans (hk k (Nat.lt_of_lt_of_le hk' hw3) hne)).trans (f03.other k hk' h1 h2 h3)
/-- What a holding leaves: the number, and the table that tells it. -/
def HoldPost (B N b : Nat) (T : List Ex) (w : World) (e : Ex) (e' : Ending) (w' : World) : Prop :=
  ∃ n T' v', e' = .returned (.int .i64 ((n : Nat) : Int)) ∧ TabAt B N T' b v' w' ∧ TFr B N b w w' ∧ ((T' = T ∧ T[n]? = some e) ∨ (T' = T ++ [e] ∧ n = T.length ∧ e ∉ T))
theorem nodup_at {T : List Ex} {ds : List (List UInt8)} (h : TI T ds) {n : Nat} {e : Ex} (hn : T[n]? = some e) : ∀ m : Nat, T[m]? = some e → m = n := fun m hm => h.one m n e hm hn

set_option maxRecDepth 100000 in
set_option maxHeartbeats 2000000 in
theorem hold_any (B N : Nat) (T : List Ex) (ds : List (List UInt8)) (b : Nat) (v : Value) (e : Ex) (w : World) (h : TabAt B N T b v w) (hT : TI T ds) (he : exB e) (hl : T.length ≤ 1000) :
    Calls Tryd.prog 162 #[.pointer (some ⟨N, 0, none⟩), .agg (exC e).toArray] w (HoldPost B N b T w e) := by
  have hNlt := h.nlt
  have hBw : B ≤ w.heap.size := Nat.le_trans h.bN (Nat.le_of_lt hNlt)
  have HP := hide h
  have HK := hide (keyOfE e he)
  obtain ⟨D, hown, htok⟩ := h.mp
  have hD := hown.isMap
  have c0 := h.c0; have c1 := h.c1
  obtain ⟨hh1, hh2⟩ := htok e he
  have HTok := hide htok; have HD := hide hD
  have hlook := fun o => ((hown.alloc o).drew).look_ok lawE Tryd.underlying137 (zeroI _) (plainElem_int (H := Unit) Tryd.underlying3 (a := 0) (by decide)) (keyOfE e he)
  obtain ⟨va, vc, rfl⟩ := owns_len h.ls
  have HOwn := hide hown
  have HE := hide he
  have hni : ¬ InT N b (.slice va T.length vc) w.heap.size := fun hi => by have := (h.inlt hi).2; omega
  have HNi := hide hni
  by_cases hm : e ∈ T
  · obtain ⟨n, hn⟩ := List.getElem?_of_mem hm
    have hat := hh2 n hn (nodup_at hT hn)
    have hlook2 : ∀ o, (Instr.lookup 137 (.map (some b)) (.agg (exC e).toArray) true).run Tryd.prog ((w.alloc o).drew) = .ok (.tuple #[.int .i64 (n : Int), .bool true]) ((w.alloc o).drew) := fun o => by
      obtain ⟨x, ps', hrun, hx⟩ := hlook o
      rw [hh1.2 hm] at hrun
      obtain ⟨a, rfl, ha, _⟩ := plainElem_int_inv Tryd.underlying3 hx
      rw [hat] at ha
      cases ha
      exact hrun
    have HR : Hid (∀ o : Obj, HoldPost B N b T w e (.returned (.int .i64 (n : Int))) (w.alloc o).drew) := fun o => ⟨n, T, _, rfl, (HP.out.alloc o).drew, TFr.above hBw ((Below.refl _ _).alloc (Nat.le_refl _) o).drew, .inl ⟨rfl, hn⟩⟩
    obtain ⟨k, a, b', x⟩ := e
    simp only [exC] at hlook2 ⊢
    have hrun := hlook2 (.cells #[.int .i64 (k : Int), .int .i64 (a : Int), .int .i64 (b' : Int), .int .i64 (x : Int)] 218)
    clear hlook hlook2 hh1 hh2 hm hn hat h hown htok hD hT he hni
    go_enter Tryd.func162, Tryd.ntmps162
    go_wp2_with fail
    refine still_all (by kernel_rfl) (by kernel_rfl) ?_
    repeat still_step
    refine wpStill_nil ?_
    go_wp2_with fail
    go_ret
    exact HR.out _
  · have hf : Maps.has D (keyE e) = false := by
      cases hq : Maps.has D (keyE e)
      · rfl
      · exact absurd (hh1.1 hq) hm
    have hlook2 : ∀ o, ∃ x, (Instr.lookup 137 (.map (some b)) (.agg (exC e).toArray) true).run Tryd.prog ((w.alloc o).drew) = .ok (.tuple #[x, .bool false]) ((w.alloc o).drew) := fun o => by
      obtain ⟨x, ps', hrun, hx⟩ := hlook o
      rw [hf] at hrun
      exact ⟨x, hrun⟩
    have HM := hide hm
    have hl' : T.length < maxLen := by unfold maxLen; omega
    have hw64 : (Lit.int .i64 (T.length : Int)).wf = true := by
      refine WalkArith.wf_i64 ?_ <;> omega
    obtain ⟨inf, hinf, hz, hsz1, hby⟩ := infoEx
    have HInf := hide hinf; have HZ := hide hz; have HSz := hide hsz1; have HBy := hide hby
    have HTk := hide (HTok.out.add HD.out HE.out HM.out)
    have HC : Hid (exC e = [.int .i64 (e.1 : Int), .int .i64 (e.2.1 : Int), .int .i64 (e.2.2.1 : Int), .int .i64 (e.2.2.2 : Int)]) := rfl
    obtain ⟨x, hrun⟩ := hlook2 (.cells (exC e).toArray 218)
    have HPd := hide ((HP.out.alloc (.cells (exC e).toArray 218)).drew.drew)
    have HOd := hide (((HOwn.out.alloc (.cells (exC e).toArray 218)).drew).drew)
    have HF0 : Hid ((w.alloc (.cells (exC e).toArray 218)).heap[w.heap.size]? = some (.cells (exC e).toArray 218)) := _root_.Go.heap_alloc_new w _
    have HB0 : Hid (Below w.heap.size w (w.alloc (.cells (exC e).toArray 218)).drew.drew) := ((Below.refl _ _).alloc (Nat.le_refl _) _).drew.drew
    clear hlook hlook2 hh1 hh2 hm hf h hown htok hD hT he hni hinf hz hsz1 hby
    obtain ⟨k, a, b', y⟩ := e
    simp only [exC] at *
    go_enter Tryd.func162, Tryd.ntmps162
    go_wp2_with fail
    refine still_all (by kernel_rfl) (by kernel_rfl) ?_
    repeat still_step
    refine wpStill_nil ?_
    go_wp2_with fail
    refine still_tail 6 (by kernel_rfl) (by kernel_rfl) ?_
    simp only [List.take_succ_cons, List.take_zero, List.drop_succ_cons, List.drop_zero]
    repeat still_step
    refine wpStill_nil ?_
    go_wp2_with (at_mapUpdate; refine wpList_mapUpdate_own _ rfl _ _ _ 137 rfl 218 3 lawE Tryd.underlying137 _ b T.length D rfl HOd.out hl' _ _ (keyE (k, a, b', y)) rfl rfl HK.out (.lit (.int .i64 (T.length : Int))) [] (plainElem_int Tryd.underlying3 hw64) ?_; intro w3 hown3 hgr3; have H3 := hide hown3; have HG3 := hide hgr3; clear hown3 hgr3)
    have hz3 : w.heap.size < w3.heap.size := Nat.lt_of_lt_of_le (by show w.heap.size < (w.alloc _).heap.size; rw [size_alloc1]; omega) HG3.out.size
    obtain ⟨⟨d0, d1, dfz, dls⟩, _⟩ := HPd.out.putM HG3.out
    have HLs := hide dls
    have hNb : w.heap.size ≠ b := fun e => HNi.out (.inr (.inl e))
    have hNN : w.heap.size ≠ N := fun e => by omega
    have hblk : w3.heap[w.heap.size]? = some (.cells #[.int .i64 (k : Int), .int .i64 (a : Int), .int .i64 (b' : Int), .int .i64 (y : Int)] 218) := (HG3.out.block w.heap.size (by show w.heap.size < (w.alloc _).heap.size; rw [size_alloc1]; omega) (fun e => hNb (Option.some.inj e))).trans HF0.out
    have q0 : w3.cell? ⟨w.heap.size, 0, none⟩ = some (.int .i64 (k : Int)) := by simp [World.cell?, hblk]
    have q1 : w3.cell? ⟨w.heap.size, 1, none⟩ = some (.int .i64 (a : Int)) := by simp [World.cell?, hblk]
    have q2 : w3.cell? ⟨w.heap.size, 2, none⟩ = some (.int .i64 (b' : Int)) := by simp [World.cell?, hblk]
    have q3 : w3.cell? ⟨w.heap.size, 3, none⟩ = some (.int .i64 (y : Int)) := by simp [World.cell?, hblk]
    have hN3 : N < w3.heap.size := block_lt_of_cell d0
    clear dls hrun hblk
    refine held_tail 6 2 (fun w' => w'.cell? ⟨N, 1, none⟩ = some (.slice va T.length vc) ∧ w'.cell? ⟨w.heap.size, 0, none⟩ = some (.int .i64 (k : Int)) ∧ w'.cell? ⟨w.heap.size, 1, none⟩ = some (.int .i64 (a : Int)) ∧ w'.cell? ⟨w.heap.size, 2, none⟩ = some (.int .i64 (b' : Int)) ∧ w'.cell? ⟨w.heap.size, 3, none⟩ = some (.int .i64 (y : Int))) (by kernel_rfl) (by kernel_rfl) (fun d _ _ _ _ h => by cases d <;> exact h) ⟨d1, q0, q1, q2, q3⟩ ?_
    simp only [List.take_succ_cons, List.take_zero, List.drop_succ_cons, List.drop_zero]
    iterate 6
      refine wpTake_step ?_ rfl ?_ ?_
      rotate_left
      · rintro w' ⟨e1, f0, f1, f2, f3⟩
        go_simp
        rfl
      go_simp
    refine wpTake_nil ?_
    refine wpTail_step rfl (fun K hK => ?_)
    go_simp
    refine hK _ _ ⟨(cellD w3 _ hN3 1).trans d1, (cellD w3 _ hz3 0).trans q0, (cellD w3 _ hz3 1).trans q1, (cellD w3 _ hz3 2).trans q2, (cellD w3 _ hz3 3).trans q3⟩ ?_
    clear hK K
    refine wpTail_step rfl (fun K hK => ?_)
    have HO5 : Hid (((w3.alloc (.cells #[.int .i64 (k : Int), .int .i64 (a : Int), .int .i64 (b' : Int), .int .i64 (y : Int)] 218)).drew).ownsRow B 218 4 (.slice va T.length vc) T.length (exCs T)) := ownsRow_keep HLs.out (fun g hg => Below.heap_alloc w3 _ g (row_lt HLs.out g hg).2)
    refine wp_append_lies _ _ _ 138 rfl B 218 inf _ 4 32 Tryd.underlying138 HInf.out HZ.out HSz.out HBy.out rfl (by decide) (.slice va T.length vc) T.length (exCs T) rfl HO5.out ⟨w3.heap.size, 0, none⟩ 1 1 (exC (k, a, b', y)) rfl rfl (World.news_of_block (_root_.Go.heap_alloc_new w3 _)) (fun u hu => by simp [exC] at hu; rcases hu with rfl | rfl | rfl | rfl <;> rfl) (by decide) (by unfold maxLen; omega) (by omega) (by show B ≤ (w3.alloc _).heap.size; rw [size_alloc1]; omega) (w3.heap.size + 1) (by show (w3.alloc _).heap.size = _; rw [size_alloc1]) ?_
    intro g cap w4 hown4 hgr4 hat4 hlt4
    have HE4 := hide (hold_end HP.out HB0.out HG3.out H3.out HTk.out (((Below.refl _ _).alloc (Nat.le_refl _) _).drew) g cap hown4 hgr4 (hat4.imp id (fun q => by omega)))
    have hNo : some N ≠ (Value.slice va T.length vc).ownBlock := fun q => HP.out.nv N q.symm rfl
    have hwo : some w.heap.size ≠ (Value.slice va T.length vc).ownBlock := fun q => HNi.out (.inr (.inr q.symm))
    have k1 : ∀ j, w4.cell? ⟨N, j, none⟩ = w3.cell? ⟨N, j, none⟩ := fun j => by
      rw [hgr4.cell_far ⟨N, j, none⟩ (by show N < (w3.alloc _).heap.size; rw [size_alloc1]; omega) hNo]
      exact World.cell?_of_block (Below.heap_alloc w3 _ N hN3)
    have k2 : ∀ j, w4.frozen? ⟨N, j, none⟩ = false := fun j => by
      rw [hgr4.frozen_far ⟨N, j, none⟩ (by show N < (w3.alloc _).heap.size; rw [size_alloc1]; omega) hNo]
      exact (World.frozen?_of_block (w := w3) (Below.heap_alloc w3 _ N hN3)).trans (dfz j)
    have k3 : ∀ j, w4.cell? ⟨w.heap.size, j, none⟩ = w3.cell? ⟨w.heap.size, j, none⟩ := fun j => by
      rw [hgr4.cell_far ⟨w.heap.size, j, none⟩ (by show w.heap.size < (w3.alloc _).heap.size; rw [size_alloc1]; omega) hwo]
      exact World.cell?_of_block (Below.heap_alloc w3 _ w.heap.size hz3)
    refine hK _ _ ⟨(k1 1).trans d1, (k3 0).trans q0, (k3 1).trans q1, (k3 2).trans q2, (k3 3).trans q3⟩ ?_
    have k10 := (k1 0).trans d0
    have k11 := (k1 1).trans d1
    clear hown4 hgr4 hat4 hK K k1 k3 dfz d0 d1 q0 q1 q2 q3
    unfold wpTailS
    go_wp2_with fail
    go_ret
    exact ⟨T.length, T ++ [(k, a, b', y)], _, rfl, HE4.out.1, HE4.out.2, .inr ⟨rfl, rfl, HM.out⟩⟩
end Go.Proofs.YtmmflekajbeamaaDoor

namespace Go.Proofs.YtmmflekajbeamaaDoor
open Go.RowKit Go.Maps Go.WideMaps

theorem flat_at {α : Type} (f : α → List Value) (m : Nat) (hf : ∀ a, (f a).length = m) : ∀ (l : List α) (k : Nat) (x : α), l[k]? = some x → ∀ j, j < m → (l.flatMap f)[k * m + j]? = (f x)[j]? := by
  intro l
  induction l with
  | nil => intro k x hk; simp at hk
  | cons a l ih =>
    intro k x hk j hj
    rw [List.flatMap_cons]
    match k, hk with
    | 0, hk =>
      simp at hk
      subst hk
      rw [Nat.zero_mul, Nat.zero_add, List.getElem?_append_left (by rw [hf]; exact hj)]
    | k + 1, hk =>
      rw [List.getElem?_append_right (by rw [hf, Nat.succ_mul]; omega), hf, show (k + 1) * m + j - m = k * m + j by rw [Nat.succ_mul]; omega]
      exact ih k x (by simpa using hk) j hj
theorem flat_len {α : Type} (f : α → List Value) (m : Nat) (hf : ∀ a, (f a).length = m) (l : List α) : (l.flatMap f).length = l.length * m := by
  induction l with
  | nil => simp
  | cons a l ih => rw [List.flatMap_cons, List.length_append, hf, ih, List.length_cons, Nat.succ_mul]; omega
theorem ex_cells {w : World} {B : Nat} {g cap : Nat} {T : List Ex} (h : w.ownsRow B 218 4 (.slice (some ⟨g, 0, none⟩) T.length cap) T.length (exCs T)) (n : Nat) (e : Ex) (hn : T[n]? = some e) :
    w.cell? ⟨g, n * 4, none⟩ = some (.int .i64 (e.1 : Int)) ∧ w.cell? ⟨g, n * 4 + 1, none⟩ = some (.int .i64 (e.2.1 : Int)) ∧ w.cell? ⟨g, n * 4 + 1 + 1, none⟩ = some (.int .i64 (e.2.2.1 : Int)) ∧ w.cell? ⟨g, n * 4 + 1 + 1 + 1, none⟩ = some (.int .i64 (e.2.2.2 : Int)) := by
  have hlt : n < T.length := (List.getElem?_eq_some_iff.1 hn).1
  have key := flat_at exC 4 (fun _ => rfl) T n e hn
  have k0 := key 0 (by decide); have k1 := key 1 (by decide); have k2 := key 2 (by decide); have k3 := key 3 (by decide)
  refine ⟨?_, ?_, ?_, ?_⟩
  · rw [h.cellAt _ (by omega)]; exact k0
  · rw [h.cellAt _ (by omega)]; exact k1
  · rw [h.cellAt _ (by omega)]; exact k2
  · rw [h.cellAt _ (by omega)]; exact k3
/-- What a call leaves that gives an expression's number: the number tells the text. -/
def TabPost (B N b : Nat) (T : List Ex) (ds : List (List UInt8)) (w : World) (m : Nat) (x : List UInt8) (e' : Ending) (w' : World) : Prop :=
  ∃ n T' ds' v', e' = .returned (.int .i64 ((n : Nat) : Int)) ∧ TabAt B N T' b v' w' ∧ TI T' ds' ∧ More T ds T' ds' ∧ Tells T' ds' n x ∧ TFr B N b w w' ∧ T'.length ≤ T.length + m
theorem hold_tells {B N b : Nat} {T : List Ex} {ds : List (List UInt8)} {w : World} {e : Ex} {e' : Ending} {w' : World} (hT : TI T ds) (he : okE T.length e) (h : HoldPost B N b T w e e' w') : TabPost B N b T ds w 1 (strE ds e) e' w' := by
  obtain ⟨n, T', v', h1, h2, h3, ⟨rfl, h5⟩ | ⟨rfl, rfl, h6⟩⟩ := h
  · exact ⟨n, _, ds, v', h1, h2, hT, More.refl _ _, hT.told h5, h3, by omega⟩
  · exact ⟨_, _, ds ++ [strE ds e], v', h1, h2, hT.add he h6, More.add _ _ _ _, hT.told_new e, h3, by simp⟩
theorem TabPost.pre {B N b : Nat} {T : List Ex} {ds : List (List UInt8)} {w w0 : World} {m : Nat} {x : List UInt8} {e' : Ending} {w' : World} (h0 : TFr B N b w w0) (h : TabPost B N b T ds w0 m x e' w') : TabPost B N b T ds w m x e' w' := by
  obtain ⟨n, T', ds', v', h1, h2, h3, h4, h5, h6, h7⟩ := h
  exact ⟨n, T', ds', v', h1, h2, h3, h4, h5, h0.trans h6, h7⟩

set_option maxRecDepth 100000 in
set_option maxHeartbeats 1000000 in
theorem constant_any (B N : Nat) (T : List Ex) (ds : List (List UInt8)) (b : Nat) (v : Value) (c : Nat) (w : World) (h : TabAt B N T b v w) (hT : TI T ds) (hc : c < 4294967296) (hl : T.length ≤ 1000) :
    Calls Tryd.prog 142 #[.pointer (some ⟨N, 0, none⟩), .int .i64 (c : Int)] w (TabPost B N b T ds w 1 (sCon c)) := by
  have he : okE T.length (1, 0, 0, c) := .inr (.inl ⟨rfl, rfl, rfl, hc⟩)
  have hh : Calls Tryd.prog 162 #[.pointer (some ⟨N, 0, none⟩), .agg #[.int .i64 1, .int .i64 0, .int .i64 0, .int .i64 (c : Int)]] w (TabPost B N b T ds w 1 (sCon c)) :=
    (hold_any B N T ds b v (1, 0, 0, c) w h hT (okE_B he hl) hl).mono fun _ _ hp => hold_tells hT he hp
  have HH := hide hh
  clear hh he
  go_enter Tryd.func142, Tryd.ntmps142
  go_wp2_with fail
  refine (unhide HH).mono ?_
  rintro e w1 ⟨n, T', ds', v', rfl, h2⟩
  have H2 := hide h2
  clear h2
  go_wp2_with fail
  go_ret
  exact ⟨n, T', ds', v', rfl, H2.out⟩

set_option maxRecDepth 100000 in
set_option maxHeartbeats 1000000 in
theorem register_tab (B N : Nat) (T : List Ex) (ds : List (List UInt8)) (b : Nat) (v : Value) (q : Nat) (w : World) (h : TabAt B N T b v w) (hT : TI T ds) (hq : q < 8) (hl : T.length ≤ 1000) :
    Calls Tryd.prog 141 #[.pointer (some ⟨N, 0, none⟩), .int .i64 (q : Int)] w (TabPost B N b T ds w 1 (sReg q)) := by
  have he : okE T.length (0, 0, 0, q) := .inl ⟨rfl, rfl, rfl, hq⟩
  have hh : Calls Tryd.prog 162 #[.pointer (some ⟨N, 0, none⟩), .agg #[.int .i64 0, .int .i64 0, .int .i64 0, .int .i64 (q : Int)]] w (TabPost B N b T ds w 1 (sReg q)) :=
    (hold_any B N T ds b v (0, 0, 0, q) w h hT (okE_B he hl) hl).mono fun _ _ hp => hold_tells hT he hp
  have HH := hide hh
  clear hh he
  go_enter Tryd.func141, Tryd.ntmps141
  go_wp2_with fail
  refine (unhide HH).mono ?_
  rintro e w1 ⟨n, T', ds', v', rfl, h2⟩
  have H2 := hide h2
  clear h2
  go_wp2_with fail
  go_ret
  exact ⟨n, T', ds', v', rfl, H2.out⟩

set_option maxRecDepth 100000 in
set_option maxHeartbeats 1000000 in
theorem load_tab (B N : Nat) (T : List Ex) (ds : List (List UInt8)) (b : Nat) (v : Value) (a k : Nat) (x : List UInt8) (w : World) (h : TabAt B N T b v w) (hT : TI T ds) (ha : Tells T ds a x) (hk : k ≤ 4095) (hl : T.length ≤ 900) :
    Calls Tryd.prog 163 #[.pointer (some ⟨N, 0, none⟩), .int .i64 (a : Int), .int .i64 (k : Int)] w (TabPost B N b T ds w 2 (ldS x k)) := by
  have hBw : B ≤ w.heap.size := Nat.le_trans h.bN (Nat.le_of_lt h.nlt)
  obtain ⟨e, hn⟩ : ∃ e, T[a]? = some e := ⟨_, List.getElem?_eq_getElem ha.1⟩
  obtain ⟨hc1, hc2⟩ := hT.con hn
  rw [ha.2] at hc1 hc2
  have hax : ds.getD a [] = x := ha.2
  obtain ⟨g, cap, rfl, _, hgl⟩ := h.ls.form (by have := ha.1; omega)
  obtain ⟨x0, x1, x2, x3⟩ := ex_cells h.ls a e hn
  have c1 := h.c1
  have ha' : (a : Int) < (T.length : Int) := by have := ha.1; omega
  have hal := ha.1
  have HP := hide h; have HT := hide hT
  obtain ⟨ek, ea, eb, ev⟩ := e
  simp only at x0 x1 x2 x3 hc1 hc2
  have hb1 : ∀ o, Below w.heap.size w (w.alloc o) := fun o => (Below.refl _ _).alloc (Nat.le_refl _) _
  have HB1 := hide hb1
  clear h hT hb1
  by_cases hcon : ek = 1
  · subst hcon
    obtain ⟨hx, hev⟩ := hc2 rfl
    have HX : Hid (ldS x k = sLd (sCon ((ev + k) % 128)) 0) := by unfold Hid ldS; rw [if_pos (hc1.1 rfl), hx, valX_con _ hev]
    have HA := hide (fun w' => address_any ev k w' (by omega) (by omega) (by omega) (by omega))
    have e1 : ((ev : Int) + (k : Int)) % 128 = (((ev + k) % 128 : Nat) : Int) := by omega
    rw [e1] at HA
    have HCo := hide (fun o => constant_any B N T ds b _ ((ev + k) % 128) (w.alloc o) (HP.out.alloc o) HT.out (by omega) (by omega))
    have hcl : (ev + k) % 128 < 128 := Nat.mod_lt _ (by decide)
    generalize (ev + k) % 128 = c at *
    clear e1 hc1 hc2
    go_enter Tryd.func163, Tryd.ntmps163
    go_wp2_with fail
    refine (unhide HA _).mono ?_
    rintro e w' ⟨rfl, hw⟩
    obtain rfl := hw.symm
    go_wp2_with fail
    refine (unhide HCo _).mono ?_
    rintro e w2 ⟨n, T', ds', v', rfl, h2, h3, h4, h5, h6, h7⟩
    have he : okE T'.length (6, n, 0, 0) := .inr (.inr (.inr ⟨rfl, h5.1, rfl, by dsimp only; omega⟩))
    have hst : strE ds' (6, n, 0, 0) = ldS x k := by
      rw [HX.out]
      unfold strE
      rw [if_neg (by dsimp only; omega), if_neg (by dsimp only; omega), if_pos rfl]
      dsimp only
      rw [h5.2]
    have hh : Calls Tryd.prog 162 #[.pointer (some ⟨N, 0, none⟩), .agg #[.int .i64 6, .int .i64 (n : Int), .int .i64 0, .int .i64 0]] w2 (TabPost B N b T' ds' w2 1 (strE ds' (6, n, 0, 0))) :=
      (hold_any B N T' ds' b v' (6, n, 0, 0) w2 h2 h3 (okE_B he (by omega)) (by omega)).mono fun _ _ hp => hold_tells h3 he hp
    rw [hst] at hh
    have HH := hide hh
    have H4 := hide h4; have H6 := hide ((TFr.above hBw (HB1.out _)).trans h6); have H7 := hide h7
    clear hh he hst h2 h3 h4 h5 h6 h7
    go_wp2_with fail
    refine (unhide HH).mono ?_
    rintro e w3 ⟨n3, T3, ds3, v3, rfl, q2, q3, q4, q5, q6, q7⟩
    have HQ : Hid (TabPost B N b T ds w 2 (ldS x k) (.returned (.int .i64 (n3 : Int))) w3) := ⟨n3, T3, ds3, v3, rfl, q2, q3, H4.out.trans q4, q5, H6.out.trans q6, by have := H7.out; omega⟩
    clear q2 q3 q4 q5 q6 q7
    go_wp2_with fail
    go_ret
    exact HQ.out
  · have hcf : isCon x = false := by
      cases hq : isCon x
      · rfl
      · exact absurd (hc1.2 hq) hcon
    have HX : Hid (ldS x k = sLd x k) := by unfold Hid ldS; rw [if_neg (by rw [hcf]; decide)]
    have q1 : ((ek : Int) == 1) = false := by simp; omega
    have he : okE T.length (6, a, 0, k) := .inr (.inr (.inr ⟨rfl, hal, rfl, hk⟩))
    have hst : strE ds (6, a, 0, k) = ldS x k := by
      rw [HX.out]
      unfold strE
      rw [if_neg (by dsimp only; omega), if_neg (by dsimp only; omega), if_pos rfl]
      dsimp only
      rw [hax]
    have hh : ∀ o, Calls Tryd.prog 162 #[.pointer (some ⟨N, 0, none⟩), .agg #[.int .i64 6, .int .i64 (a : Int), .int .i64 0, .int .i64 (k : Int)]] (w.alloc o) (TabPost B N b T ds (w.alloc o) 1 (strE ds (6, a, 0, k))) := fun o =>
      (hold_any B N T ds b _ (6, a, 0, k) (w.alloc o) (HP.out.alloc o) HT.out (okE_B he (by omega)) (by omega)).mono fun _ _ hp => hold_tells HT.out he hp
    rw [hst] at hh
    have HH := hide hh
    clear hh he hst hc1 hc2 hcon hcf
    go_enter Tryd.func163, Tryd.ntmps163
    go_wp2_with fail
    refine (unhide HH _).mono ?_
    rintro e w3 ⟨n3, T3, ds3, v3, rfl, q2, q3, q4, q5, q6, q7⟩
    have HQ : Hid (TabPost B N b T ds w 2 (ldS x k) (.returned (.int .i64 (n3 : Int))) w3) := ⟨n3, T3, ds3, v3, rfl, q2, q3, q4, q5, (TFr.above hBw (HB1.out _)).trans q6, by omega⟩
    clear q2 q3 q4 q5 q6 q7
    go_wp2_with fail
    go_ret
    exact HQ.out
end Go.Proofs.YtmmflekajbeamaaDoor
