/-
  The cutter: the end of a line.
  The cutter: a character taken.
  A text cut into lines of tokens (cut).
-/
import Derived.Test.YtmmflekajbeamaaDoorR05
import Derived.Lib.OthersKept
namespace Go.Proofs.YtmmflekajbeamaaDoor
open Go.RowKit

set_option maxRecDepth 100000 in
set_option maxHeartbeats 1000000 in
theorem endToken_no (N : Nat) (s : ByteArray) (st : CS) (vl vs : Value) (i : Nat) (w : World) (h : CutAt N s st vl vs w) (hb : st.beg < 0) :
    Calls Tryd.prog 171 #[.pointer (some ⟨N, 0, none⟩), .int .i64 i] w fun e' w' => e' = .returned (.tuple #[]) ∧ w' = w := by
  have c3 := h.c3
  have hb' : ¬ (0 : Int) ≤ st.beg := by omega
  clear h
  go_enter Tryd.func171, Tryd.ntmps171
  go_wp2
  go_end0
  exact ⟨rfl, rfl⟩

theorem endToken_any (N : Nat) (s : ByteArray) (st : CS) (vl vs : Value) (i : Nat) (w : World) (h : CutAt N s st vl vs w) (hbi : st.beg ≤ i) (hi : i ≤ s.size) (hlen : st.line.length ≤ 5000) :
    Calls Tryd.prog 171 #[.pointer (some ⟨N, 0, none⟩), .int .i64 i] w fun e' w' => e' = .returned (.tuple #[]) ∧ (∃ vl', CutAt N s (endTokS s i st) vl' vs w') ∧ Fr N w w' := by
  by_cases hb : 0 ≤ st.beg
  · obtain ⟨b, hb'⟩ := Int.eq_ofNat_of_zero_le hb
    exact endToken_yes N s st vl vs i b w h hb' (by omega) hi hlen
  · refine (endToken_no N s st vl vs i w h (by omega)).mono ?_
    rintro e w' ⟨rfl, rfl⟩
    refine ⟨rfl, ⟨vl, ?_⟩, Fr.refl _ _⟩
    have : endTokS s i st = st := by unfold endTokS; rw [if_neg hb]
    rw [this]; exact h

theorem info104 : ∃ i, Tryd.prog.info? 177 = some i ∧ i.zero = some (.slice none 0 0) ∧ i.size = 1 ∧ i.bytes = 24 := by
  have h : (Tryd.prog.info? 177).map (fun i => (i.zero, i.size, i.bytes)) = some (some (.slice none 0 0), 1, 24) := by kernel_rfl
  cases hq : Tryd.prog.info? 177 with
  | none => rw [hq] at h; cases h
  | some i =>
    rw [hq] at h
    simp only [Option.map_some, Option.some.injEq, Prod.mk.injEq] at h
    exact ⟨i, rfl, h.1, h.2.1, h.2.2⟩

def endLineS (s : ByteArray) (i : Nat) (st : CS) : CS :=
  { endTokS s i st with lines := st.lines ++ [(endTokS s i st).line], line := [], rem := false, ln := st.ln + 1, col := 1 }
theorem endTokS_lines (s : ByteArray) (i : Nat) (st : CS) : (endTokS s i st).lines = st.lines := by unfold endTokS; split <;> rfl
theorem endTokS_ln (s : ByteArray) (i : Nat) (st : CS) : (endTokS s i st).ln = st.ln := by unfold endTokS; split <;> rfl

/-- A list of tokens is a slice. -/
theorem slice_of {w : World} {B : Nat} {e : TypeId} {k : Nat} {v : Value} {n : Nat} {xs : List Value} (h : w.ownsRow B e k v n xs) : ∃ a m c, v = .slice a m c := by
  rcases h.2 with ⟨rfl, _⟩ | ⟨g, cap, cur, rfl, _⟩
  · exact ⟨_, _, _, rfl⟩
  · exact ⟨_, _, _, rfl⟩

theorem endLine_post (N : Nat) (s : ByteArray) (st : CS) (vl vs : Value) (w : World) (h : CutAt N s st vl vs w) (vsl : List Value) (hov : w.ownsRow (N + 1) 177 1 vs st.lines.length vsl)
    (hl : ∀ (i : Nat) (l : List Tok), st.lines[i]? = some l → ∃ x, vsl[i]? = some x ∧ ToksAt w (N + 1) x l ∧ (∀ g, x.ownBlock = some g → vl.ownBlock ≠ some g)) (g cap : Nat) (w1 : World)
    (ho : w1.ownsRow (N + 1) 177 1 (.slice (some ⟨g, 0, none⟩) (st.lines.length + 1) cap) (st.lines.length + 1) (vsl ++ [vl]))
    (hg : ((w.alloc (.cells #[vl] 177)).drew).grownBy w1 vs.ownBlock) :
    CutAt N s { st with lines := st.lines ++ [st.line], line := [], rem := false, ln := st.ln + 1, col := 1 } (.slice none 0 0) (.slice (some ⟨g, 0, none⟩) (st.lines.length + 1) cap)
      (((((w1.setCell ⟨N, 8, none⟩ (.slice (some ⟨g, 0, none⟩) (st.lines.length + 1) cap)).setCell ⟨N, 7, none⟩ (.slice none 0 0)).setCell ⟨N, 6, none⟩ (.bool false)).setCell ⟨N, 1, none⟩ (.int .i64 (st.ln + 1))).setCell ⟨N, 2, none⟩ (.int .i64 1)) ∧
    Fr N w (((((w1.setCell ⟨N, 8, none⟩ (.slice (some ⟨g, 0, none⟩) (st.lines.length + 1) cap)).setCell ⟨N, 7, none⟩ (.slice none 0 0)).setCell ⟨N, 6, none⟩ (.bool false)).setCell ⟨N, 1, none⟩ (.int .i64 (st.ln + 1))).setCell ⟨N, 2, none⟩ (.int .i64 1)) := by
  have hNlt : N < w.heap.size := by obtain ⟨c, t, fr, hc⟩ := cells_of_cell h.c0; exact (Array.getElem?_eq_some_iff.1 hc).1
  have hNb : some N ≠ vs.ownBlock := fun e => by have := (ownsRow_cells hov N e.symm).1; omega
  have hsz : ((w.alloc (.cells #[vl] 177)).drew).heap.size = w.heap.size + 1 := size_alloc1 _ _
  have hold : ∀ k, k < w.heap.size → some k ≠ vs.ownBlock → w1.heap[k]? = w.heap[k]? := fun k hk hn => (hg.block k (by rw [hsz]; omega) hn).trans (Below.heap_alloc w _ k hk)
  have hN1 : w1.heap[N]? = w.heap[N]? := hold N hNlt hNb
  have k1 : ∀ j, w1.cell? ⟨N, j, none⟩ = w.cell? ⟨N, j, none⟩ := fun j => World.cell?_of_block hN1
  have k2 : ∀ j, w1.frozen? ⟨N, j, none⟩ = w.frozen? ⟨N, j, none⟩ := fun j => World.frozen?_of_block hN1
  have hgN : g ≠ N := by have := (ownsRow_cells ho g rfl).1; omega
  generalize hv : Value.slice (some ⟨g, 0, none⟩) (st.lines.length + 1) cap = v at *
  have hvb : v.ownBlock = some g := by rw [← hv]; rfl
  have a8 := (k1 8).trans h.c8
  have a7 := (k1 7).trans h.c7
  have a6 := (k1 6).trans h.c6
  have a1 := (k1 1).trans h.c1
  have a2 := (k1 2).trans h.c2
  have hh : ∀ k, k ≠ N → (((((w1.setCell ⟨N, 8, none⟩ v).setCell ⟨N, 7, none⟩ (.slice none 0 0)).setCell ⟨N, 6, none⟩ (.bool false)).setCell ⟨N, 1, none⟩ (.int .i64 (st.ln + 1))).setCell ⟨N, 2, none⟩ (.int .i64 1)).heap[k]? = w1.heap[k]? := fun k hk => by
    rw [heap_set_other _ _ hk, heap_set_other _ _ hk, heap_set_other _ _ hk, heap_set_other _ _ hk, heap_set_other _ _ hk]
  have cc : ∀ j u, j ≠ 8 → j ≠ 7 → j ≠ 6 → j ≠ 1 → j ≠ 2 → w.cell? ⟨N, j, none⟩ = some u → (((((w1.setCell ⟨N, 8, none⟩ v).setCell ⟨N, 7, none⟩ (.slice none 0 0)).setCell ⟨N, 6, none⟩ (.bool false)).setCell ⟨N, 1, none⟩ (.int .i64 (st.ln + 1))).setCell ⟨N, 2, none⟩ (.int .i64 1)).cell? ⟨N, j, none⟩ = some u := fun j u h8 h7 h6 h1 h2 hc =>
    cell_of_rows (cell_of_rows (cell_of_rows (cell_of_rows (cell_of_rows ((k1 j).trans hc) h8) h7) h6) h1) h2
  have s1 := @cell_set_same w1 N 8 v _ a8
  have s2 := @cell_set_same (w1.setCell ⟨N, 8, none⟩ v) N 7 (.slice none 0 0) _ (cell_of_rows a7 (by decide))
  have s3 := @cell_set_same ((w1.setCell ⟨N, 8, none⟩ v).setCell ⟨N, 7, none⟩ (.slice none 0 0)) N 6 (.bool false) _ (cell_of_rows (cell_of_rows a6 (by decide)) (by decide))
  have s4 := @cell_set_same (((w1.setCell ⟨N, 8, none⟩ v).setCell ⟨N, 7, none⟩ (.slice none 0 0)).setCell ⟨N, 6, none⟩ (.bool false)) N 1 (.int .i64 (st.ln + 1)) _ (cell_of_rows (cell_of_rows (cell_of_rows a1 (by decide)) (by decide)) (by decide))
  have s5 := @cell_set_same ((((w1.setCell ⟨N, 8, none⟩ v).setCell ⟨N, 7, none⟩ (.slice none 0 0)).setCell ⟨N, 6, none⟩ (.bool false)).setCell ⟨N, 1, none⟩ (.int .i64 (st.ln + 1))) N 2 (.int .i64 1) _ (cell_of_rows (cell_of_rows (cell_of_rows (cell_of_rows a2 (by decide)) (by decide)) (by decide)) (by decide))
  refine ⟨⟨cc 0 _ (by decide) (by decide) (by decide) (by decide) (by decide) h.c0, cell_of_rows s4 (by decide), s5, cc 3 _ (by decide) (by decide) (by decide) (by decide) (by decide) h.c3, cc 4 _ (by decide) (by decide) (by decide) (by decide) (by decide) h.c4, cc 5 _ (by decide) (by decide) (by decide) (by decide) (by decide) h.c5,
    cell_of_rows (cell_of_rows s3 (by decide)) (by decide), cell_of_rows (cell_of_rows (cell_of_rows s2 (by decide)) (by decide)) (by decide), cell_of_rows (cell_of_rows (cell_of_rows (cell_of_rows s1 (by decide)) (by decide)) (by decide)) (by decide),
    fun j => by rw [World.frozen?_setCell, World.frozen?_setCell, World.frozen?_setCell, World.frozen?_setCell, World.frozen?_setCell, k2]; exact h.fz j, World.ownsRow_nil _ _ _ _, ?_⟩, ?_⟩
  · have lt : ∀ {e k x n xs}, w.ownsRow (N + 1) e k x n xs → ∀ g, x.ownBlock = some g → N + 1 ≤ g ∧ g < w.heap.size := fun ho g hg => by
      obtain ⟨hb, c, t, fr, hc⟩ := ownsRow_cells ho g hg
      exact ⟨hb, (Array.getElem?_eq_some_iff.1 hc).1⟩
    have kt : ∀ x l, ToksAt w (N + 1) x l → ToksAt (((((w1.setCell ⟨N, 8, none⟩ v).setCell ⟨N, 7, none⟩ (.slice none 0 0)).setCell ⟨N, 6, none⟩ (.bool false)).setCell ⟨N, 1, none⟩ (.int .i64 (st.ln + 1))).setCell ⟨N, 2, none⟩ (.int .i64 1)) (N + 1) x l := fun x l hx =>
      ownsRow_keep hx (fun k hk => (hh k (by have := (lt hx k hk).1; omega)).trans (hold k (lt hx k hk).2 (fun e => by
        obtain ⟨c1, t1⟩ := ownsRow_kind hov k e.symm
        obtain ⟨c2, t2⟩ := ownsRow_kind hx k hk
        rw [t1] at t2
        cases t2)))
    refine ⟨vsl ++ [vl], ?_, fun i l hi => ?_⟩
    · show World.ownsRow _ _ _ _ _ (st.lines ++ [st.line]).length _
      rw [List.length_append, List.length_singleton]
      exact ownsRow_keep ho (fun k hk => by rw [hvb] at hk; cases hk; exact hh g hgN)
    · have hlen : vsl.length = st.lines.length := by have := hov.1; omega
      rw [List.getElem?_append] at hi
      split at hi
      · rename_i hlt
        obtain ⟨x, hx, ht, _⟩ := hl i l hi
        exact ⟨x, by rw [List.getElem?_append_left (by omega)]; exact hx, kt x l ht, fun g' _ e => by cases e⟩
      · rename_i hge
        have hi0 : i - st.lines.length = 0 := by
          rcases Nat.eq_zero_or_pos (i - st.lines.length) with h0 | h0
          · exact h0
          · rw [List.getElem?_eq_none (by simp; omega)] at hi; cases hi
        rw [hi0] at hi
        simp at hi
        subst hi
        exact ⟨vl, by rw [List.getElem?_append_right (by omega), hlen, hi0]; rfl, kt vl _ h.ln, fun g' _ e => by cases e⟩
  · have f1 : Fr N w ((w.alloc (.cells #[vl] 177)).drew) := ((Fr.refl N w).alloc (by omega) _).drew
    have f2 := f1.grown hg (fun k hk => by
      obtain ⟨hb', c, t, fr, hc⟩ := ownsRow_cells hov k hk
      refine ⟨by omega, c, t, fr, ?_⟩
      exact (Below.heap_alloc w _ k (Array.getElem?_eq_some_iff.1 hc).1).trans hc) (by rw [hsz]; omega)
    exact ((((f2.setCell (Nat.le_refl _) (cells_of_cell a8) _).setCell (Nat.le_refl _) (cells_of_cell s1) _).setCell (Nat.le_refl _) (cells_of_cell s2) _).setCell (Nat.le_refl _) (cells_of_cell s3) _).setCell (Nat.le_refl _) (cells_of_cell s4) _

set_option maxRecDepth 100000 in
set_option maxHeartbeats 2000000 in
theorem endLine_any (N : Nat) (s : ByteArray) (st : CS) (vl vs : Value) (i : Nat) (w : World) (h : CutAt N s st vl vs w) (hbi : st.beg ≤ i) (hi : i ≤ s.size) (hlen : st.line.length ≤ 5000) (hlines : st.lines.length ≤ 5000) (l0 : 0 ≤ st.ln) (l1 : st.ln ≤ 100000) :
    Calls Tryd.prog 155 #[.pointer (some ⟨N, 0, none⟩), .int .i64 i] w fun e' w' => e' = .returned (.tuple #[]) ∧ (∃ vl' vs', CutAt N s (endLineS s i st) vl' vs' w') ∧ Fr N w w' := by
  have HT := hide (endToken_any N s st vl vs i w h hbi hi hlen)
  have e1 := endTokS_lines s i st
  have e2 := endTokS_ln s i st
  have HS : Hid (endLineS s i st = { endTokS s i st with lines := (endTokS s i st).lines ++ [(endTokS s i st).line], line := [], rem := false, ln := (endTokS s i st).ln + 1, col := 1 }) := by rw [Hid, endLineS, e1, e2]
  rw [← e1] at hlines
  rw [← e2] at l0 l1
  generalize endTokS s i st = st1 at *
  clear e1 e2 h hbi hi hlen
  obtain ⟨inf, hinf, hz, hsz, hby⟩ := info104
  have HInf := hide hinf; have HZ := hide hz; have HSz := hide hsz; have HBy := hide hby
  clear hinf hz hsz hby
  go_enter Tryd.func155, Tryd.ntmps155
  go_wp2_with fail
  refine (unhide HT).mono ?_
  rintro e w0 ⟨rfl, ⟨vl1, h⟩, hfr⟩
  have HFr := hide hfr
  clear hfr HT
  have hNlt : N < w0.heap.size := by obtain ⟨c, t, fr, hc⟩ := cells_of_cell h.c0; exact (Array.getElem?_eq_some_iff.1 hc).1
  have HH := hide h
  obtain ⟨c0, c1, c2, c3, c4, c5, c6, c7, c8, fz, hln, hls⟩ := h
  obtain ⟨vsl, hov, hl⟩ := hls
  obtain ⟨sa, sm, sc, rfl⟩ := slice_of hln
  have HOv := hide hov
  have HL := hide hl
  clear hln hov hl
  have hown0 : ((w0.alloc (.cells #[.slice sa sm sc] 177)).drew).ownsRow (N + 1) 177 1 vs st1.lines.length vsl :=
    ownsRow_keep HOv.out (fun g hg => Below.heap_alloc w0 _ g (by obtain ⟨_, c, t, fr, hc⟩ := ownsRow_cells HOv.out g hg; exact (Array.getElem?_eq_some_iff.1 hc).1))
  have HO := hide hown0
  clear hown0
  go_wp2_with fail
  refine held_tail 9 2 (fun w' => w'.cell? ⟨N, 7, none⟩ = some (.slice sa sm sc) ∧ w'.cell? ⟨N, 8, none⟩ = some vs) (by kernel_rfl) (by kernel_rfl) (fun d _ _ _ _ h => by cases d <;> exact h) ⟨c7, c8⟩ ?_
  simp only [List.take_succ_cons, List.take_zero, List.drop_succ_cons, List.drop_zero]
  iterate 9
    refine wpTake_step ?_ rfl ?_ ?_
    rotate_left
    · rintro w' ⟨d7, d8⟩
      go_simp
      rfl
    go_simp
  refine wpTake_nil ?_
  refine wpTail_step rfl (fun K hK => ?_)
  go_simp
  refine hK _ _ ⟨(cellD w0 _ hNlt 7).trans c7, (cellD w0 _ hNlt 8).trans c8⟩ ?_
  clear hK K
  refine wpTail_step rfl (fun K hK => ?_)
  refine wp_append_lies _ _ _ 170 rfl (N + 1) 177 inf _ 1 24 Tryd.underlying170 HInf.out HZ.out HSz.out HBy.out rfl (by decide) vs st1.lines.length vsl rfl HO.out ⟨w0.heap.size, 0, none⟩ 1 1 [.slice sa sm sc] rfl rfl (World.news_of_block (_root_.Go.heap_alloc_new w0 _)) (fun u hu => by simp at hu; subst hu; rfl) (by decide) (by unfold maxLen; omega) (by omega) (by show N + 1 ≤ (w0.alloc _).heap.size; rw [size_alloc1]; omega) (w0.heap.size + 1) (by show (w0.alloc _).heap.size = _; rw [size_alloc1]) ?_
  intro g cap w1 hown1 hgr hat hlt
  have hN1 : w1.heap[N]? = w0.heap[N]? := (hgr.block N (by show N < (w0.alloc _).heap.size; rw [size_alloc1]; omega) (fun e => by have := (ownsRow_cells HOv.out N e.symm).1; omega)).trans (Below.heap_alloc w0 _ N hNlt)
  have k1 : ∀ j, w1.cell? ⟨N, j, none⟩ = w0.cell? ⟨N, j, none⟩ := fun j => World.cell?_of_block hN1
  have k2 : ∀ j, w1.frozen? ⟨N, j, none⟩ = w0.frozen? ⟨N, j, none⟩ := fun j => World.frozen?_of_block hN1
  refine hK _ _ ⟨(k1 7).trans c7, (k1 8).trans c8⟩ ?_
  have HO1 := hide hown1; have HGr := hide hgr; have HAt := hide hat; have HN1 := hide hN1
  clear hown1 hgr hat hK K hN1
  unfold wpTailS
  go_wp2_with fail
  go_end0
  have HP := endLine_post N s st1 (.slice sa sm sc) vs w0 HH.out vsl HOv.out HL.out g cap w1 HO1.out HGr.out
  rw [HS.out]
  exact ⟨rfl, ⟨_, _, HP.1⟩, HFr.out.trans HP.2⟩
end Go.Proofs.YtmmflekajbeamaaDoor

namespace Go.Proofs.YtmmflekajbeamaaDoor
open Go.RowKit

theorem toks_set {w : World} {N j : Nat} {u v : Value} {l : List Tok} (h : ToksAt w (N + 1) v l) : ToksAt (w.setCell ⟨N, j, none⟩ u) (N + 1) v l :=
  ownsRow_keep h (fun g hg => heap_set_other w u (by have := (ownsRow_cells h g hg).1; omega))
theorem lines_set {w : World} {N j : Nat} {u v vl : Value} {ls : List (List Tok)} (h : LinesAt w (N + 1) v vl ls) : LinesAt (w.setCell ⟨N, j, none⟩ u) (N + 1) v vl ls := by
  obtain ⟨vs, ho, hl⟩ := h
  refine ⟨vs, ownsRow_keep ho (fun g hg => heap_set_other w u (by have := (ownsRow_cells ho g hg).1; omega)), fun i l hi => ?_⟩
  obtain ⟨x, hx, ht, hd⟩ := hl i l hi
  exact ⟨x, hx, toks_set ht, hd⟩
theorem fz_set {w : World} {N j : Nat} {u : Value} (h : ∀ i, w.frozen? ⟨N, i, none⟩ = false) : ∀ i, (w.setCell ⟨N, j, none⟩ u).frozen? ⟨N, i, none⟩ = false := fun i => by rw [World.frozen?_setCell]; exact h i
theorem CutAt.setCol {N : Nat} {s : ByteArray} {st : CS} {vl vs : Value} {w : World} (h : CutAt N s st vl vs w) (c : Int) : CutAt N s { st with col := c } vl vs (w.setCell ⟨N, 2, none⟩ (.int .i64 c)) :=
  ⟨cell_of_rows h.c0 (by decide), cell_of_rows h.c1 (by decide), cell_set_same h.c2, cell_of_rows h.c3 (by decide), cell_of_rows h.c4 (by decide), cell_of_rows h.c5 (by decide), cell_of_rows h.c6 (by decide), cell_of_rows h.c7 (by decide), cell_of_rows h.c8 (by decide), fz_set h.fz, toks_set h.ln, lines_set h.ls⟩
theorem CutAt.setRem {N : Nat} {s : ByteArray} {st : CS} {vl vs : Value} {w : World} (h : CutAt N s st vl vs w) (b : Bool) : CutAt N s { st with rem := b } vl vs (w.setCell ⟨N, 6, none⟩ (.bool b)) :=
  ⟨cell_of_rows h.c0 (by decide), cell_of_rows h.c1 (by decide), cell_of_rows h.c2 (by decide), cell_of_rows h.c3 (by decide), cell_of_rows h.c4 (by decide), cell_of_rows h.c5 (by decide), cell_set_same h.c6, cell_of_rows h.c7 (by decide), cell_of_rows h.c8 (by decide), fz_set h.fz, toks_set h.ln, lines_set h.ls⟩
theorem CutAt.setBeg {N : Nat} {s : ByteArray} {st : CS} {vl vs : Value} {w : World} (h : CutAt N s st vl vs w) (b : Int) : CutAt N s { st with beg := b } vl vs (w.setCell ⟨N, 3, none⟩ (.int .i64 b)) :=
  ⟨cell_of_rows h.c0 (by decide), cell_of_rows h.c1 (by decide), cell_of_rows h.c2 (by decide), cell_set_same h.c3, cell_of_rows h.c4 (by decide), cell_of_rows h.c5 (by decide), cell_of_rows h.c6 (by decide), cell_of_rows h.c7 (by decide), cell_of_rows h.c8 (by decide), fz_set h.fz, toks_set h.ln, lines_set h.ls⟩
theorem CutAt.setFl {N : Nat} {s : ByteArray} {st : CS} {vl vs : Value} {w : World} (h : CutAt N s st vl vs w) (b : Int) : CutAt N s { st with fl := b } vl vs (w.setCell ⟨N, 4, none⟩ (.int .i64 b)) :=
  ⟨cell_of_rows h.c0 (by decide), cell_of_rows h.c1 (by decide), cell_of_rows h.c2 (by decide), cell_of_rows h.c3 (by decide), cell_set_same h.c4, cell_of_rows h.c5 (by decide), cell_of_rows h.c6 (by decide), cell_of_rows h.c7 (by decide), cell_of_rows h.c8 (by decide), fz_set h.fz, toks_set h.ln, lines_set h.ls⟩
theorem CutAt.setFc {N : Nat} {s : ByteArray} {st : CS} {vl vs : Value} {w : World} (h : CutAt N s st vl vs w) (b : Int) : CutAt N s { st with fc := b } vl vs (w.setCell ⟨N, 5, none⟩ (.int .i64 b)) :=
  ⟨cell_of_rows h.c0 (by decide), cell_of_rows h.c1 (by decide), cell_of_rows h.c2 (by decide), cell_of_rows h.c3 (by decide), cell_of_rows h.c4 (by decide), cell_set_same h.c5, cell_of_rows h.c6 (by decide), cell_of_rows h.c7 (by decide), cell_of_rows h.c8 (by decide), fz_set h.fz, toks_set h.ln, lines_set h.ls⟩
theorem CutAt.fr {N : Nat} {s : ByteArray} {st : CS} {vl vs : Value} {w w0 : World} (h : CutAt N s st vl vs w) (hf : Fr N w0 w) (j : Nat) (u : Value) : Fr N w0 (w.setCell ⟨N, j, none⟩ u) :=
  hf.setCell (Nat.le_refl _) (cells_of_cell h.c0) _

def takeS (s : ByteArray) (i : Nat) (r : Int) (st : CS) : CS :=
  if r = 10 then endLineS s i st
  else if r = 59 then { endTokS s i st with rem := true, col := st.col + 1 }
  else if st.rem = true then { st with col := st.col + 1 }
  else if r = 32 ∨ r = 9 then { endTokS s i st with col := st.col + 1 }
  else if st.beg < 0 then { st with beg := i, fl := st.ln, fc := st.col, col := st.col + 1 }
  else { st with col := st.col + 1 }
theorem endTokS_col (s : ByteArray) (i : Nat) (st : CS) : (endTokS s i st).col = st.col := by unfold endTokS; split <;> rfl

set_option maxRecDepth 100000 in
set_option maxHeartbeats 1000000 in
theorem take_any (N : Nat) (s : ByteArray) (st : CS) (vl vs : Value) (i : Nat) (r : Int) (w : World) (h : CutAt N s st vl vs w) (hbi : st.beg ≤ i) (hi : i ≤ s.size) (hlen : st.line.length ≤ 5000) (hlines : st.lines.length ≤ 5000) (l0 : 0 ≤ st.ln) (l1 : st.ln ≤ 100000) (o0 : 0 ≤ st.col) (o1 : st.col ≤ 100000) :
    Calls Tryd.prog 154 #[.pointer (some ⟨N, 0, none⟩), .int .i64 i, .int .i32 r] w fun e' w' => e' = .returned (.tuple #[]) ∧ (∃ vl' vs', CutAt N s (takeS s i r st) vl' vs' w') ∧ Fr N w w' := by
  by_cases h10 : r = 10
  · subst h10
    have HE := hide (endLine_any N s st vl vs i w h hbi hi hlen hlines l0 l1)
    have HS : Hid (takeS s i 10 st = endLineS s i st) := by simp [Hid, takeS]
    clear h
    go_enter Tryd.func154, Tryd.ntmps154
    go_wp2_with fail
    refine (unhide HE).mono ?_
    rintro e w1 ⟨rfl, hc, hf⟩
    have HC := hide hc; have HF := hide hf
    clear hc hf
    go_wp2
    (try simp only [Exit.inBlock, Exit.then])
    refine bodyPost_ret (results_none rfl _ _ _) rfl ?_
    rw [HS.out]
    exact ⟨rfl, HC.out, HF.out⟩
  have b10 : (r == 10) = false := by simpa using h10
  have HT := hide (endToken_any N s st vl vs i w h hbi hi hlen)
  have ec := endTokS_col s i st
  by_cases h59 : r = 59
  · subst h59
    have HS : Hid (takeS s i 59 st = { { endTokS s i st with rem := true } with col := (endTokS s i st).col + 1 }) := by simp [Hid, takeS, ec]
    rw [← ec] at o0 o1
    generalize endTokS s i st = st1 at *
    clear h ec
    go_enter Tryd.func154, Tryd.ntmps154
    go_wp2_with fail
    refine (unhide HT).mono ?_
    rintro e w1 ⟨rfl, ⟨vl1, hc⟩, hf⟩
    have HC := hide hc; have HF := hide hf
    obtain ⟨c0, c1, c2, c3, c4, c5, c6, c7, c8, fz, _, _⟩ := hc
    clear hf
    go_wp2
    go_end0
    rw [HS.out]
    exact ⟨rfl, ⟨vl1, vs, (HC.out.setRem true).setCol _⟩, (HC.out.setRem true).fr (HC.out.fr HF.out _ _) _ _⟩
  have b59 : (r == 59) = false := by simpa using h59
  cases hrem : st.rem
  · by_cases hsp : r = 32 ∨ r = 9
    · have HS : Hid (takeS s i r st = { endTokS s i st with col := (endTokS s i st).col + 1 }) := by simp [Hid, takeS, ec, h10, h59, hrem, hsp]
      have c6 := h.c6
      rw [hrem] at c6
      rw [← ec] at o0 o1
      generalize endTokS s i st = st1 at *
      clear h ec hrem h10 h59
      rcases hsp with rfl | rfl
      all_goals
        go_enter Tryd.func154, Tryd.ntmps154
        go_wp2_with fail
        refine (unhide HT).mono ?_
        rintro e w1 ⟨rfl, ⟨vl1, hc⟩, hf⟩
        have HC := hide hc; have HF := hide hf
        obtain ⟨c0, c1, c2, c3, c4, c5, c6', c7, c8, fz, _, _⟩ := hc
        clear hf
        go_wp2
        go_end0
        rw [HS.out]
        exact ⟨rfl, ⟨vl1, vs, HC.out.setCol _⟩, HC.out.fr HF.out _ _⟩
    · have b32 : (r == 32) = false := by simp; omega
      have b9 : (r == 9) = false := by simp; omega
      clear HT ec
      have HH := hide h
      by_cases hbg : st.beg < 0
      · have HS : Hid (takeS s i r st = { { { { st with beg := (i : Int) } with fl := st.ln } with fc := st.col } with col := st.col + 1 }) := by simp [Hid, takeS, h10, h59, hrem, hsp, hbg]
        obtain ⟨c0, c1, c2, c3, c4, c5, c6, c7, c8, fz, _, _⟩ := h
        rw [hrem] at c6
        clear hrem h10 h59 hsp
        go_enter Tryd.func154, Tryd.ntmps154
        go_wp2
        go_end0
        rw [HS.out]
        exact ⟨rfl, ⟨vl, vs, (((HH.out.setBeg i).setFl st.ln).setFc st.col).setCol (st.col + 1)⟩, (((HH.out.setBeg i).setFl st.ln).setFc st.col).fr (((HH.out.setBeg i).setFl st.ln).fr ((HH.out.setBeg i).fr (HH.out.fr (Fr.refl _ _) _ _) _ _) _ _) _ _⟩
      · have HS : Hid (takeS s i r st = { st with col := st.col + 1 }) := by simp [Hid, takeS, h10, h59, hrem, hsp, hbg]
        obtain ⟨c0, c1, c2, c3, c4, c5, c6, c7, c8, fz, _, _⟩ := h
        rw [hrem] at c6
        clear hrem h10 h59 hsp
        go_enter Tryd.func154, Tryd.ntmps154
        go_wp2
        go_end0
        rw [HS.out]
        exact ⟨rfl, ⟨vl, vs, HH.out.setCol _⟩, HH.out.fr (Fr.refl _ _) _ _⟩
  · have HS : Hid (takeS s i r st = { st with col := st.col + 1 }) := by simp [Hid, takeS, h10, h59, hrem]
    have HH := hide h
    obtain ⟨c0, c1, c2, c3, c4, c5, c6, c7, c8, fz, _, _⟩ := h
    rw [hrem] at c6
    clear hrem h10 h59 HT ec
    go_enter Tryd.func154, Tryd.ntmps154
    go_wp2
    go_end0
    rw [HS.out]
    exact ⟨rfl, ⟨vl, vs, HH.out.setCol _⟩, HH.out.fr (Fr.refl _ _) _ _⟩
end Go.Proofs.YtmmflekajbeamaaDoor

namespace Go.Proofs.YtmmflekajbeamaaDoor
open Go.RowKit

/-- Does no character begin at p? -/
def badB (s : ByteArray) (p : Nat) : Bool := decide ((Utf8.decode s p).1 = 65533) && !preB (s.data.toList.drop p)
def cutGo (s : ByteArray) : Nat → Nat → CS → CS ⊕ (Int × Int)
  | 0, _, st => .inl st
  | f + 1, p, st => if p < s.size then (if badB s p then .inr (st.ln, st.col) else cutGo s f (p + (Utf8.decode s p).2) (takeS s p (Utf8.decode s p).1 st)) else .inl st
def cs0 : CS := ⟨1, 1, -1, 0, 0, false, [], []⟩
def cutS (s : ByteArray) : List (List Tok) ⊕ (Int × Int) := match cutGo s s.size 0 cs0 with | .inl st => .inl (endLineS s s.size st).lines | .inr pl => .inr pl

structure CInv (s : ByteArray) (p : Nat) (st : CS) : Prop where
  b1 : st.beg ≤ p
  b2 : st.beg ≤ s.size
  k1 : st.line.length ≤ p
  k2 : st.lines.length ≤ p
  l0 : 0 ≤ st.ln
  l1 : st.ln ≤ p + 1
  o0 : 0 ≤ st.col
  o1 : st.col ≤ p + 1
theorem CInv.zero (s : ByteArray) : CInv s 0 cs0 := ⟨by decide, by show (-1 : Int) ≤ (s.size : Int); omega, Nat.le_refl _, Nat.le_refl _, by decide, by decide, by decide, by decide⟩
theorem CInv.endTok {s : ByteArray} {p : Nat} {st : CS} (h : CInv s p st) (n : Nat) (hn : 1 ≤ n) : (endTokS s p st).beg ≤ (p : Int) ∧ (endTokS s p st).beg ≤ (s.size : Int) ∧ (endTokS s p st).line.length ≤ p + n := by
  have := h.b1; have := h.b2; have := h.k1
  unfold endTokS
  split
  · refine ⟨by show (-1 : Int) ≤ _; omega, by show (-1 : Int) ≤ _; omega, by simp; omega⟩
  · exact ⟨h.b1, h.b2, by omega⟩
theorem CInv.take {s : ByteArray} {p : Nat} {st : CS} (h : CInv s p st) (r : Int) (n : Nat) (hn : 1 ≤ n) (hp : p < s.size) : CInv s (p + n) (takeS s p r st) := by
  obtain ⟨e1, e2, e3⟩ := h.endTok n hn
  obtain ⟨b1, b2, k1, k2, l0, l1, o0, o1⟩ := h
  unfold takeS
  split
  · unfold endLineS
    exact ⟨by show (endTokS s p st).beg ≤ _; omega, e2, by simp, by simp; omega, by show 0 ≤ st.ln + 1; omega, by show st.ln + 1 ≤ _; omega, by show (0 : Int) ≤ 1; omega, by show (1 : Int) ≤ _; omega⟩
  · split
    · exact ⟨by show (endTokS s p st).beg ≤ _; omega, e2, e3, by show (endTokS s p st).lines.length ≤ _; rw [endTokS_lines]; omega, by show 0 ≤ (endTokS s p st).ln; rw [endTokS_ln]; exact l0, by show (endTokS s p st).ln ≤ _; rw [endTokS_ln]; omega, by show 0 ≤ st.col + 1; omega, by show st.col + 1 ≤ _; omega⟩
    · split
      · exact ⟨by show st.beg ≤ _; omega, b2, by show st.line.length ≤ _; omega, by show st.lines.length ≤ _; omega, l0, by show st.ln ≤ _; omega, by show 0 ≤ st.col + 1; omega, by show st.col + 1 ≤ _; omega⟩
      · split
        · exact ⟨by show (endTokS s p st).beg ≤ _; omega, e2, e3, by show (endTokS s p st).lines.length ≤ _; rw [endTokS_lines]; omega, by show 0 ≤ (endTokS s p st).ln; rw [endTokS_ln]; exact l0, by show (endTokS s p st).ln ≤ _; rw [endTokS_ln]; omega, by show 0 ≤ st.col + 1; omega, by show st.col + 1 ≤ _; omega⟩
        · split
          · exact ⟨by show (p : Int) ≤ _; omega, by show (p : Int) ≤ _; omega, by show st.line.length ≤ _; omega, by show st.lines.length ≤ _; omega, l0, by show st.ln ≤ _; omega, by show 0 ≤ st.col + 1; omega, by show st.col + 1 ≤ _; omega⟩
          · exact ⟨by show st.beg ≤ _; omega, b2, by show st.line.length ≤ _; omega, by show st.lines.length ≤ _; omega, l0, by show st.ln ≤ _; omega, by show 0 ≤ st.col + 1; omega, by show st.col + 1 ≤ _; omega⟩

theorem lines_set' {w : World} {B n j : Nat} {u v vl : Value} {ls : List (List Tok)} (hn : n < B) (h : LinesAt w B v vl ls) : LinesAt (w.setCell ⟨n, j, none⟩ u) B v vl ls := by
  obtain ⟨vs, ho, hl⟩ := h
  refine ⟨vs, ownsRow_keep ho (fun g hg => heap_set_other w u (by have := (ownsRow_cells ho g hg).1; omega)), fun i l hi => ?_⟩
  obtain ⟨x, hx, ht, hd⟩ := hl i l hi
  exact ⟨x, hx, ownsRow_keep ht (fun g hg => heap_set_other w u (by have := (ownsRow_cells ht g hg).1; omega)), hd⟩
theorem below_cell' {B : Nat} {W w1 : World} (hb : Below B W w1) (n i : Nat) (hn : n < B) : w1.cell? ⟨n, i, none⟩ = W.cell? ⟨n, i, none⟩ := hb.cell (p := ⟨n, i, none⟩) hn
theorem cells_ne {w : World} {k g : Nat} {s : ByteArray} {p : Nat} (hk : w.heap[k]? = some (.stringIter s p)) (hg : ∃ c t fr, w.heap[g]? = some (.cells c t fr)) : g ≠ k := fun e => by
  obtain ⟨c, t, fr, hc⟩ := hg
  rw [e, hk] at hc
  cases hc
theorem CutAt.iterAt {N : Nat} {s : ByteArray} {st : CS} {vl vs : Value} {w : World} (h : CutAt N s st vl vs w) {k : Nat} {s0 : ByteArray} {p0 : Nat} (hk : w.heap[k]? = some (.stringIter s0 p0)) (p : Nat) : CutAt N s st vl vs (w.iterAt k s0 p) := by
  have hN : (w.iterAt k s0 p).heap[N]? = w.heap[N]? := Lib.iterAt_other w k N s0 p (cells_ne hk (cells_of_cell h.c0))
  have hc : ∀ j, (w.iterAt k s0 p).cell? ⟨N, j, none⟩ = w.cell? ⟨N, j, none⟩ := fun j => World.cell?_of_block hN
  have hr : ∀ {B e z v n xs}, w.ownsRow B e z v n xs → (w.iterAt k s0 p).ownsRow B e z v n xs := fun ho => ownsRow_keep ho (fun g hg => Lib.iterAt_other w k g s0 p (cells_ne hk (ownsRow_cells ho g hg).2))
  obtain ⟨vsl, ho, hl⟩ := h.ls
  exact ⟨(hc 0).trans h.c0, (hc 1).trans h.c1, (hc 2).trans h.c2, (hc 3).trans h.c3, (hc 4).trans h.c4, (hc 5).trans h.c5, (hc 6).trans h.c6, (hc 7).trans h.c7, (hc 8).trans h.c8, fun i => (World.frozen?_of_block hN).trans (h.fz i), hr h.ln,
    vsl, hr ho, fun i l hi => by obtain ⟨x, hx, ht, hd⟩ := hl i l hi; exact ⟨x, hx, hr ht, hd⟩⟩
theorem cut_start (w : World) (s : ByteArray) :
    (((w.alloc (.cells #[.int .i64 0, .int .i64 0, .int .i64 0] 116)).alloc (.cells #[.string s, .int .i64 1, .int .i64 1, .int .i64 (-1), .int .i64 0, .int .i64 0, .bool false, .slice none 0 0, .slice none 0 0] 203)).iter s 0).heap[w.heap.size + 1 + 1]? = some (.stringIter s 0) ∧
    CutAt (w.heap.size + 1) s cs0 (.slice none 0 0) (.slice none 0 0) (((w.alloc (.cells #[.int .i64 0, .int .i64 0, .int .i64 0] 116)).alloc (.cells #[.string s, .int .i64 1, .int .i64 1, .int .i64 (-1), .int .i64 0, .int .i64 0, .bool false, .slice none 0 0, .slice none 0 0] 203)).iter s 0) ∧
    Below (w.heap.size + 1) (w.alloc (.cells #[.int .i64 0, .int .i64 0, .int .i64 0] 116)) (((w.alloc (.cells #[.int .i64 0, .int .i64 0, .int .i64 0] 116)).alloc (.cells #[.string s, .int .i64 1, .int .i64 1, .int .i64 (-1), .int .i64 0, .int .i64 0, .bool false, .slice none 0 0, .slice none 0 0] 203)).iter s 0) := by
  have hb : (((w.alloc (.cells #[.int .i64 0, .int .i64 0, .int .i64 0] 116)).alloc (.cells #[.string s, .int .i64 1, .int .i64 1, .int .i64 (-1), .int .i64 0, .int .i64 0, .bool false, .slice none 0 0, .slice none 0 0] 203)).iter s 0).heap[w.heap.size + 1]? = some (.cells #[.string s, .int .i64 1, .int .i64 1, .int .i64 (-1), .int .i64 0, .int .i64 0, .bool false, .slice none 0 0, .slice none 0 0] 203) := by
    unfold World.iter
    rw [Below.heap_alloc _ _ _ (by rw [size_alloc1, size_alloc1]; omega)]
    have := _root_.Go.heap_alloc_new (w.alloc (.cells #[.int .i64 0, .int .i64 0, .int .i64 0] 116)) (.cells #[.string s, .int .i64 1, .int .i64 1, .int .i64 (-1), .int .i64 0, .int .i64 0, .bool false, .slice none 0 0, .slice none 0 0] 203)
    rw [size_alloc1] at this
    exact this
  refine ⟨?_, ⟨?_, ?_, ?_, ?_, ?_, ?_, ?_, ?_, ?_, ?_, World.ownsRow_nil _ _ _ _, [], World.ownsRow_nil _ _ _ _, fun i l hi => by simp [cs0] at hi⟩, ?_⟩
  · have := World.iter_heap ((w.alloc (.cells #[.int .i64 0, .int .i64 0, .int .i64 0] 116)).alloc (.cells #[.string s, .int .i64 1, .int .i64 1, .int .i64 (-1), .int .i64 0, .int .i64 0, .bool false, .slice none 0 0, .slice none 0 0] 203)) s 0
    rw [size_alloc1, size_alloc1] at this
    exact this
  iterate 9
    · rw [cell_of_row _ _ _ _ _ _ hb]; rfl
  · intro i
    exact frozen_of_row _ _ _ _ _ hb
  · exact ((Below.refl _ _).alloc (by rw [size_alloc1]; omega) _).alloc (by rw [size_alloc1, size_alloc1]; omega) _

theorem extr_end (s : ByteArray) (p : Nat) : (s.extract p s.size).data.toList = s.data.toList.drop p := by
  rw [Lib.extract_data, List.take_of_length_le]
  rw [List.length_drop]; exact Nat.le_refl _
theorem extr_len (s : ByteArray) (p : Nat) (hs : s.size ≤ 2000) : (s.extract p s.size).size ≤ maxLen := by
  have h1 : (s.extract p s.size).size = (s.extract p s.size).data.toList.length := rfl
  rw [h1, extr_end, List.length_drop]
  have h2 : s.data.toList.length = s.size := rfl
  unfold maxLen
  omega
theorem iterPos_eq {w : World} {k : Nat} {s : ByteArray} {p : Nat} (h : w.heap[k]? = some (.stringIter s p)) : w.iterPos k = p := by simp [World.iterPos, h]
theorem decode_room (s : ByteArray) (p : Nat) (h : p < s.size) : p + (Utf8.decode s p).2 ≤ s.size + 3 := by
  have : (Utf8.decode s p).2 ≤ 4 := by
    simp only [Utf8.decode]
    repeat' split
    all_goals simp_all
  omega

set_option maxRecDepth 100000 in
set_option maxHeartbeats 2000000 in
theorem cut_any (s : ByteArray) (w : World) (hs : s.size ≤ 2000) :
    Calls Tryd.prog 123 #[.string s] w fun e' w' => Below w.heap.size w w' ∧
      ((∃ st v vl, cutGo s s.size 0 cs0 = .inl st ∧ LinesAt w' (w.heap.size + 2) v vl (endLineS s s.size st).lines ∧ e' = .returned (.tuple #[v, .agg #[.int .i64 0, .int .i64 0, .int .i64 0]])) ∨
       (∃ l c, cutGo s s.size 0 cs0 = .inr (l, c) ∧ e' = .returned (.tuple #[.slice none 0 0, .agg #[.int .i64 l, .int .i64 c, .int .i64 3]]))) := by
  go_enter Tryd.func123, Tryd.ntmps123
  go_wp2_with fail
  go_loopw [5] (fun _ wr => ∃ (f p : Nat) (st : CS) (vl vs : Value), wr.heap[w.heap.size + 1 + 1]? = some (.stringIter s p) ∧ CutAt (w.heap.size + 1) s st vl vs wr ∧ CInv s p st ∧ s.size ≤ p + f ∧ p ≤ s.size + 3 ∧ Hid (cutGo s f p st = cutGo s s.size 0 cs0) ∧ Below (w.heap.size + 1) (w.alloc (.cells #[.int .i64 0, .int .i64 0, .int .i64 0] 116)) wr) (fun _ wr => s.size - wr.iterPos (w.heap.size + 1 + 1))
  case atStart =>
    exact ⟨s.size, 0, cs0, .slice none 0 0, .slice none 0 0, (cut_start w s).1, (cut_start w s).2.1, CInv.zero s, by omega, by omega, rfl, (cut_start w s).2.2⟩
  case round =>
    obtain ⟨f, p, st, vl, vs, hk, hc, hinv, hf, hp3, HG, hbw⟩ := hrel
    have hB1 : Hid (Below w.heap.size w wr) := ((Below.refl _ _).alloc (Nat.le_refl _) _).trans (hbw.mono (by omega))
    have hwsz : w.heap.size < wr.heap.size := by have := hbw.size; rw [size_alloc1] at this; omega
    have g0 : wr.cell? ⟨w.heap.size, 0, none⟩ = some (.int .i64 0) := by rw [below_cell' hbw _ _ (by omega), World.cell?_alloc_at (hn := rfl)]; rfl
    have g1 : wr.cell? ⟨w.heap.size, 1, none⟩ = some (.int .i64 0) := by rw [below_cell' hbw _ _ (by omega), World.cell?_alloc_at (hn := rfl)]; rfl
    have g2 : wr.cell? ⟨w.heap.size, 2, none⟩ = some (.int .i64 0) := by rw [below_cell' hbw _ _ (by omega), World.cell?_alloc_at (hn := rfl)]; rfl
    have gf : ∀ i, wr.frozen? ⟨w.heap.size, i, none⟩ = false := fun i => by rw [hbw.frozen (p := ⟨w.heap.size, i, none⟩) (by simp), World.frozen?_alloc_at (hn := rfl)]
    have HBw := hide hbw
    have HInv := hide hinv
    have HK := hide hk
    have HC := hide hc
    clear hbw hinv hk hc
    by_cases hlt : p < s.size
    · obtain ⟨f, rfl⟩ : ∃ g, f = g + 1 := ⟨f - 1, by omega⟩
      have hw := Lib.decode_width_pos s p hlt
      have HSt : Hid (cutGo s (f + 1) p st = if badB s p then .inr (st.ln, st.col) else cutGo s f (p + (Utf8.decode s p).2) (takeS s p (Utf8.decode s p).1 st)) := by simp [Hid, cutGo, hlt]
      have nx := fun ty => Lib.run_next_any_at (P := Tryd.prog) wr (w.heap.size + 1 + 1) s p ty HK.out hlt
      have HCi := hide (HC.out.iterAt HK.out (p + (Utf8.decode s p).2))
      have HKi := hide (Lib.iterAt_heap wr (w.heap.size + 1 + 1) s p (p + (Utf8.decode s p).2) HK.out)
      cases hbad : badB s p
      · have HG' : Hid (cutGo s f (p + (Utf8.decode s p).2) (takeS s p (Utf8.decode s p).1 st) = cutGo s s.size 0 cs0) := by rw [← HG.out, HSt.out, hbad]; rfl
        have HInv' := hide (HInv.out.take (Utf8.decode s p).1 (Utf8.decode s p).2 hw hlt)
        have HTk := hide (take_any (w.heap.size + 1) s st vl vs p (Utf8.decode s p).1 (wr.iterAt (w.heap.size + 1 + 1) s (p + (Utf8.decode s p).2)) HCi.out HInv.out.b1 (by omega) (by have := HInv.out.k1; omega) (by have := HInv.out.k2; omega) HInv.out.l0 (by have := HInv.out.l1; omega) HInv.out.o0 (by have := HInv.out.o1; omega))
        have hp4 := decode_room s p hlt
        have HBi : Hid (Below (w.heap.size + 1) (w.alloc (.cells #[.int .i64 0, .int .i64 0, .int .i64 0] 116)) (wr.iterAt (w.heap.size + 1 + 1) s (p + (Utf8.decode s p).2))) := Lib.below_iterAt HBw.out (by omega) s _
        have hpre := extr_end s p
        have HPre := hide (hasPrefix_any (s.extract p s.size) (wr.iterAt (w.heap.size + 1 + 1) s (p + (Utf8.decode s p).2)) (extr_len s p hs))
        rw [hpre] at HPre
        have hps : (p : Int) ≤ (s.size : Int) := by omega
        clear HSt HG hpre HInv HC HBw
        generalize hdec : Utf8.decode s p = d at *
        obtain ⟨r, n⟩ := d
        simp only at *
        by_cases hr : r = 65533
        · have hpb : preB (s.data.toList.drop p) = true := by simpa [badB, hdec, hr] using hbad
          rw [hpb] at HPre
          subst hr
          clear hbad hpb hdec
          go_wp2_with fail
          refine (unhide HPre).mono ?_
          rintro e w' ⟨rfl, hw'⟩
          obtain rfl := hw'.symm
          go_wp2_with fail
          refine (unhide HTk).mono ?_
          rintro e w2 ⟨rfl, ⟨vl2, vs2, hc2⟩, hfr⟩
          go_wp2_with fail
          go_roundw
          case rel => exact ⟨f, p + n, _, vl2, vs2, hfr.iter _ _ _ HKi.out, hc2, HInv'.out, by omega, by omega, HG', HBi.out.trans hfr.below⟩
          case measure =>
            show s.size - w2.iterPos _ < s.size - wr.iterPos _
            rw [iterPos_eq (hfr.iter _ _ _ HKi.out), iterPos_eq HK.out]
            omega
        · have hr' : ((r : Int) == 65533) = false := by simp; omega
          clear hbad HPre hdec hr
          go_wp2_with fail
          refine (unhide HTk).mono ?_
          rintro e w2 ⟨rfl, ⟨vl2, vs2, hc2⟩, hfr⟩
          go_wp2_with fail
          go_roundw
          case rel => exact ⟨f, p + n, _, vl2, vs2, hfr.iter _ _ _ HKi.out, hc2, HInv'.out, by omega, by omega, HG', HBi.out.trans hfr.below⟩
          case measure =>
            show s.size - w2.iterPos _ < s.size - wr.iterPos _
            rw [iterPos_eq (hfr.iter _ _ _ HKi.out), iterPos_eq HK.out]
            omega
      · have hgo : cutGo s s.size 0 cs0 = .inr (st.ln, st.col) := by rw [← HG.out, HSt.out, hbad]; rfl
        have HGo := hide hgo
        have hb2 : (Utf8.decode s p).1 = 65533 ∧ preB (s.data.toList.drop p) = false := by simpa [badB] using hbad
        obtain ⟨hr, hpb⟩ := hb2
        have HPre := hide (hasPrefix_any (s.extract p s.size) (wr.iterAt (w.heap.size + 1 + 1) s (p + (Utf8.decode s p).2)) (extr_len s p hs))
        rw [extr_end s p, hpb] at HPre
        have HBi : Hid (Below w.heap.size w (wr.iterAt (w.heap.size + 1 + 1) s (p + (Utf8.decode s p).2))) := Lib.below_iterAt hB1.out (by omega) s _
        have hbo := fun (n : Nat) (h : n ≠ w.heap.size + 1 + 1) => Lib.iterAt_other wr (w.heap.size + 1 + 1) n s (p + (Utf8.decode s p).2) h
        have c1 := HCi.out.c1
        have c2 := HCi.out.c2
        have j0 := (World.cell?_of_block (a := ⟨w.heap.size, 0, none⟩) (hbo w.heap.size (by omega))).trans g0
        have j1 := (World.cell?_of_block (a := ⟨w.heap.size, 1, none⟩) (hbo w.heap.size (by omega))).trans g1
        have j2 := (World.cell?_of_block (a := ⟨w.heap.size, 2, none⟩) (hbo w.heap.size (by omega))).trans g2
        have jf : ∀ i, (wr.iterAt (w.heap.size + 1 + 1) s (p + (Utf8.decode s p).2)).frozen? ⟨w.heap.size, i, none⟩ = false := fun i => (World.frozen?_of_block (a := ⟨w.heap.size, i, none⟩) (hbo w.heap.size (by omega))).trans (gf i)
        have hps : (p : Int) ≤ (s.size : Int) := by omega
        clear HG HSt hbad hpb hgo hbo HInv HK HC HBw HKi HCi g0 g1 g2 gf
        generalize hdec : Utf8.decode s p = d at *
        obtain ⟨r, n⟩ := d
        simp only at *
        subst hr
        generalize wr.iterAt (w.heap.size + 1 + 1) s (p + n) = wi at *
        go_wp2_with fail
        refine (unhide HPre).mono ?_
        rintro e w' ⟨rfl, hw'⟩
        obtain rfl := hw'.symm
        go_wp2_with fail
        refine still_tail 4 (by kernel_rfl) (by kernel_rfl) ?_
        simp only [List.take_succ_cons, List.take_zero, List.drop_succ_cons, List.drop_zero]
        repeat still_step
        refine wpStill_nil ?_
        go_wp2_with fail
        refine bodyPost_ret (v := .tuple #[.slice none 0 0, .agg #[.int .i64 st.ln, .int .i64 st.col, .int .i64 3]]) (by simp [results, Tryd.results123, go_sem, j0, j1, j2]) rfl ⟨?_, .inr ⟨st.ln, st.col, HGo.out, rfl⟩⟩
        exact (((HBi.out.setCell (Nat.le_refl _) _).setCell (Nat.le_refl _) _).setCell (Nat.le_refl _) _).drew
    · have ne := fun ty => Lib.run_next_end_at (P := Tryd.prog) wr (w.heap.size + 1 + 1) s p ty HK.out hlt
      have hgo : cutGo s s.size 0 cs0 = .inl st := by rw [← HG.out]; cases f <;> simp [cutGo, hlt]
      have HGo := hide hgo
      have HE := hide (endLine_any (w.heap.size + 1) s st vl vs s.size wr HC.out HInv.out.b2 (Nat.le_refl _) (by have := HInv.out.k1; omega) (by have := HInv.out.k2; omega) HInv.out.l0 (by have := HInv.out.l1; omega))
      clear HG HK hgo
      go_wp2_with fail
      refine (unhide HE).mono ?_
      rintro e w2 ⟨rfl, ⟨vl2, vs2, hc2⟩, hfr⟩
      have c8 := hc2.c8
      have j0 : w2.cell? ⟨w.heap.size, 0, none⟩ = some (.int .i64 0) := by rw [below_cell' hfr.below _ _ (by omega)]; exact g0
      have j1 : w2.cell? ⟨w.heap.size, 1, none⟩ = some (.int .i64 0) := by rw [below_cell' hfr.below _ _ (by omega)]; exact g1
      have j2 : w2.cell? ⟨w.heap.size, 2, none⟩ = some (.int .i64 0) := by rw [below_cell' hfr.below _ _ (by omega)]; exact g2
      have jf : ∀ i, w2.frozen? ⟨w.heap.size, i, none⟩ = false := fun i => by rw [hfr.below.frozen (p := ⟨w.heap.size, i, none⟩) (by simp)]; exact gf i
      have HB2 : Hid (Below w.heap.size w w2) := hB1.out.trans (hfr.below.mono (by omega))
      have HC2 := hide hc2
      clear hfr hc2 g0 g1 g2 gf
      go_wp2_with fail
      refine bodyPost_ret (v := .tuple #[vs2, .agg #[.int .i64 0, .int .i64 0, .int .i64 0]]) (by simp [results, Tryd.results123, go_sem, j0, j1, j2]) rfl ⟨?_, .inl ⟨st, vs2, vl2, HGo.out, ?_, rfl⟩⟩
      · exact ((HB2.out.setCell (Nat.le_refl _) _).setCell (Nat.le_refl _) _).setCell (Nat.le_refl _) _
      · exact lines_set' (by omega) (lines_set' (by omega) (lines_set' (by omega) HC2.out.ls))
end Go.Proofs.YtmmflekajbeamaaDoor
