/-
  The cutter: how it lies in memory, and what the end of a token does to it.
  The cutter: the end of a line.
-/
import Derived.Test.YtmmflekajbeamaaDoorP04
import Derived.Test.YtmmflekajbeamaaDoorP05
import Derived.Deep.AppendLies
namespace Go.Proofs.YtmmflekajbeamaaDoor
open Go.RowKit

/-- A token: its text, the place of its first character, the place behind its last. -/
structure Tok where
  text : ByteArray
  fl : Int
  fc : Int
  bl : Int
  bc : Int
def tokC (t : Tok) : List Value := [.string t.text, .int .i64 t.fl, .int .i64 t.fc, .int .i64 t.bl, .int .i64 t.bc]
def tokCs (l : List Tok) : List Value := l.flatMap tokC
theorem tokCs_snoc (l : List Tok) (t : Tok) : tokCs (l ++ [t]) = tokCs l ++ tokC t := by simp [tokCs]

/-- The cutter's numbers and lists. -/
structure CS where
  ln : Int
  col : Int
  beg : Int
  fl : Int
  fc : Int
  rem : Bool
  line : List Tok
  lines : List (List Tok)

def ToksAt (w : World) (B : Nat) (v : Value) (l : List Tok) : Prop := w.ownsRow B 209 5 v l.length (tokCs l)
/-- The lines, each a list of tokens in a row of its own; none of these rows is that of 'vl'. -/
def LinesAt (w : World) (B : Nat) (v vl : Value) (ls : List (List Tok)) : Prop :=
  ∃ vs : List Value, w.ownsRow B 177 1 v ls.length vs ∧ ∀ (i : Nat) (l : List Tok), ls[i]? = some l → ∃ x, vs[i]? = some x ∧ ToksAt w B x l ∧ (∀ g, x.ownBlock = some g → vl.ownBlock ≠ some g)

/-- The cutter in block N. -/
structure CutAt (N : Nat) (s : ByteArray) (st : CS) (vl vs : Value) (w : World) : Prop where
  c0 : w.cell? ⟨N, 0, none⟩ = some (.string s)
  c1 : w.cell? ⟨N, 1, none⟩ = some (.int .i64 st.ln)
  c2 : w.cell? ⟨N, 2, none⟩ = some (.int .i64 st.col)
  c3 : w.cell? ⟨N, 3, none⟩ = some (.int .i64 st.beg)
  c4 : w.cell? ⟨N, 4, none⟩ = some (.int .i64 st.fl)
  c5 : w.cell? ⟨N, 5, none⟩ = some (.int .i64 st.fc)
  c6 : w.cell? ⟨N, 6, none⟩ = some (.bool st.rem)
  c7 : w.cell? ⟨N, 7, none⟩ = some vl
  c8 : w.cell? ⟨N, 8, none⟩ = some vs
  fz : ∀ i, w.frozen? ⟨N, i, none⟩ = false
  ln : ToksAt w (N + 1) vl st.line
  ls : LinesAt w (N + 1) vs vl st.lines

theorem ownsRow_keep {w w' : World} {B : Nat} {e : TypeId} {k : Nat} {v : Value} {n : Nat} {xs : List Value} (h : w.ownsRow B e k v n xs) (hk : ∀ g, v.ownBlock = some g → w'.heap[g]? = w.heap[g]?) : w'.ownsRow B e k v n xs := by
  refine ⟨h.1, ?_⟩
  rcases h.2 with h0 | ⟨g, cap, cur, rfl, hb, hg, h1, h2, h3, h4⟩
  · exact .inl h0
  · exact .inr ⟨g, cap, cur, rfl, hb, by rw [hk g rfl]; exact hg, h1, h2, h3, h4⟩

theorem info127 : ∃ i, Tryd.prog.info? 209 = some i ∧ i.zero = some (.agg #[.string ⟨#[]⟩, .int .i64 0, .int .i64 0, .int .i64 0, .int .i64 0]) ∧ i.size = 5 ∧ i.bytes = 48 := by
  have h : (Tryd.prog.info? 209).map (fun i => (i.zero, i.size, i.bytes)) = some (some (.agg #[.string ⟨#[]⟩, .int .i64 0, .int .i64 0, .int .i64 0, .int .i64 0]), 5, 48) := by kernel_rfl
  cases hq : Tryd.prog.info? 209 with
  | none => rw [hq] at h; cases h
  | some i =>
    rw [hq] at h
    simp only [Option.map_some, Option.some.injEq, Prod.mk.injEq] at h
    exact ⟨i, rfl, h.1, h.2.1, h.2.2⟩

def endTokS (s : ByteArray) (i : Nat) (st : CS) : CS :=
  if 0 ≤ st.beg then { st with line := st.line ++ [⟨s.extract st.beg.toNat i, st.fl, st.fc, st.ln, st.col⟩], beg := -1 } else st

theorem cellD (w : World) (o : Obj) {N : Nat} (hN : N < w.heap.size) (j : Nat) : ((w.alloc o).drew).cell? ⟨N, j, none⟩ = w.cell? ⟨N, j, none⟩ := World.cell?_of_block (Below.heap_alloc w o N hN)
/-- Nothing below N turns, no iterator turns. -/
structure Fr (N : Nat) (w w' : World) : Prop where
  below : Below N w w'
  iter : ∀ (k : Nat) (it : ByteArray) (p : Nat), w.heap[k]? = some (.stringIter it p) → w'.heap[k]? = some (.stringIter it p)
theorem Fr.refl (N : Nat) (w : World) : Fr N w w := ⟨Below.refl _ _, fun _ _ _ h => h⟩
theorem Fr.trans {N : Nat} {a b c : World} (h : Fr N a b) (k : Fr N b c) : Fr N a c := ⟨h.below.trans k.below, fun i it p e => k.iter i it p (h.iter i it p e)⟩
theorem Fr.drew {N : Nat} {a b : World} (h : Fr N a b) : Fr N a b.drew := ⟨h.below.drew, h.iter⟩
theorem Fr.alloc {N : Nat} {a b : World} (h : Fr N a b) (hN : N ≤ b.heap.size) (o : Obj) : Fr N a (b.alloc o) :=
  ⟨h.below.alloc hN o, fun i it p e => by
    have := h.iter i it p e
    rw [Below.heap_alloc b o i (Array.getElem?_eq_some_iff.1 this).1]; exact this⟩
theorem Fr.setCell {N : Nat} {a b : World} (h : Fr N a b) {n i : Nat} (hn : N ≤ n) (hc : ∃ c t fr, b.heap[n]? = some (.cells c t fr)) (v : Value) : Fr N a (b.setCell ⟨n, i, none⟩ v) :=
  ⟨h.below.setCell hn v, fun k it p e => by
    have := h.iter k it p e
    rw [heap_setCell_other b ⟨n, i, none⟩ k v (by
      intro hk
      obtain ⟨c, t, fr, hc⟩ := hc
      subst hk
      rw [this] at hc
      cases hc)]
    exact this⟩
theorem Fr.grown {N : Nat} {a b c : World} {row : Option Nat} (h : Fr N a b) (hg : b.grownBy c row) (hr : ∀ k, row = some k → N ≤ k ∧ ∃ cs t fr, b.heap[k]? = some (.cells cs t fr)) (hN : N ≤ b.heap.size) : Fr N a c :=
  ⟨h.below.grown hg hN (fun k hk => (hr k hk).1), fun k it p e => by
    have := h.iter k it p e
    rw [hg.block k (Array.getElem?_eq_some_iff.1 this).1 (fun e2 => by
      obtain ⟨_, cs, t, fr, hc⟩ := hr k e2.symm
      rw [this] at hc
      cases hc)]
    exact this⟩
theorem ownsRow_cells {w : World} {B : Nat} {e : TypeId} {k : Nat} {v : Value} {n : Nat} {xs : List Value} (h : w.ownsRow B e k v n xs) : ∀ g, v.ownBlock = some g → B ≤ g ∧ ∃ cs t fr, w.heap[g]? = some (.cells cs t fr) := by
  intro g hg
  rcases h.2 with ⟨rfl, _⟩ | ⟨g', cap, cur, rfl, hb, hc, _⟩
  · cases hg
  · cases hg
    exact ⟨hb, cur, e, (0, 0), hc⟩
theorem ownsRow_kind {w : World} {B : Nat} {e : TypeId} {k : Nat} {v : Value} {n : Nat} {xs : List Value} (h : w.ownsRow B e k v n xs) : ∀ g, v.ownBlock = some g → ∃ cur, w.heap[g]? = some (.cells cur e (0, 0)) := by
  intro g hg
  rcases h.2 with ⟨rfl, _⟩ | ⟨g', cap, cur, rfl, hb, hc, _⟩
  · cases hg
  · cases hg
    exact ⟨cur, hc⟩
theorem cells_of_cell {w : World} {n i : Nat} {v : Value} (h : w.cell? ⟨n, i, none⟩ = some v) : ∃ c t fr, w.heap[n]? = some (.cells c t fr) := by
  unfold World.cell? at h
  cases hq : w.heap[n]? with
  | none => simp [hq] at h
  | some o => cases o <;> simp_all

theorem cell_of_rows {w : World} {N i j : Nat} {v u : Value} (hN : w.cell? ⟨N, j, none⟩ = some u) (h : j ≠ i) : (w.setCell ⟨N, i, none⟩ v).cell? ⟨N, j, none⟩ = some u := by
  obtain ⟨c, t, fr, hc⟩ := cells_of_cell hN
  rw [cell_of_row w N j c t fr hc] at hN
  rw [setCell_eq_setRow w N i c t fr v hc, cell_of_row _ N j _ t fr (setRow_heap w N c _ t fr hc)]
  rw [Array.getElem?_setIfInBounds_ne (fun e => h e.symm)]
  exact hN
theorem cell_set_same {w : World} {N i : Nat} {v u : Value} (hN : w.cell? ⟨N, i, none⟩ = some u) : (w.setCell ⟨N, i, none⟩ v).cell? ⟨N, i, none⟩ = some v := by
  obtain ⟨c, t, fr, hc⟩ := cells_of_cell hN
  rw [cell_of_row w N i c t fr hc] at hN
  rw [setCell_eq_setRow w N i c t fr v hc, cell_of_row _ N i _ t fr (setRow_heap w N c _ t fr hc)]
  rw [Array.getElem?_setIfInBounds_self_of_lt (Array.getElem?_eq_some_iff.1 hN).1]
theorem heap_set_other (w : World) {N i g : Nat} (v : Value) (h : g ≠ N) : (w.setCell ⟨N, i, none⟩ v).heap[g]? = w.heap[g]? := heap_setCell_other w ⟨N, i, none⟩ g v h
theorem linesAt_keep {w w' : World} {B : Nat} {v vl vl' : Value} {ls : List (List Tok)} (h : LinesAt w B v vl ls)
    (h1 : ∀ g, B ≤ g → vl.ownBlock ≠ some g → g < w.heap.size → w'.heap[g]? = w.heap[g]?) (hv : ∀ g, v.ownBlock = some g → vl.ownBlock ≠ some g)
    (h2 : ∀ g, vl'.ownBlock = some g → vl.ownBlock = some g ∨ w.heap.size ≤ g) : LinesAt w' B v vl' ls := by
  obtain ⟨vs, ho, hl⟩ := h
  have lt : ∀ {e k x n xs}, w.ownsRow B e k x n xs → ∀ g, x.ownBlock = some g → B ≤ g ∧ g < w.heap.size := fun ho g hg => by
    obtain ⟨hb, c, t, fr, hc⟩ := ownsRow_cells ho g hg
    exact ⟨hb, (Array.getElem?_eq_some_iff.1 hc).1⟩
  refine ⟨vs, ownsRow_keep ho (fun g hg => h1 g (lt ho g hg).1 (hv g hg) (lt ho g hg).2), fun i l hi => ?_⟩
  obtain ⟨x, hx, ht, hd⟩ := hl i l hi
  refine ⟨x, hx, ownsRow_keep ht (fun g hg => h1 g (lt ht g hg).1 (hd g hg) (lt ht g hg).2), fun g hg e => ?_⟩
  rcases h2 g e with h3 | h3
  · exact hd g hg h3
  · have := (lt ht g hg).2; omega

theorem endTok_post (N : Nat) (s : ByteArray) (st : CS) (vl vs : Value) (i b : Nat) (w : World) (h : CutAt N s st vl vs w) (hb : st.beg = b) (g cap : Nat) (w1 : World)
    (ho : w1.ownsRow (N + 1) 209 5 (.slice (some ⟨g, 0, none⟩) (st.line.length + 1) cap) (st.line.length + 1) (tokCs st.line ++ tokC ⟨s.extract b i, st.fl, st.fc, st.ln, st.col⟩))
    (hg : ((w.alloc (.cells #[.string (s.extract b i), .int .i64 st.fl, .int .i64 st.fc, .int .i64 st.ln, .int .i64 st.col] 209)).drew).grownBy w1 vl.ownBlock)
    (ha : vl.ownBlock = some g ∨ g = w.heap.size + 1) :
    CutAt N s (endTokS s i st) (.slice (some ⟨g, 0, none⟩) (st.line.length + 1) cap) vs ((w1.setCell ⟨N, 7, none⟩ (.slice (some ⟨g, 0, none⟩) (st.line.length + 1) cap)).setCell ⟨N, 3, none⟩ (.int .i64 (-1))) ∧
    Fr N w ((w1.setCell ⟨N, 7, none⟩ (.slice (some ⟨g, 0, none⟩) (st.line.length + 1) cap)).setCell ⟨N, 3, none⟩ (.int .i64 (-1))) := by
  have hNlt : N < w.heap.size := by obtain ⟨c, t, fr, hc⟩ := cells_of_cell h.c0; exact (Array.getElem?_eq_some_iff.1 hc).1
  have hNb : some N ≠ vl.ownBlock := fun e => by have := (ownsRow_cells h.ln N e.symm).1; omega
  have hsz : ((w.alloc (.cells #[.string (s.extract b i), .int .i64 st.fl, .int .i64 st.fc, .int .i64 st.ln, .int .i64 st.col] 209)).drew).heap.size = w.heap.size + 1 := size_alloc1 _ _
  have hold : ∀ k, k < w.heap.size → some k ≠ vl.ownBlock → w1.heap[k]? = w.heap[k]? := fun k hk hn => (hg.block k (by rw [hsz]; omega) hn).trans (Below.heap_alloc w _ k hk)
  have hN1 : w1.heap[N]? = w.heap[N]? := hold N hNlt hNb
  have k1 : ∀ j, w1.cell? ⟨N, j, none⟩ = w.cell? ⟨N, j, none⟩ := fun j => World.cell?_of_block hN1
  have k2 : ∀ j, w1.frozen? ⟨N, j, none⟩ = w.frozen? ⟨N, j, none⟩ := fun j => World.frozen?_of_block hN1
  have hgN : g ≠ N := by have := (ownsRow_cells ho g rfl).1; omega
  have e : endTokS s i st = { st with line := st.line ++ [⟨s.extract b i, st.fl, st.fc, st.ln, st.col⟩], beg := -1 } := by
    unfold endTokS; rw [if_pos (by omega), hb, Int.toNat_natCast]
  generalize hv : Value.slice (some ⟨g, 0, none⟩) (st.line.length + 1) cap = v at *
  have hvb : v.ownBlock = some g := by rw [← hv]; rfl
  have hh : ∀ k, k ≠ N → ((w1.setCell ⟨N, 7, none⟩ v).setCell ⟨N, 3, none⟩ (.int .i64 (-1))).heap[k]? = w1.heap[k]? := fun k hk => (heap_set_other _ _ hk).trans (heap_set_other _ _ hk)
  have cc : ∀ j u, j ≠ 7 → j ≠ 3 → w.cell? ⟨N, j, none⟩ = some u → ((w1.setCell ⟨N, 7, none⟩ v).setCell ⟨N, 3, none⟩ (.int .i64 (-1))).cell? ⟨N, j, none⟩ = some u := fun j u h7 h3 hc =>
    cell_of_rows (cell_of_rows ((k1 j).trans hc) h7) h3
  have c7 : (w1.setCell ⟨N, 7, none⟩ v).cell? ⟨N, 7, none⟩ = some v := cell_set_same ((k1 7).trans h.c7)
  have c3 : (w1.setCell ⟨N, 7, none⟩ v).cell? ⟨N, 3, none⟩ = some (.int .i64 st.beg) := cell_of_rows ((k1 3).trans h.c3) (by decide)
  rw [e]
  refine ⟨⟨cc 0 _ (by decide) (by decide) h.c0, cc 1 _ (by decide) (by decide) h.c1, cc 2 _ (by decide) (by decide) h.c2, cell_set_same c3, cc 4 _ (by decide) (by decide) h.c4, cc 5 _ (by decide) (by decide) h.c5, cc 6 _ (by decide) (by decide) h.c6,
    cell_of_rows c7 (by decide), cc 8 _ (by decide) (by decide) h.c8, fun j => by rw [World.frozen?_setCell, World.frozen?_setCell, k2]; exact h.fz j, ?_, ?_⟩, ?_⟩
  · show World.ownsRow _ _ _ _ _ _ _
    rw [tokCs_snoc, List.length_append, List.length_singleton]
    exact ownsRow_keep ho (fun k hk => by
      rw [hvb] at hk; cases hk
      exact hh g hgN)
  · refine linesAt_keep h.ls (fun k hk hn hlt => (hh k (by omega)).trans (hold k hlt (fun e => hn e.symm))) (fun k hk e2 => ?_) (fun k hk => ?_)
    · obtain ⟨vs', ho', _⟩ := h.ls
      have t1 := ownsRow_kind ho' k hk
      have t2 := ownsRow_kind h.ln k e2
      obtain ⟨c1, t1⟩ := t1
      obtain ⟨c2, t2⟩ := t2
      rw [t1] at t2
      cases t2
    · rw [hvb] at hk; cases hk
      rcases ha with ha | ha
      · exact .inl ha
      · right; omega
  · have f1 : Fr N w ((w.alloc (.cells #[.string (s.extract b i), .int .i64 st.fl, .int .i64 st.fc, .int .i64 st.ln, .int .i64 st.col] 209)).drew) := ((Fr.refl N w).alloc (by omega) _).drew
    have f2 := f1.grown hg (fun k hk => by
      obtain ⟨hb', c, t, fr, hc⟩ := ownsRow_cells h.ln k hk
      refine ⟨by omega, c, t, fr, ?_⟩
      exact (Below.heap_alloc w _ k (Array.getElem?_eq_some_iff.1 hc).1).trans hc) (by rw [hsz]; omega)
    have hcN : ∃ c t fr, w1.heap[N]? = some (.cells c t fr) := by
      obtain ⟨c, t, fr, hc⟩ := cells_of_cell h.c0
      exact ⟨c, t, fr, hN1.trans hc⟩
    exact (f2.setCell (Nat.le_refl _) hcN _).setCell (Nat.le_refl _) (cells_of_cell c7) _

set_option maxRecDepth 100000 in
set_option maxHeartbeats 2000000 in
theorem endToken_yes (N : Nat) (s : ByteArray) (st : CS) (vl vs : Value) (i b : Nat) (w : World) (h : CutAt N s st vl vs w) (hb : st.beg = b) (hbi : b ≤ i) (hi : i ≤ s.size) (hlen : st.line.length ≤ 5000) :
    Calls Tryd.prog 171 #[.pointer (some ⟨N, 0, none⟩), .int .i64 i] w fun e' w' => e' = .returned (.tuple #[]) ∧ (∃ vl', CutAt N s (endTokS s i st) vl' vs w') ∧ Fr N w w' := by
  have hblk := cells_of_cell h.c0
  have hNlt : N < w.heap.size := by obtain ⟨c, t, fr, hc⟩ := hblk; exact (Array.getElem?_eq_some_iff.1 hc).1
  have HH := hide h
  obtain ⟨c0, c1, c2, c3, c4, c5, c6, c7, c8, fz, hln, hls⟩ := h
  have HLn := hide hln
  clear hln hls hblk
  rw [hb] at c3
  have hb0 : (0 : Int) ≤ (b : Int) := by omega
  have hbi' : (b : Int) ≤ (i : Int) := by omega
  have hi' : (i : Int) ≤ (s.size : Int) := by omega
  obtain ⟨inf, hinf, hz, hsz, hby⟩ := info127
  have HInf := hide hinf; have HZ := hide hz; have HSz := hide hsz; have HBy := hide hby
  clear hinf hz hsz hby
  have HBeg := hide hb
  clear hb
  have hown0 : ((w.alloc (.cells #[.string (s.extract b i), .int .i64 st.fl, .int .i64 st.fc, .int .i64 st.ln, .int .i64 st.col] 209)).drew).ownsRow (N + 1) 209 5 vl st.line.length (tokCs st.line) :=
    ownsRow_keep HLn.out (fun g hg => Below.heap_alloc w _ g (by obtain ⟨_, c, t, fr, hc⟩ := ownsRow_cells HLn.out g hg; exact (Array.getElem?_eq_some_iff.1 hc).1))
  have HO := hide hown0
  clear hown0
  have HNb : Hid (some N ≠ vl.ownBlock) := fun e => by
    have := (ownsRow_cells HLn.out N e.symm).1
    omega
  have HK : Hid (∀ w1, ((w.alloc (.cells #[.string (s.extract b i), .int .i64 st.fl, .int .i64 st.fc, .int .i64 st.ln, .int .i64 st.col] 209)).drew).grownBy w1 vl.ownBlock → (∀ j, w1.cell? ⟨N, j, none⟩ = w.cell? ⟨N, j, none⟩) ∧ ∀ j, w1.frozen? ⟨N, j, none⟩ = false) := fun w1 hg =>
    ⟨fun j => by
      rw [hg.cell_far ⟨N, j, none⟩ (by show N < (w.alloc _).heap.size; rw [size_alloc1]; omega) HNb.out]
      exact World.cell?_of_block (Below.heap_alloc w _ N hNlt),
     fun j => by
      rw [hg.frozen_far ⟨N, j, none⟩ (by show N < (w.alloc _).heap.size; rw [size_alloc1]; omega) HNb.out]
      exact (World.frozen?_of_block (w := w) (Below.heap_alloc w _ N hNlt)).trans (fz j)⟩
  go_enter Tryd.func171, Tryd.ntmps171
  go_wp2_with fail
  refine held_tail 24 2 (fun w' => w'.cell? ⟨N, 0, none⟩ = some (.string s) ∧ w'.cell? ⟨N, 1, none⟩ = some (.int .i64 st.ln) ∧ w'.cell? ⟨N, 2, none⟩ = some (.int .i64 st.col) ∧ w'.cell? ⟨N, 3, none⟩ = some (.int .i64 b) ∧ w'.cell? ⟨N, 4, none⟩ = some (.int .i64 st.fl) ∧ w'.cell? ⟨N, 5, none⟩ = some (.int .i64 st.fc) ∧ w'.cell? ⟨N, 7, none⟩ = some vl) (by kernel_rfl) (by kernel_rfl) (fun d _ _ _ _ h => by cases d <;> exact h) ⟨c0, c1, c2, c3, c4, c5, c7⟩ ?_
  simp only [List.take_succ_cons, List.take_zero, List.drop_succ_cons, List.drop_zero]
  iterate 24
    refine wpTake_step ?_ rfl ?_ ?_
    rotate_left
    · rintro w' ⟨d0, d1, d2, d3, d4, d5, d7⟩
      go_simp
      rfl
    go_simp
  refine wpTake_nil ?_
  refine wpTail_step rfl (fun K hK => ?_)
  go_simp
  refine hK _ _ ⟨(cellD w _ hNlt 0).trans c0, (cellD w _ hNlt 1).trans c1, (cellD w _ hNlt 2).trans c2, (cellD w _ hNlt 3).trans c3, (cellD w _ hNlt 4).trans c4, (cellD w _ hNlt 5).trans c5, (cellD w _ hNlt 7).trans c7⟩ ?_
  clear hK K
  refine wpTail_step rfl (fun K hK => ?_)
  refine wp_append_lies _ _ _ 177 rfl (N + 1) 209 inf _ 5 48 Tryd.underlying177 HInf.out HZ.out HSz.out HBy.out rfl (by decide) vl st.line.length (tokCs st.line) rfl HO.out ⟨w.heap.size, 0, none⟩ 1 1 (tokC ⟨s.extract b i, st.fl, st.fc, st.ln, st.col⟩) rfl rfl (World.news_of_block (_root_.Go.heap_alloc_new w _)) (fun u hu => by simp [tokC] at hu; rcases hu with rfl | rfl | rfl | rfl | rfl <;> rfl) (by decide) (by unfold maxLen; omega) (by omega) (by show N + 1 ≤ (w.alloc _).heap.size; rw [size_alloc1]; omega) (w.heap.size + 1) (by show (w.alloc _).heap.size = _; rw [size_alloc1]) ?_
  intro g cap w1 hown1 hgr hat hlt
  obtain ⟨k1, k2⟩ := HK.out w1 hgr
  refine hK _ _ ⟨(k1 0).trans c0, (k1 1).trans c1, (k1 2).trans c2, (k1 3).trans c3, (k1 4).trans c4, (k1 5).trans c5, (k1 7).trans c7⟩ ?_
  have HO1 := hide hown1; have HGr := hide hgr; have HAt := hide hat
  clear hown1 hgr hat hK K
  unfold wpTailS
  go_wp2_with fail
  go_end0
  exact ⟨rfl, ⟨_, (endTok_post N s st vl vs i b w HH.out HBeg.out g cap w1 HO1.out HGr.out HAt.out).1⟩, (endTok_post N s st vl vs i b w HH.out HBeg.out g cap w1 HO1.out HGr.out HAt.out).2⟩
end Go.Proofs.YtmmflekajbeamaaDoor

namespace Go.Proofs.YtmmflekajbeamaaDoor
open Go.RowKit

set_option maxRecDepth 100000 in
set_option maxHeartbeats 1000000 in
theorem endToken_no (N : Nat) (s : ByteArray) (st : CS) (vl vs : Value) (i : Nat) (w : World) (h : CutAt N s st vl vs w) (hb : st.beg < 0) :
    Calls Tryd.prog 171 #[.pointer (some ⟨N, 0, none⟩), .int .i64 i] w fun e' w' => e' = .returned (.tuple #[]) ∧ w' = w := by
  have c3 := h.c3
  have hb' : ¬ (0 : Int) ≤ st.beg := by omega
  clear h
  go_enter Tryd.func171, Tryd.ntmps171
  go_wp2
  go_end0
  exact ⟨rfl, rfl⟩

theorem endToken_any (N : Nat) (s : ByteArray) (st : CS) (vl vs : Value) (i : Nat) (w : World) (h : CutAt N s st vl vs w) (hbi : st.beg ≤ i) (hi : i ≤ s.size) (hlen : st.line.length ≤ 5000) :
    Calls Tryd.prog 171 #[.pointer (some ⟨N, 0, none⟩), .int .i64 i] w fun e' w' => e' = .returned (.tuple #[]) ∧ (∃ vl', CutAt N s (endTokS s i st) vl' vs w') ∧ Fr N w w' := by
  by_cases hb : 0 ≤ st.beg
  · obtain ⟨b, hb'⟩ := Int.eq_ofNat_of_zero_le hb
    exact endToken_yes N s st vl vs i b w h hb' (by omega) hi hlen
  · refine (endToken_no N s st vl vs i w h (by omega)).mono ?_
    rintro e w' ⟨rfl, rfl⟩
    refine ⟨rfl, ⟨vl, ?_⟩, Fr.refl _ _⟩
    have : endTokS s i st = st := by unfold endTokS; rw [if_neg hb]
    rw [this]; exact h

theorem info104 : ∃ i, Tryd.prog.info? 177 = some i ∧ i.zero = some (.slice none 0 0) ∧ i.size = 1 ∧ i.bytes = 24 := by
  have h : (Tryd.prog.info? 177).map (fun i => (i.zero, i.size, i.bytes)) = some (some (.slice none 0 0), 1, 24) := by kernel_rfl
  cases hq : Tryd.prog.info? 177 with
  | none => rw [hq] at h; cases h
  | some i =>
    rw [hq] at h
    simp only [Option.map_some, Option.some.injEq, Prod.mk.injEq] at h
    exact ⟨i, rfl, h.1, h.2.1, h.2.2⟩

def endLineS (s : ByteArray) (i : Nat) (st : CS) : CS :=
  { endTokS s i st with lines := st.lines ++ [(endTokS s i st).line], line := [], rem := false, ln := st.ln + 1, col := 1 }
theorem endTokS_lines (s : ByteArray) (i : Nat) (st : CS) : (endTokS s i st).lines = st.lines := by unfold endTokS; split <;> rfl
theorem endTokS_ln (s : ByteArray) (i : Nat) (st : CS) : (endTokS s i st).ln = st.ln := by unfold endTokS; split <;> rfl

/-- A list of tokens is a slice. -/
theorem slice_of {w : World} {B : Nat} {e : TypeId} {k : Nat} {v : Value} {n : Nat} {xs : List Value} (h : w.ownsRow B e k v n xs) : ∃ a m c, v = .slice a m c := by
  rcases h.2 with ⟨rfl, _⟩ | ⟨g, cap, cur, rfl, _⟩
  · exact ⟨_, _, _, rfl⟩
  · exact ⟨_, _, _, rfl⟩

theorem endLine_post (N : Nat) (s : ByteArray) (st : CS) (vl vs : Value) (w : World) (h : CutAt N s st vl vs w) (vsl : List Value) (hov : w.ownsRow (N + 1) 177 1 vs st.lines.length vsl)
    (hl : ∀ (i : Nat) (l : List Tok), st.lines[i]? = some l → ∃ x, vsl[i]? = some x ∧ ToksAt w (N + 1) x l ∧ (∀ g, x.ownBlock = some g → vl.ownBlock ≠ some g)) (g cap : Nat) (w1 : World)
    (ho : w1.ownsRow (N + 1) 177 1 (.slice (some ⟨g, 0, none⟩) (st.lines.length + 1) cap) (st.lines.length + 1) (vsl ++ [vl]))
    (hg : ((w.alloc (.cells #[vl] 177)).drew).grownBy w1 vs.ownBlock) :
    CutAt N s { st with lines := st.lines ++ [st.line], line := [], rem := false, ln := st.ln + 1, col := 1 } (.slice none 0 0) (.slice (some ⟨g, 0, none⟩) (st.lines.length + 1) cap)
      (((((w1.setCell ⟨N, 8, none⟩ (.slice (some ⟨g, 0, none⟩) (st.lines.length + 1) cap)).setCell ⟨N, 7, none⟩ (.slice none 0 0)).setCell ⟨N, 6, none⟩ (.bool false)).setCell ⟨N, 1, none⟩ (.int .i64 (st.ln + 1))).setCell ⟨N, 2, none⟩ (.int .i64 1)) ∧
    Fr N w (((((w1.setCell ⟨N, 8, none⟩ (.slice (some ⟨g, 0, none⟩) (st.lines.length + 1) cap)).setCell ⟨N, 7, none⟩ (.slice none 0 0)).setCell ⟨N, 6, none⟩ (.bool false)).setCell ⟨N, 1, none⟩ (.int .i64 (st.ln + 1))).setCell ⟨N, 2, none⟩ (.int .i64 1)) := by
  have hNlt : N < w.heap.size := by obtain ⟨c, t, fr, hc⟩ := cells_of_cell h.c0; exact (Array.getElem?_eq_some_iff.1 hc).1
  have hNb : some N ≠ vs.ownBlock := fun e => by have := (ownsRow_cells hov N e.symm).1; omega
  have hsz : ((w.alloc (.cells #[vl] 177)).drew).heap.size = w.heap.size + 1 := size_alloc1 _ _
  have hold : ∀ k, k < w.heap.size → some k ≠ vs.ownBlock → w1.heap[k]? = w.heap[k]? := fun k hk hn => (hg.block k (by rw [hsz]; omega) hn).trans (Below.heap_alloc w _ k hk)
  have hN1 : w1.heap[N]? = w.heap[N]? := hold N hNlt hNb
  have k1 : ∀ j, w1.cell? ⟨N, j, none⟩ = w.cell? ⟨N, j, none⟩ := fun j => World.cell?_of_block hN1
  have k2 : ∀ j, w1.frozen? ⟨N, j, none⟩ = w.frozen? ⟨N, j, none⟩ := fun j => World.frozen?_of_block hN1
  have hgN : g ≠ N := by have := (ownsRow_cells ho g rfl).1; omega
  generalize hv : Value.slice (some ⟨g, 0, none⟩) (st.lines.length + 1) cap = v at *
  have hvb : v.ownBlock = some g := by rw [← hv]; rfl
  have a8 := (k1 8).trans h.c8
  have a7 := (k1 7).trans h.c7
  have a6 := (k1 6).trans h.c6
  have a1 := (k1 1).trans h.c1
  have a2 := (k1 2).trans h.c2
  have hh : ∀ k, k ≠ N → (((((w1.setCell ⟨N, 8, none⟩ v).setCell ⟨N, 7, none⟩ (.slice none 0 0)).setCell ⟨N, 6, none⟩ (.bool false)).setCell ⟨N, 1, none⟩ (.int .i64 (st.ln + 1))).setCell ⟨N, 2, none⟩ (.int .i64 1)).heap[k]? = w1.heap[k]? := fun k hk => by
    rw [heap_set_other _ _ hk, heap_set_other _ _ hk, heap_set_other _ _ hk, heap_set_other _ _ hk, heap_set_other _ _ hk]
  have cc : ∀ j u, j ≠ 8 → j ≠ 7 → j ≠ 6 → j ≠ 1 → j ≠ 2 → w.cell? ⟨N, j, none⟩ = some u → (((((w1.setCell ⟨N, 8, none⟩ v).setCell ⟨N, 7, none⟩ (.slice none 0 0)).setCell ⟨N, 6, none⟩ (.bool false)).setCell ⟨N, 1, none⟩ (.int .i64 (st.ln + 1))).setCell ⟨N, 2, none⟩ (.int .i64 1)).cell? ⟨N, j, none⟩ = some u := fun j u h8 h7 h6 h1 h2 hc =>
    cell_of_rows (cell_of_rows (cell_of_rows (cell_of_rows (cell_of_rows ((k1 j).trans hc) h8) h7) h6) h1) h2
  have s1 := @cell_set_same w1 N 8 v _ a8
  have s2 := @cell_set_same (w1.setCell ⟨N, 8, none⟩ v) N 7 (.slice none 0 0) _ (cell_of_rows a7 (by decide))
  have s3 := @cell_set_same ((w1.setCell ⟨N, 8, none⟩ v).setCell ⟨N, 7, none⟩ (.slice none 0 0)) N 6 (.bool false) _ (cell_of_rows (cell_of_rows a6 (by decide)) (by decide))
  have s4 := @cell_set_same (((w1.setCell ⟨N, 8, none⟩ v).setCell ⟨N, 7, none⟩ (.slice none 0 0)).setCell ⟨N, 6, none⟩ (.bool false)) N 1 (.int .i64 (st.ln + 1)) _ (cell_of_rows (cell_of_rows (cell_of_rows a1 (by decide)) (by decide)) (by decide))
  have s5 := @cell_set_same ((((w1.setCell ⟨N, 8, none⟩ v).setCell ⟨N, 7, none⟩ (.slice none 0 0)).setCell ⟨N, 6, none⟩ (.bool false)).setCell ⟨N, 1, none⟩ (.int .i64 (st.ln + 1))) N 2 (.int .i64 1) _ (cell_of_rows (cell_of_rows (cell_of_rows (cell_of_rows a2 (by decide)) (by decide)) (by decide)) (by decide))
  refine ⟨⟨cc 0 _ (by decide) (by decide) (by decide) (by decide) (by decide) h.c0, cell_of_rows s4 (by decide), s5, cc 3 _ (by decide) (by decide) (by decide) (by decide) (by decide) h.c3, cc 4 _ (by decide) (by decide) (by decide) (by decide) (by decide) h.c4, cc 5 _ (by decide) (by decide) (by decide) (by decide) (by decide) h.c5,
    cell_of_rows (cell_of_rows s3 (by decide)) (by decide), cell_of_rows (cell_of_rows (cell_of_rows s2 (by decide)) (by decide)) (by decide), cell_of_rows (cell_of_rows (cell_of_rows (cell_of_rows s1 (by decide)) (by decide)) (by decide)) (by decide),
    fun j => by rw [World.frozen?_setCell, World.frozen?_setCell, World.frozen?_setCell, World.frozen?_setCell, World.frozen?_setCell, k2]; exact h.fz j, World.ownsRow_nil _ _ _ _, ?_⟩, ?_⟩
  · have lt : ∀ {e k x n xs}, w.ownsRow (N + 1) e k x n xs → ∀ g, x.ownBlock = some g → N + 1 ≤ g ∧ g < w.heap.size := fun ho g hg => by
      obtain ⟨hb, c, t, fr, hc⟩ := ownsRow_cells ho g hg
      exact ⟨hb, (Array.getElem?_eq_some_iff.1 hc).1⟩
    have kt : ∀ x l, ToksAt w (N + 1) x l → ToksAt (((((w1.setCell ⟨N, 8, none⟩ v).setCell ⟨N, 7, none⟩ (.slice none 0 0)).setCell ⟨N, 6, none⟩ (.bool false)).setCell ⟨N, 1, none⟩ (.int .i64 (st.ln + 1))).setCell ⟨N, 2, none⟩ (.int .i64 1)) (N + 1) x l := fun x l hx =>
      ownsRow_keep hx (fun k hk => (hh k (by have := (lt hx k hk).1; omega)).trans (hold k (lt hx k hk).2 (fun e => by
        obtain ⟨c1, t1⟩ := ownsRow_kind hov k e.symm
        obtain ⟨c2, t2⟩ := ownsRow_kind hx k hk
        rw [t1] at t2
        cases t2)))
    refine ⟨vsl ++ [vl], ?_, fun i l hi => ?_⟩
    · show World.ownsRow _ _ _ _ _ (st.lines ++ [st.line]).length _
      rw [List.length_append, List.length_singleton]
      exact ownsRow_keep ho (fun k hk => by rw [hvb] at hk; cases hk; exact hh g hgN)
    · have hlen : vsl.length = st.lines.length := by have := hov.1; omega
      rw [List.getElem?_append] at hi
      split at hi
      · rename_i hlt
        obtain ⟨x, hx, ht, _⟩ := hl i l hi
        exact ⟨x, by rw [List.getElem?_append_left (by omega)]; exact hx, kt x l ht, fun g' _ e => by cases e⟩
      · rename_i hge
        have hi0 : i - st.lines.length = 0 := by
          rcases Nat.eq_zero_or_pos (i - st.lines.length) with h0 | h0
          · exact h0
          · rw [List.getElem?_eq_none (by simp; omega)] at hi; cases hi
        rw [hi0] at hi
        simp at hi
        subst hi
        exact ⟨vl, by rw [List.getElem?_append_right (by omega), hlen, hi0]; rfl, kt vl _ h.ln, fun g' _ e => by cases e⟩
  · have f1 : Fr N w ((w.alloc (.cells #[vl] 177)).drew) := ((Fr.refl N w).alloc (by omega) _).drew
    have f2 := f1.grown hg (fun k hk => by
      obtain ⟨hb', c, t, fr, hc⟩ := ownsRow_cells hov k hk
      refine ⟨by omega, c, t, fr, ?_⟩
      exact (Below.heap_alloc w _ k (Array.getElem?_eq_some_iff.1 hc).1).trans hc) (by rw [hsz]; omega)
    exact ((((f2.setCell (Nat.le_refl _) (cells_of_cell a8) _).setCell (Nat.le_refl _) (cells_of_cell s1) _).setCell (Nat.le_refl _) (cells_of_cell s2) _).setCell (Nat.le_refl _) (cells_of_cell s3) _).setCell (Nat.le_refl _) (cells_of_cell s4) _

set_option maxRecDepth 100000 in
set_option maxHeartbeats 2000000 in
theorem endLine_any (N : Nat) (s : ByteArray) (st : CS) (vl vs : Value) (i : Nat) (w : World) (h : CutAt N s st vl vs w) (hbi : st.beg ≤ i) (hi : i ≤ s.size) (hlen : st.line.length ≤ 5000) (hlines : st.lines.length ≤ 5000) (l0 : 0 ≤ st.ln) (l1 : st.ln ≤ 100000) :
    Calls Tryd.prog 155 #[.pointer (some ⟨N, 0, none⟩), .int .i64 i] w fun e' w' => e' = .returned (.tuple #[]) ∧ (∃ vl' vs', CutAt N s (endLineS s i st) vl' vs' w') ∧ Fr N w w' := by
  have HT := hide (endToken_any N s st vl vs i w h hbi hi hlen)
  have e1 := endTokS_lines s i st
  have e2 := endTokS_ln s i st
  have HS : Hid (endLineS s i st = { endTokS s i st with lines := (endTokS s i st).lines ++ [(endTokS s i st).line], line := [], rem := false, ln := (endTokS s i st).ln + 1, col := 1 }) := by rw [Hid, endLineS, e1, e2]
  rw [← e1] at hlines
  rw [← e2] at l0 l1
  generalize endTokS s i st = st1 at *
  clear e1 e2 h hbi hi hlen
  obtain ⟨inf, hinf, hz, hsz, hby⟩ := info104
  have HInf := hide hinf; have HZ := hide hz; have HSz := hide hsz; have HBy := hide hby
  clear hinf hz hsz hby
  go_enter Tryd.func155, Tryd.ntmps155
  go_wp2_with fail
  refine (unhide HT).mono ?_
  rintro e w0 ⟨rfl, ⟨vl1, h⟩, hfr⟩
  have HFr := hide hfr
  clear hfr HT
  have hNlt : N < w0.heap.size := by obtain ⟨c, t, fr, hc⟩ := cells_of_cell h.c0; exact (Array.getElem?_eq_some_iff.1 hc).1
  have HH := hide h
  obtain ⟨c0, c1, c2, c3, c4, c5, c6, c7, c8, fz, hln, hls⟩ := h
  obtain ⟨vsl, hov, hl⟩ := hls
  obtain ⟨sa, sm, sc, rfl⟩ := slice_of hln
  have HOv := hide hov
  have HL := hide hl
  clear hln hov hl
  have hown0 : ((w0.alloc (.cells #[.slice sa sm sc] 177)).drew).ownsRow (N + 1) 177 1 vs st1.lines.length vsl :=
    ownsRow_keep HOv.out (fun g hg => Below.heap_alloc w0 _ g (by obtain ⟨_, c, t, fr, hc⟩ := ownsRow_cells HOv.out g hg; exact (Array.getElem?_eq_some_iff.1 hc).1))
  have HO := hide hown0
  clear hown0
  go_wp2_with fail
  refine held_tail 9 2 (fun w' => w'.cell? ⟨N, 7, none⟩ = some (.slice sa sm sc) ∧ w'.cell? ⟨N, 8, none⟩ = some vs) (by kernel_rfl) (by kernel_rfl) (fun d _ _ _ _ h => by cases d <;> exact h) ⟨c7, c8⟩ ?_
  simp only [List.take_succ_cons, List.take_zero, List.drop_succ_cons, List.drop_zero]
  iterate 9
    refine wpTake_step ?_ rfl ?_ ?_
    rotate_left
    · rintro w' ⟨d7, d8⟩
      go_simp
      rfl
    go_simp
  refine wpTake_nil ?_
  refine wpTail_step rfl (fun K hK => ?_)
  go_simp
  refine hK _ _ ⟨(cellD w0 _ hNlt 7).trans c7, (cellD w0 _ hNlt 8).trans c8⟩ ?_
  clear hK K
  refine wpTail_step rfl (fun K hK => ?_)
  refine wp_append_lies _ _ _ 170 rfl (N + 1) 177 inf _ 1 24 Tryd.underlying170 HInf.out HZ.out HSz.out HBy.out rfl (by decide) vs st1.lines.length vsl rfl HO.out ⟨w0.heap.size, 0, none⟩ 1 1 [.slice sa sm sc] rfl rfl (World.news_of_block (_root_.Go.heap_alloc_new w0 _)) (fun u hu => by simp at hu; subst hu; rfl) (by decide) (by unfold maxLen; omega) (by omega) (by show N + 1 ≤ (w0.alloc _).heap.size; rw [size_alloc1]; omega) (w0.heap.size + 1) (by show (w0.alloc _).heap.size = _; rw [size_alloc1]) ?_
  intro g cap w1 hown1 hgr hat hlt
  have hN1 : w1.heap[N]? = w0.heap[N]? := (hgr.block N (by show N < (w0.alloc _).heap.size; rw [size_alloc1]; omega) (fun e => by have := (ownsRow_cells HOv.out N e.symm).1; omega)).trans (Below.heap_alloc w0 _ N hNlt)
  have k1 : ∀ j, w1.cell? ⟨N, j, none⟩ = w0.cell? ⟨N, j, none⟩ := fun j => World.cell?_of_block hN1
  have k2 : ∀ j, w1.frozen? ⟨N, j, none⟩ = w0.frozen? ⟨N, j, none⟩ := fun j => World.frozen?_of_block hN1
  refine hK _ _ ⟨(k1 7).trans c7, (k1 8).trans c8⟩ ?_
  have HO1 := hide hown1; have HGr := hide hgr; have HAt := hide hat; have HN1 := hide hN1
  clear hown1 hgr hat hK K hN1
  unfold wpTailS
  go_wp2_with fail
  go_end0
  have HP := endLine_post N s st1 (.slice sa sm sc) vs w0 HH.out vsl HOv.out HL.out g cap w1 HO1.out HGr.out
  rw [HS.out]
  exact ⟨rfl, ⟨_, _, HP.1⟩, HFr.out.trans HP.2⟩
end Go.Proofs.YtmmflekajbeamaaDoor
