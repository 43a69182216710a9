/-
  perform: an instruction done on a machine that runs.
  perform: an instruction done on a machine that runs, an OP a theorem (halt, set, jump, turn).
-/
import Derived.Test.YtmmflekajbeamaaDoorG04
import Derived.StillTailTactics
namespace Go.Proofs.YtmmflekajbeamaaDoor
open Go.RowKit

theorem zero34 (w : World) : (zeroValue 34).run Tryd.prog w = .ok (.agg (S zeroZ)) w := by kernel_rfl
theorem size34 : (Tryd.prog.info? 34).map (·.size) = some 138 := by kernel_rfl

theorem row_of {w : World} {n k : Nat} (h : isRowB w n k = true) : ∃ t, w.heap[n]? = some (.cells (rowD w n) t (0, 0)) ∧ (rowD w n).size = k := by
  unfold isRowB at h
  unfold rowD
  cases hg : w.heap[n]? with
  | none => rw [hg] at h; cases h
  | some o =>
    cases o with
    | cells c t fr =>
      rw [hg] at h
      simp only [Bool.and_eq_true, beq_iff_eq] at h
      obtain ⟨h2, rfl⟩ := h
      exact ⟨t, rfl, h2⟩
    | _ => rw [hg] at h; cases h
theorem wpList_load_S {ops : Array Oper} {rest : List Oper} {o : Oper} {a : Act} {w : World} {Q : Exit → Act → World → Prop} (hgd : o.guard = none) (x : Operand) (ho : o.op = .load 34 x)
    (n : Nat) (hx : a.eval x = .pointer (some ⟨n, 0, none⟩)) (hr : isRowB w n 138 = true) (c : Array Value) (hc : rowD w n = c)
    (h : wpList Tryd.prog ops Q rest (a.put o.dst (.agg c)) w) : wpList Tryd.prog ops Q (o :: rest) a w := by
  subst hc
  obtain ⟨t, hg, hs⟩ := row_of hr
  exact wpList_load_row hgd 34 x ho n hx t _ (0, 0) _ hg Tryd.underlying34 rfl (by rw [size34, hs]) h
theorem wpList_store_S {ops : Array Oper} {rest : List Oper} {o : Oper} {a : Act} {w : World} {Q : Exit → Act → World → Prop} (hgd : o.guard = none) (x y : Operand) (ho : o.op = .store 34 x y)
    (n : Nat) (hx : a.eval x = .pointer (some ⟨n, 0, none⟩)) (z : List Int) (hy : a.eval y = .agg (S z)) (hz : z.length = 138) (hr : isRowB w n 138 = true) (w' : World) (hw : w.setRow n (S z) = w')
    (h : wpList Tryd.prog ops Q rest (a.put o.dst undef) w') : wpList Tryd.prog ops Q (o :: rest) a w := by
  subst hw
  obtain ⟨t, hg, hs⟩ := row_of hr
  exact wpList_store_row hgd 34 x y ho n (S z) hx hy t _ hg (by rw [size34, S_size, hz]) (by rw [hs, S_size, hz]) (S_one z) h

/-! ### three blocks in a row: the state, its instruction's fields, the result -/
section
variable (w : World) (c : Array Value) (t : TypeId) (o1 o2 : Obj)
theorem size3 : ((w.alloc (.cells c t)).alloc o1).heap.size = w.heap.size + 1 + 1 := by simp
theorem rowD3 : rowD (((w.alloc (.cells c t)).alloc o1).alloc o2) w.heap.size = c := by
  rw [rowD_alloc_past _ _ _ (by simp; omega), rowD_alloc_past _ _ _ (by simp), rowD_alloc_at _ _ _ _ rfl]
theorem isRowB3 (k : Nat) (h : c.size = k) : isRowB (((w.alloc (.cells c t)).alloc o1).alloc o2) w.heap.size k = true := by
  rw [isRowB_alloc_past _ _ _ _ (by simp; omega), isRowB_alloc_past _ _ _ _ (by simp), isRowB_alloc_at _ _ _ _ _ rfl]; simpa using h
theorem isRowB3' (k : Nat) (h : c.size = k) : isRowB (((w.alloc o1).alloc o2).alloc (.cells c t)) (w.heap.size + 1 + 1) k = true := by
  rw [isRowB_alloc_at _ _ _ _ _ (by simp)]; simpa using h
theorem setRow3 (c' : Array Value) : (((w.alloc o1).alloc o2).alloc (.cells c t)).setRow (w.heap.size + 1 + 1) c' = ((w.alloc o1).alloc o2).alloc (.cells c' t) :=
  setRow_alloc_at _ _ _ _ _ (by simp)
theorem rowD3d : rowD (((w.alloc (.cells c t)).alloc o1).alloc o2).drew w.heap.size = c := rowD3 w c t o1 o2
theorem isRowB3d (k : Nat) (h : c.size = k) : isRowB (((w.alloc (.cells c t)).alloc o1).alloc o2).drew w.heap.size k = true := isRowB3 w c t o1 o2 k h
theorem isRowB3d' (k : Nat) (h : c.size = k) : isRowB (((w.alloc o1).alloc o2).alloc (.cells c t)).drew (w.heap.size + 1 + 1) k = true := isRowB3' w c t o1 o2 k h
theorem setRow3d (c' : Array Value) : (((w.alloc o1).alloc o2).alloc (.cells c t)).drew.setRow (w.heap.size + 1 + 1) c' = (((w.alloc o1).alloc o2).alloc (.cells c' t)).drew := by
  rw [setRow_drew, setRow3]
theorem below3d (o : Obj) : Below w.heap.size w (((w.alloc o1).alloc o2).alloc o).drew :=
  ((((Below.refl _ _).alloc (Nat.le_refl _) _).alloc (by simp) _).alloc (by simp; omega) _).drew
theorem heap3 (o : Obj) : (((w.alloc o1).alloc o2).alloc o).heap[w.heap.size + 1 + 1]? = some o := by
  have := _root_.Go.heap_alloc_new ((w.alloc o1).alloc o2) o
  simpa using this
theorem below3 (o : Obj) : Below w.heap.size w (((w.alloc o1).alloc o2).alloc o) :=
  (((Below.refl _ _).alloc (Nat.le_refl _) _).alloc (by simp) _).alloc (by simp; omega) _
end
theorem still_tail {P : Program} {id : Nat} {Q : Exit → Act → World → Prop} {a : Act} {w : World} {l : List Oper} (n : Nat) (hm : P.follows .mixedOrders = true) (hB : Region.lexTailB .any l.toArray n = true)
    (h : wpStill P l.toArray w.drew (fun a' => wpList P l.toArray Q (l.drop n) a' w.drew) (l.take n) a) : (Code.region id l.toArray true).wp P Q a w :=
  wp_region_still_tail n hm hB h
theorem still_all {P : Program} {id : Nat} {Q : Exit → Act → World → Prop} {a : Act} {w : World} {l : List Oper} (hm : P.follows .mixedOrders = true) (hB : Region.lexB .any l.toArray = true)
    (h : wpStill P l.toArray w.drew (fun a' => Q .normal a' w.drew) l a) : (Code.region id l.toArray true).wp P Q a w :=
  wp_region_still_lit hm hB h
theorem len_set2 {z : List Int} (hl : z.length = 138) (i j : Nat) (x y : Int) : ((z.set i x).set j y).length = 138 := by simp [hl]


theorem size_alloc1 (w : World) (o : Obj) : (w.alloc o).heap.size = w.heap.size + 1 := by simp
/-! ### a row in a world that is a letter -/
theorem isRowB_below {B : Nat} {W w1 : World} (hb : Below B W w1) {n : Nat} (hn : n < B) (k : Nat) : isRowB w1 n k = isRowB W n k := by
  unfold isRowB; rw [hb.block n hn]
theorem rowD_below {B : Nat} {W w1 : World} (hb : Below B W w1) {n : Nat} (hn : n < B) : rowD w1 n = rowD W n := by
  unfold rowD; rw [hb.block n hn]
theorem rowD_setCell {w : World} {n k : Nat} (h : isRowB w n k = true) (i : Nat) (v : Value) : rowD (w.setCell ⟨n, i, none⟩ v) n = (rowD w n).setIfInBounds i v := by
  obtain ⟨t, hg, _⟩ := row_of h
  unfold rowD
  rw [heap_setCell_same w n i _ t v hg]
  rfl
theorem isRowB_setCell {w : World} {n k : Nat} (h : isRowB w n k = true) (i : Nat) (v : Value) : isRowB (w.setCell ⟨n, i, none⟩ v) n k = true := by
  obtain ⟨t, hg, hs⟩ := row_of h
  unfold isRowB
  rw [heap_setCell_same w n i _ t v hg]
  simp [hs]
theorem isRowB_setCell_other {w : World} {n k : Nat} (h : isRowB w n k = true) (m i : Nat) (hm : n ≠ m) (v : Value) : isRowB (w.setCell ⟨m, i, none⟩ v) n k = true := by
  unfold isRowB
  rw [heap_setCell_other w ⟨m, i, none⟩ n v hm]
  exact h
theorem heap_setRow_S {w : World} {n : Nat} (h : isRowB w n 138 = true) (c : Array Value) : ∃ t, (w.setRow n c).heap[n]? = some (.cells c t (0, 0)) := by
  obtain ⟨t, hg, _⟩ := row_of h
  exact ⟨t, setRow_heap w n _ c t (0, 0) hg⟩
theorem below_setRow {B : Nat} {W w1 : World} (hb : Below B W w1) {n : Nat} (hn : B ≤ n) (c : Array Value) : Below B W (w1.setRow n c) :=
  ⟨hb.os, hb.tape, hb.output, by rw [size_setRow]; exact hb.size, fun k hk => (setRow_other w1 n k c (by omega)).trans (hb.block k hk)⟩
theorem below_alloc {w : World} (o : Obj) : Below w.heap.size w (w.alloc o) := (Below.refl _ _).alloc (Nat.le_refl _) _

/-- The result of a function that gives a state and a number: read out of its cell. -/
theorem res_S {fn : Func} {p u : Tmp} (h : fn.results = #[.cell p 34, .tmp u]) (tmps : Array Value) (w : World) (g : Nat) (t : TypeId) (z : List Int) (hz : z.length = 138)
    (hp : tmps.getD p undef = .pointer (some ⟨g, 0, none⟩)) (hg : w.heap[g]? = some (.cells (S z) t (0, 0))) (e : Int) (hu : tmps.getD u undef = .int .i64 e) :
    (results fn tmps).run Tryd.prog w = .ok (.tuple #[.agg (S z), .int .i64 e]) w := by
  rw [results_cell_tmp h, hp, hu]
  simp only [asAddr, Sem.run_pure, Result.andThen]
  rw [run_loadVar_row w g t 34 (S z) (0, 0) _ hg Tryd.underlying34 rfl (by rw [size34, S_size, hz])]
end Go.Proofs.YtmmflekajbeamaaDoor

namespace Go.Proofs.YtmmflekajbeamaaDoor
open Go.RowKit

set_option maxRecDepth 100000 in
set_option maxHeartbeats 2000000 in
theorem perform_halt (z : List Int) (a b c k : Nat) (w : World) (hl : z.length = 138)  (p0 : 0 ≤ gz z 136) (p1 : gz z 136 < 128) :
    Calls Tryd.prog 121 #[.agg (S z), .agg #[.int .i64 0, .int .i64 a, .int .i64 b, .int .i64 c, .int .i64 k]] w fun e' w' => e' = .returned (.agg (S (nxt z 0 a b c k))) ∧ Below w.heap.size w w' := by
  have hx : ∀ i, i < 138 → (S z)[i]? = some (.int .i64 (gz z i)) := fun i hi => S_get z i (by omega)
  have h136 := hx 136 (by omega)
  have hset := S_set
  have zz := zero34
  have h137 := hx 137 (by omega)
  have g136 : (S (z.set 137 1))[136]? = some (.int .i64 (gz z 136)) := by rw [S_get _ _ (by simp [hl])]; simp [gz]
  have HN : Hid (Ending.returned (.agg (S ((z.set 137 1).set 136 (gz z 136)))) = .returned (.agg (S (nxt z 0 a b c k)))) := by rw [Hid, nxt, if_pos rfl, set_same z hl]
  clear hx
  go_enter Tryd.func121, Tryd.ntmps121
  go_wp2_with (first | (refine wpList_load_S rfl _ rfl _ rfl (isRowB3 _ _ _ _ _ _ (by simp [S_size, hl])) _ (rowD3 _ _ _ _ _) ?_) | (refine wpList_store_S rfl _ _ rfl _ rfl _ rfl (by simp [hl]) (isRowB3' _ _ _ _ _ _ (by simp [S_size, zeroZ])) _ (setRow3 _ _ _ _ _ _) ?_))
  exact bodyPost_ret (v := .agg (S ((z.set 137 1).set 136 (gz z 136)))) (results_cell_row Tryd.results121 _ _ _ 34 (S ((z.set 137 1).set 136 (gz z 136))) (0, 0) _ rfl (heap3 _ _ _ _) Tryd.underlying34 rfl (by rw [size34, S_size]; simp [hl])) rfl ⟨HN.out, below3 _ _ _ _⟩

set_option maxRecDepth 100000 in
set_option maxHeartbeats 2000000 in
theorem perform_set (z : List Int) (a b c k : Nat) (w : World) (hl : z.length = 138) (ha : a < 8) (p0 : 0 ≤ gz z 136) (p1 : gz z 136 < 128) :
    Calls Tryd.prog 121 #[.agg (S z), .agg #[.int .i64 1, .int .i64 a, .int .i64 b, .int .i64 c, .int .i64 k]] w fun e' w' => e' = .returned (.agg (S (nxt z 1 a b c k))) ∧ Below w.heap.size w w' := by
  have hx : ∀ i, i < 138 → (S z)[i]? = some (.int .i64 (gz z i)) := fun i hi => S_get z i (by omega)
  have h136 := hx 136 (by omega)
  have hset := S_set
  have zz := zero34
  have haa := hx a (by omega)
  have g136 : (S (z.set a (k : Int)))[136]? = some (.int .i64 (gz (z.set a (k : Int)) 136)) := S_get _ _ (by simp [hl])
  have ha' : (a : Int) < 8 := by omega
  have HN : Hid (Ending.returned (.agg (S ((z.set a (k : Int)).set 136 ((gz z 136 + 1) % 128)))) = .returned (.agg (S (nxt z 1 a b c k)))) := by simp [Hid, nxt]
  clear hx
  go_enter Tryd.func121, Tryd.ntmps121
  go_wp2_with (first | (refine wpList_load_S rfl _ rfl _ rfl (isRowB3 _ _ _ _ _ _ (by simp [S_size, hl])) _ (rowD3 _ _ _ _ _) ?_) | (refine wpList_store_S rfl _ _ rfl _ rfl _ rfl (by simp [hl]) (isRowB3' _ _ _ _ _ _ (by simp [S_size, zeroZ])) _ (setRow3 _ _ _ _ _ _) ?_))
  exact bodyPost_ret (v := .agg (S ((z.set a (k : Int)).set 136 ((gz z 136 + 1) % 128)))) (results_cell_row Tryd.results121 _ _ _ 34 (S ((z.set a (k : Int)).set 136 ((gz z 136 + 1) % 128))) (0, 0) _ rfl (heap3 _ _ _ _) Tryd.underlying34 rfl (by rw [size34, S_size]; simp [hl])) rfl ⟨HN.out, below3 _ _ _ _⟩

set_option maxRecDepth 100000 in
set_option maxHeartbeats 2000000 in
theorem perform_jump (z : List Int) (a b c k : Nat) (w : World) (hl : z.length = 138)  (p0 : 0 ≤ gz z 136) (p1 : gz z 136 < 128) :
    Calls Tryd.prog 121 #[.agg (S z), .agg #[.int .i64 9, .int .i64 a, .int .i64 b, .int .i64 c, .int .i64 k]] w fun e' w' => e' = .returned (.agg (S (nxt z 9 a b c k))) ∧ Below w.heap.size w w' := by
  have hx : ∀ i, i < 138 → (S z)[i]? = some (.int .i64 (gz z i)) := fun i hi => S_get z i (by omega)
  have h136 := hx 136 (by omega)
  have hset := S_set
  have zz := zero34
  have HN : Hid (Ending.returned (.agg (S (z.set 136 ((k : Int) % 128)))) = .returned (.agg (S (nxt z 9 a b c k)))) := by simp [Hid, nxt]
  clear hx
  go_enter Tryd.func121, Tryd.ntmps121
  go_wp2_with (first | (refine wpList_load_S rfl _ rfl _ rfl (isRowB3 _ _ _ _ _ _ (by simp [S_size, hl])) _ (rowD3 _ _ _ _ _) ?_) | (refine wpList_store_S rfl _ _ rfl _ rfl _ rfl (by simp [hl]) (isRowB3' _ _ _ _ _ _ (by simp [S_size, zeroZ])) _ (setRow3 _ _ _ _ _ _) ?_))
  exact bodyPost_ret (v := .agg (S (z.set 136 ((k : Int) % 128)))) (results_cell_row Tryd.results121 _ _ _ 34 (S (z.set 136 ((k : Int) % 128))) (0, 0) _ rfl (heap3 _ _ _ _) Tryd.underlying34 rfl (by rw [size34, S_size]; simp [hl])) rfl ⟨HN.out, below3 _ _ _ _⟩

set_option maxRecDepth 100000 in
set_option maxHeartbeats 2000000 in
theorem perform_turn (z : List Int) (a b c k : Nat) (w : World) (hl : z.length = 138) (ha : a < 8) (r0 : 0 ≤ gz z a) (r1 : gz z a < 4294967296) (p0 : 0 ≤ gz z 136) (p1 : gz z 136 < 128) :
    Calls Tryd.prog 121 #[.agg (S z), .agg #[.int .i64 10, .int .i64 a, .int .i64 b, .int .i64 c, .int .i64 k]] w fun e' w' => e' = .returned (.agg (S (nxt z 10 a b c k))) ∧ Below w.heap.size w w' := by
  have hx : ∀ i, i < 138 → (S z)[i]? = some (.int .i64 (gz z i)) := fun i hi => S_get z i (by omega)
  have h136 := hx 136 (by omega)
  have hset := S_set
  have zz := zero34
  have haa := hx a (by omega)
  have ha' : (a : Int) < 8 := by omega
  have HN : Hid (Ending.returned (.agg (S (z.set 136 (gz z a % 128)))) = .returned (.agg (S (nxt z 10 a b c k)))) := by simp [Hid, nxt]
  clear hx
  go_enter Tryd.func121, Tryd.ntmps121
  go_wp2_with (first | (refine wpList_load_S rfl _ rfl _ rfl (isRowB3 _ _ _ _ _ _ (by simp [S_size, hl])) _ (rowD3 _ _ _ _ _) ?_) | (refine wpList_store_S rfl _ _ rfl _ rfl _ rfl (by simp [hl]) (isRowB3' _ _ _ _ _ _ (by simp [S_size, zeroZ])) _ (setRow3 _ _ _ _ _ _) ?_))
  exact bodyPost_ret (v := .agg (S (z.set 136 (gz z a % 128)))) (results_cell_row Tryd.results121 _ _ _ 34 (S (z.set 136 (gz z a % 128))) (0, 0) _ rfl (heap3 _ _ _ _) Tryd.underlying34 rfl (by rw [size34, S_size]; simp [hl])) rfl ⟨HN.out, below3 _ _ _ _⟩
end Go.Proofs.YtmmflekajbeamaaDoor
