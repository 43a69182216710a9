/-
  perform: an instruction done on a machine that runs, an OP a theorem (halt, set, jump, turn).
  perform: an instruction done on a machine that runs, an OP a theorem (add, sub, xor, mul).
  perform: an instruction done on a machine that runs, an OP a theorem (load, store, same).
  The machine's step: package machine's, as package crib hands it on.
-/
import Derived.Test.YtmmflekajbeamaaDoorR05
namespace Go.Proofs.YtmmflekajbeamaaDoor
open Go.RowKit

set_option maxRecDepth 100000 in
set_option maxHeartbeats 2000000 in
theorem perform_halt (z : List Int) (a b c k : Nat) (w : World) (hl : z.length = 138)  (p0 : 0 ≤ gz z 136) (p1 : gz z 136 < 128) :
    Calls Tryd.prog 121 #[.agg (S z), .agg #[.int .i64 0, .int .i64 a, .int .i64 b, .int .i64 c, .int .i64 k]] w fun e' w' => e' = .returned (.agg (S (nxt z 0 a b c k))) ∧ Below w.heap.size w w' := by
  have hx : ∀ i, i < 138 → (S z)[i]? = some (.int .i64 (gz z i)) := fun i hi => S_get z i (by omega)
  have h136 := hx 136 (by omega)
  have hset := S_set
  have zz := zero34
  have h137 := hx 137 (by omega)
  have g136 : (S (z.set 137 1))[136]? = some (.int .i64 (gz z 136)) := by rw [S_get _ _ (by simp [hl])]; simp [gz]
  have HN : Hid (Ending.returned (.agg (S ((z.set 137 1).set 136 (gz z 136)))) = .returned (.agg (S (nxt z 0 a b c k)))) := by rw [Hid, nxt, if_pos rfl, set_same z hl]
  clear hx
  go_enter Tryd.func121, Tryd.ntmps121
  go_wp2_with (first | (refine wpList_load_S rfl _ rfl _ rfl (isRowB3 _ _ _ _ _ _ (by simp [S_size, hl])) _ (rowD3 _ _ _ _ _) ?_) | (refine wpList_store_S rfl _ _ rfl _ rfl _ rfl (by simp [hl]) (isRowB3' _ _ _ _ _ _ (by simp [S_size, zeroZ])) _ (setRow3 _ _ _ _ _ _) ?_))
  exact bodyPost_ret (v := .agg (S ((z.set 137 1).set 136 (gz z 136)))) (results_cell_row Tryd.results121 _ _ _ 34 (S ((z.set 137 1).set 136 (gz z 136))) (0, 0) _ rfl (heap3 _ _ _ _) Tryd.underlying34 rfl (by rw [size34, S_size]; simp [hl])) rfl ⟨HN.out, below3 _ _ _ _⟩

set_option maxRecDepth 100000 in
set_option maxHeartbeats 2000000 in
theorem perform_set (z : List Int) (a b c k : Nat) (w : World) (hl : z.length = 138) (ha : a < 8) (p0 : 0 ≤ gz z 136) (p1 : gz z 136 < 128) :
    Calls Tryd.prog 121 #[.agg (S z), .agg #[.int .i64 1, .int .i64 a, .int .i64 b, .int .i64 c, .int .i64 k]] w fun e' w' => e' = .returned (.agg (S (nxt z 1 a b c k))) ∧ Below w.heap.size w w' := by
  have hx : ∀ i, i < 138 → (S z)[i]? = some (.int .i64 (gz z i)) := fun i hi => S_get z i (by omega)
  have h136 := hx 136 (by omega)
  have hset := S_set
  have zz := zero34
  have haa := hx a (by omega)
  have g136 : (S (z.set a (k : Int)))[136]? = some (.int .i64 (gz (z.set a (k : Int)) 136)) := S_get _ _ (by simp [hl])
  have ha' : (a : Int) < 8 := by omega
  have HN : Hid (Ending.returned (.agg (S ((z.set a (k : Int)).set 136 ((gz z 136 + 1) % 128)))) = .returned (.agg (S (nxt z 1 a b c k)))) := by simp [Hid, nxt]
  clear hx
  go_enter Tryd.func121, Tryd.ntmps121
  go_wp2_with (first | (refine wpList_load_S rfl _ rfl _ rfl (isRowB3 _ _ _ _ _ _ (by simp [S_size, hl])) _ (rowD3 _ _ _ _ _) ?_) | (refine wpList_store_S rfl _ _ rfl _ rfl _ rfl (by simp [hl]) (isRowB3' _ _ _ _ _ _ (by simp [S_size, zeroZ])) _ (setRow3 _ _ _ _ _ _) ?_))
  exact bodyPost_ret (v := .agg (S ((z.set a (k : Int)).set 136 ((gz z 136 + 1) % 128)))) (results_cell_row Tryd.results121 _ _ _ 34 (S ((z.set a (k : Int)).set 136 ((gz z 136 + 1) % 128))) (0, 0) _ rfl (heap3 _ _ _ _) Tryd.underlying34 rfl (by rw [size34, S_size]; simp [hl])) rfl ⟨HN.out, below3 _ _ _ _⟩

set_option maxRecDepth 100000 in
set_option maxHeartbeats 2000000 in
theorem perform_jump (z : List Int) (a b c k : Nat) (w : World) (hl : z.length = 138)  (p0 : 0 ≤ gz z 136) (p1 : gz z 136 < 128) :
    Calls Tryd.prog 121 #[.agg (S z), .agg #[.int .i64 9, .int .i64 a, .int .i64 b, .int .i64 c, .int .i64 k]] w fun e' w' => e' = .returned (.agg (S (nxt z 9 a b c k))) ∧ Below w.heap.size w w' := by
  have hx : ∀ i, i < 138 → (S z)[i]? = some (.int .i64 (gz z i)) := fun i hi => S_get z i (by omega)
  have h136 := hx 136 (by omega)
  have hset := S_set
  have zz := zero34
  have HN : Hid (Ending.returned (.agg (S (z.set 136 ((k : Int) % 128)))) = .returned (.agg (S (nxt z 9 a b c k)))) := by simp [Hid, nxt]
  clear hx
  go_enter Tryd.func121, Tryd.ntmps121
  go_wp2_with (first | (refine wpList_load_S rfl _ rfl _ rfl (isRowB3 _ _ _ _ _ _ (by simp [S_size, hl])) _ (rowD3 _ _ _ _ _) ?_) | (refine wpList_store_S rfl _ _ rfl _ rfl _ rfl (by simp [hl]) (isRowB3' _ _ _ _ _ _ (by simp [S_size, zeroZ])) _ (setRow3 _ _ _ _ _ _) ?_))
  exact bodyPost_ret (v := .agg (S (z.set 136 ((k : Int) % 128)))) (results_cell_row Tryd.results121 _ _ _ 34 (S (z.set 136 ((k : Int) % 128))) (0, 0) _ rfl (heap3 _ _ _ _) Tryd.underlying34 rfl (by rw [size34, S_size]; simp [hl])) rfl ⟨HN.out, below3 _ _ _ _⟩

set_option maxRecDepth 100000 in
set_option maxHeartbeats 2000000 in
theorem perform_turn (z : List Int) (a b c k : Nat) (w : World) (hl : z.length = 138) (ha : a < 8) (r0 : 0 ≤ gz z a) (r1 : gz z a < 4294967296) (p0 : 0 ≤ gz z 136) (p1 : gz z 136 < 128) :
    Calls Tryd.prog 121 #[.agg (S z), .agg #[.int .i64 10, .int .i64 a, .int .i64 b, .int .i64 c, .int .i64 k]] w fun e' w' => e' = .returned (.agg (S (nxt z 10 a b c k))) ∧ Below w.heap.size w w' := by
  have hx : ∀ i, i < 138 → (S z)[i]? = some (.int .i64 (gz z i)) := fun i hi => S_get z i (by omega)
  have h136 := hx 136 (by omega)
  have hset := S_set
  have zz := zero34
  have haa := hx a (by omega)
  have ha' : (a : Int) < 8 := by omega
  have HN : Hid (Ending.returned (.agg (S (z.set 136 (gz z a % 128)))) = .returned (.agg (S (nxt z 10 a b c k)))) := by simp [Hid, nxt]
  clear hx
  go_enter Tryd.func121, Tryd.ntmps121
  go_wp2_with (first | (refine wpList_load_S rfl _ rfl _ rfl (isRowB3 _ _ _ _ _ _ (by simp [S_size, hl])) _ (rowD3 _ _ _ _ _) ?_) | (refine wpList_store_S rfl _ _ rfl _ rfl _ rfl (by simp [hl]) (isRowB3' _ _ _ _ _ _ (by simp [S_size, zeroZ])) _ (setRow3 _ _ _ _ _ _) ?_))
  exact bodyPost_ret (v := .agg (S (z.set 136 (gz z a % 128)))) (results_cell_row Tryd.results121 _ _ _ 34 (S (z.set 136 (gz z a % 128))) (0, 0) _ rfl (heap3 _ _ _ _) Tryd.underlying34 rfl (by rw [size34, S_size]; simp [hl])) rfl ⟨HN.out, below3 _ _ _ _⟩
end Go.Proofs.YtmmflekajbeamaaDoor

namespace Go.Proofs.YtmmflekajbeamaaDoor
open Go.RowKit

set_option maxRecDepth 100000 in
set_option maxHeartbeats 2000000 in
theorem perform_add (z : List Int) (a b c k : Nat) (w : World) (hl : z.length = 138) (ha : a < 8) (hb : b < 8) (hc : c < 8) (r0 : 0 ≤ gz z b) (r1 : gz z b < 4294967296) (s0 : 0 ≤ gz z c) (s1 : gz z c < 4294967296) (p0 : 0 ≤ gz z 136) (p1 : gz z 136 < 128) :
    Calls Tryd.prog 121 #[.agg (S z), .agg #[.int .i64 2, .int .i64 a, .int .i64 b, .int .i64 c, .int .i64 k]] w fun e' w' => e' = .returned (.agg (S (nxt z 2 a b c k))) ∧ Below w.heap.size w w' := by
  have hx : ∀ i, i < 138 → (S z)[i]? = some (.int .i64 (gz z i)) := fun i hi => S_get z i (by omega)
  have h136 := hx 136 (by omega)
  have hset := S_set
  have zz := zero34
  have haa := hx a (by omega)
  have hbb := hx b (by omega)
  have hcc := hx c (by omega)
  have HN : Hid (Ending.returned (.agg (S ((z.set a (wk 2 (gz z b) (gz z c))).set 136 ((gz z 136 + 1) % 128)))) = .returned (.agg (S (nxt z 2 a b c k)))) := by simp [Hid, nxt]
  have HR := hide (fun w' => reckon_any 2 (gz z b) (gz z c) w' r0 r1 s0 s1 (by decide) (by decide))
  generalize wk 2 (gz z b) (gz z c) = r at *
  have g136 : (S (z.set a r))[136]? = some (.int .i64 (gz (z.set a r) 136)) := S_get _ _ (by simp [hl])
  have ha' : (a : Int) < 8 := by omega
  have hb' : (b : Int) < 8 := by omega
  have hc' : (c : Int) < 8 := by omega
  clear hx
  go_enter Tryd.func121, Tryd.ntmps121
  go_wp2_with fail
  refine still_tail 17 (by kernel_rfl) (by kernel_rfl) ?_
  simp only [List.take_succ_cons, List.take_zero, List.drop_succ_cons, List.drop_zero]
  repeat still_step
  still_call (unhide HR _)
  repeat still_step
  refine wpStill_nil ?_
  go_wp2_with (first | (refine wpList_load_S rfl _ rfl _ rfl (isRowB3d _ _ _ _ _ _ (by simp [S_size, hl])) _ (rowD3d _ _ _ _ _) ?_) | (refine wpList_store_S rfl _ _ rfl _ rfl _ rfl (by simp [hl]) (isRowB3d' _ _ _ _ _ _ (by simp [S_size, zeroZ])) _ (setRow3d _ _ _ _ _ _) ?_))
  exact bodyPost_ret (v := .agg (S ((z.set a r).set 136 ((gz z 136 + 1) % 128)))) (results_cell_row Tryd.results121 _ _ _ 34 (S ((z.set a r).set 136 ((gz z 136 + 1) % 128))) (0, 0) _ rfl (heap3 _ _ _ _) Tryd.underlying34 rfl (by rw [size34, S_size]; simp [hl])) rfl ⟨HN.out, below3d _ _ _ _⟩

set_option maxRecDepth 100000 in
set_option maxHeartbeats 2000000 in
theorem perform_sub (z : List Int) (a b c k : Nat) (w : World) (hl : z.length = 138) (ha : a < 8) (hb : b < 8) (hc : c < 8) (r0 : 0 ≤ gz z b) (r1 : gz z b < 4294967296) (s0 : 0 ≤ gz z c) (s1 : gz z c < 4294967296) (p0 : 0 ≤ gz z 136) (p1 : gz z 136 < 128) :
    Calls Tryd.prog 121 #[.agg (S z), .agg #[.int .i64 3, .int .i64 a, .int .i64 b, .int .i64 c, .int .i64 k]] w fun e' w' => e' = .returned (.agg (S (nxt z 3 a b c k))) ∧ Below w.heap.size w w' := by
  have hx : ∀ i, i < 138 → (S z)[i]? = some (.int .i64 (gz z i)) := fun i hi => S_get z i (by omega)
  have h136 := hx 136 (by omega)
  have hset := S_set
  have zz := zero34
  have haa := hx a (by omega)
  have hbb := hx b (by omega)
  have hcc := hx c (by omega)
  have HN : Hid (Ending.returned (.agg (S ((z.set a (wk 3 (gz z b) (gz z c))).set 136 ((gz z 136 + 1) % 128)))) = .returned (.agg (S (nxt z 3 a b c k)))) := by simp [Hid, nxt]
  have HR := hide (fun w' => reckon_any 3 (gz z b) (gz z c) w' r0 r1 s0 s1 (by decide) (by decide))
  generalize wk 3 (gz z b) (gz z c) = r at *
  have g136 : (S (z.set a r))[136]? = some (.int .i64 (gz (z.set a r) 136)) := S_get _ _ (by simp [hl])
  have ha' : (a : Int) < 8 := by omega
  have hb' : (b : Int) < 8 := by omega
  have hc' : (c : Int) < 8 := by omega
  clear hx
  go_enter Tryd.func121, Tryd.ntmps121
  go_wp2_with fail
  refine still_tail 17 (by kernel_rfl) (by kernel_rfl) ?_
  simp only [List.take_succ_cons, List.take_zero, List.drop_succ_cons, List.drop_zero]
  repeat still_step
  still_call (unhide HR _)
  repeat still_step
  refine wpStill_nil ?_
  go_wp2_with (first | (refine wpList_load_S rfl _ rfl _ rfl (isRowB3d _ _ _ _ _ _ (by simp [S_size, hl])) _ (rowD3d _ _ _ _ _) ?_) | (refine wpList_store_S rfl _ _ rfl _ rfl _ rfl (by simp [hl]) (isRowB3d' _ _ _ _ _ _ (by simp [S_size, zeroZ])) _ (setRow3d _ _ _ _ _ _) ?_))
  exact bodyPost_ret (v := .agg (S ((z.set a r).set 136 ((gz z 136 + 1) % 128)))) (results_cell_row Tryd.results121 _ _ _ 34 (S ((z.set a r).set 136 ((gz z 136 + 1) % 128))) (0, 0) _ rfl (heap3 _ _ _ _) Tryd.underlying34 rfl (by rw [size34, S_size]; simp [hl])) rfl ⟨HN.out, below3d _ _ _ _⟩

set_option maxRecDepth 100000 in
set_option maxHeartbeats 2000000 in
theorem perform_xor (z : List Int) (a b c k : Nat) (w : World) (hl : z.length = 138) (ha : a < 8) (hb : b < 8) (hc : c < 8) (r0 : 0 ≤ gz z b) (r1 : gz z b < 4294967296) (s0 : 0 ≤ gz z c) (s1 : gz z c < 4294967296) (p0 : 0 ≤ gz z 136) (p1 : gz z 136 < 128) :
    Calls Tryd.prog 121 #[.agg (S z), .agg #[.int .i64 4, .int .i64 a, .int .i64 b, .int .i64 c, .int .i64 k]] w fun e' w' => e' = .returned (.agg (S (nxt z 4 a b c k))) ∧ Below w.heap.size w w' := by
  have hx : ∀ i, i < 138 → (S z)[i]? = some (.int .i64 (gz z i)) := fun i hi => S_get z i (by omega)
  have h136 := hx 136 (by omega)
  have hset := S_set
  have zz := zero34
  have haa := hx a (by omega)
  have hbb := hx b (by omega)
  have hcc := hx c (by omega)
  have HN : Hid (Ending.returned (.agg (S ((z.set a (wk 4 (gz z b) (gz z c))).set 136 ((gz z 136 + 1) % 128)))) = .returned (.agg (S (nxt z 4 a b c k)))) := by simp [Hid, nxt]
  have HR := hide (fun w' => reckon_any 4 (gz z b) (gz z c) w' r0 r1 s0 s1 (by decide) (by decide))
  generalize wk 4 (gz z b) (gz z c) = r at *
  have g136 : (S (z.set a r))[136]? = some (.int .i64 (gz (z.set a r) 136)) := S_get _ _ (by simp [hl])
  have ha' : (a : Int) < 8 := by omega
  have hb' : (b : Int) < 8 := by omega
  have hc' : (c : Int) < 8 := by omega
  clear hx
  go_enter Tryd.func121, Tryd.ntmps121
  go_wp2_with fail
  refine still_tail 17 (by kernel_rfl) (by kernel_rfl) ?_
  simp only [List.take_succ_cons, List.take_zero, List.drop_succ_cons, List.drop_zero]
  repeat still_step
  still_call (unhide HR _)
  repeat still_step
  refine wpStill_nil ?_
  go_wp2_with (first | (refine wpList_load_S rfl _ rfl _ rfl (isRowB3d _ _ _ _ _ _ (by simp [S_size, hl])) _ (rowD3d _ _ _ _ _) ?_) | (refine wpList_store_S rfl _ _ rfl _ rfl _ rfl (by simp [hl]) (isRowB3d' _ _ _ _ _ _ (by simp [S_size, zeroZ])) _ (setRow3d _ _ _ _ _ _) ?_))
  exact bodyPost_ret (v := .agg (S ((z.set a r).set 136 ((gz z 136 + 1) % 128)))) (results_cell_row Tryd.results121 _ _ _ 34 (S ((z.set a r).set 136 ((gz z 136 + 1) % 128))) (0, 0) _ rfl (heap3 _ _ _ _) Tryd.underlying34 rfl (by rw [size34, S_size]; simp [hl])) rfl ⟨HN.out, below3d _ _ _ _⟩

set_option maxRecDepth 100000 in
set_option maxHeartbeats 2000000 in
theorem perform_mul (z : List Int) (a b c k : Nat) (w : World) (hl : z.length = 138) (ha : a < 8) (hb : b < 8) (hc : c < 8) (r0 : 0 ≤ gz z b) (r1 : gz z b < 4294967296) (s0 : 0 ≤ gz z c) (s1 : gz z c < 4294967296) (p0 : 0 ≤ gz z 136) (p1 : gz z 136 < 128) :
    Calls Tryd.prog 121 #[.agg (S z), .agg #[.int .i64 5, .int .i64 a, .int .i64 b, .int .i64 c, .int .i64 k]] w fun e' w' => e' = .returned (.agg (S (nxt z 5 a b c k))) ∧ Below w.heap.size w w' := by
  have hx : ∀ i, i < 138 → (S z)[i]? = some (.int .i64 (gz z i)) := fun i hi => S_get z i (by omega)
  have h136 := hx 136 (by omega)
  have hset := S_set
  have zz := zero34
  have haa := hx a (by omega)
  have hbb := hx b (by omega)
  have hcc := hx c (by omega)
  have HN : Hid (Ending.returned (.agg (S ((z.set a (wk 5 (gz z b) (gz z c))).set 136 ((gz z 136 + 1) % 128)))) = .returned (.agg (S (nxt z 5 a b c k)))) := by simp [Hid, nxt]
  have HR := hide (fun w' => reckon_any 5 (gz z b) (gz z c) w' r0 r1 s0 s1 (by decide) (by decide))
  generalize wk 5 (gz z b) (gz z c) = r at *
  have g136 : (S (z.set a r))[136]? = some (.int .i64 (gz (z.set a r) 136)) := S_get _ _ (by simp [hl])
  have ha' : (a : Int) < 8 := by omega
  have hb' : (b : Int) < 8 := by omega
  have hc' : (c : Int) < 8 := by omega
  clear hx
  go_enter Tryd.func121, Tryd.ntmps121
  go_wp2_with fail
  refine still_tail 17 (by kernel_rfl) (by kernel_rfl) ?_
  simp only [List.take_succ_cons, List.take_zero, List.drop_succ_cons, List.drop_zero]
  repeat still_step
  still_call (unhide HR _)
  repeat still_step
  refine wpStill_nil ?_
  go_wp2_with (first | (refine wpList_load_S rfl _ rfl _ rfl (isRowB3d _ _ _ _ _ _ (by simp [S_size, hl])) _ (rowD3d _ _ _ _ _) ?_) | (refine wpList_store_S rfl _ _ rfl _ rfl _ rfl (by simp [hl]) (isRowB3d' _ _ _ _ _ _ (by simp [S_size, zeroZ])) _ (setRow3d _ _ _ _ _ _) ?_))
  exact bodyPost_ret (v := .agg (S ((z.set a r).set 136 ((gz z 136 + 1) % 128)))) (results_cell_row Tryd.results121 _ _ _ 34 (S ((z.set a r).set 136 ((gz z 136 + 1) % 128))) (0, 0) _ rfl (heap3 _ _ _ _) Tryd.underlying34 rfl (by rw [size34, S_size]; simp [hl])) rfl ⟨HN.out, below3d _ _ _ _⟩
end Go.Proofs.YtmmflekajbeamaaDoor

namespace Go.Proofs.YtmmflekajbeamaaDoor
open Go.RowKit

set_option maxRecDepth 100000 in
set_option maxHeartbeats 2000000 in
theorem perform_load (z : List Int) (a b c k : Nat) (w : World) (hl : z.length = 138) (ha : a < 8) (hb : b < 8) (hk : k < 4096) (r0 : 0 ≤ gz z b) (r1 : gz z b < 4294967296) (p0 : 0 ≤ gz z 136) (p1 : gz z 136 < 128) :
    Calls Tryd.prog 121 #[.agg (S z), .agg #[.int .i64 6, .int .i64 a, .int .i64 b, .int .i64 c, .int .i64 k]] w fun e' w' => e' = .returned (.agg (S (nxt z 6 a b c k))) ∧ Below w.heap.size w w' := by
  have hx : ∀ i, i < 138 → (S z)[i]? = some (.int .i64 (gz z i)) := fun i hi => S_get z i (by omega)
  have h136 := hx 136 (by omega)
  have hset := S_set
  have zz := zero34
  have haa := hx a (by omega)
  have hbb := hx b (by omega)
  obtain ⟨m, hm⟩ := Int.eq_ofNat_of_zero_le (show 0 ≤ (gz z b + (k : Int)) % 128 by omega)
  have hm1 : m < 128 := by omega
  have hmm := hx (8 + m) (by omega)
  have HN : Hid (Ending.returned (.agg (S ((z.set a (gz z (8 + m))).set 136 ((gz z 136 + 1) % 128)))) = .returned (.agg (S (nxt z 6 a b c k)))) := by simp [Hid, nxt, hm]
  have HR := hide (fun w' => address_any (gz z b) k w' r0 r1 (by omega) (by omega))
  rw [hm] at HR
  clear hm
  generalize gz z (8 + m) = r at *
  have g136 : (S (z.set a r))[136]? = some (.int .i64 (gz (z.set a r) 136)) := S_get _ _ (by simp [hl])
  have ha' : (a : Int) < 8 := by omega
  have hb' : (b : Int) < 8 := by omega
  have hm' : (m : Int) < 128 := by omega
  clear hx
  go_enter Tryd.func121, Tryd.ntmps121
  go_wp2_with fail
  refine still_tail 15 (by kernel_rfl) (by kernel_rfl) ?_
  simp only [List.take_succ_cons, List.take_zero, List.drop_succ_cons, List.drop_zero]
  repeat still_step
  still_call (unhide HR _)
  repeat still_step
  refine wpStill_nil ?_
  go_wp2_with (first | (refine wpList_load_S rfl _ rfl _ rfl (isRowB3d _ _ _ _ _ _ (by simp [S_size, hl])) _ (rowD3d _ _ _ _ _) ?_) | (refine wpList_store_S rfl _ _ rfl _ rfl _ rfl (by simp [hl]) (isRowB3d' _ _ _ _ _ _ (by simp [S_size, zeroZ])) _ (setRow3d _ _ _ _ _ _) ?_))
  exact bodyPost_ret (v := .agg (S ((z.set a r).set 136 ((gz z 136 + 1) % 128)))) (results_cell_row Tryd.results121 _ _ _ 34 (S ((z.set a r).set 136 ((gz z 136 + 1) % 128))) (0, 0) _ rfl (heap3 _ _ _ _) Tryd.underlying34 rfl (by rw [size34, S_size]; simp [hl])) rfl ⟨HN.out, below3d _ _ _ _⟩

set_option maxRecDepth 100000 in
set_option maxHeartbeats 2000000 in
theorem perform_store (z : List Int) (a b c k : Nat) (w : World) (hl : z.length = 138) (ha : a < 8) (hb : b < 8) (hk : k < 4096) (r0 : 0 ≤ gz z b) (r1 : gz z b < 4294967296) (p0 : 0 ≤ gz z 136) (p1 : gz z 136 < 128) :
    Calls Tryd.prog 121 #[.agg (S z), .agg #[.int .i64 7, .int .i64 a, .int .i64 b, .int .i64 c, .int .i64 k]] w fun e' w' => e' = .returned (.agg (S (nxt z 7 a b c k))) ∧ Below w.heap.size w w' := by
  have hx : ∀ i, i < 138 → (S z)[i]? = some (.int .i64 (gz z i)) := fun i hi => S_get z i (by omega)
  have h136 := hx 136 (by omega)
  have hset := S_set
  have zz := zero34
  have haa := hx a (by omega)
  have hbb := hx b (by omega)
  obtain ⟨m, hm⟩ := Int.eq_ofNat_of_zero_le (show 0 ≤ (gz z b + (k : Int)) % 128 by omega)
  have hm1 : m < 128 := by omega
  have hmm := hx (8 + m) (by omega)
  have HN : Hid (Ending.returned (.agg (S ((z.set (8 + m) (gz z a)).set 136 ((gz z 136 + 1) % 128)))) = .returned (.agg (S (nxt z 7 a b c k)))) := by simp [Hid, nxt, hm]
  have HR := hide (fun w' => address_any (gz z b) k w' r0 r1 (by omega) (by omega))
  rw [hm] at HR
  clear hm
  have g136 : (S (z.set (8 + m) (gz z a)))[136]? = some (.int .i64 (gz (z.set (8 + m) (gz z a)) 136)) := S_get _ _ (by simp [hl])
  have ha' : (a : Int) < 8 := by omega
  have hb' : (b : Int) < 8 := by omega
  have hm' : (m : Int) < 128 := by omega
  clear hx
  go_enter Tryd.func121, Tryd.ntmps121
  go_wp2_with fail
  refine still_tail 15 (by kernel_rfl) (by kernel_rfl) ?_
  simp only [List.take_succ_cons, List.take_zero, List.drop_succ_cons, List.drop_zero]
  repeat still_step
  still_call (unhide HR _)
  repeat still_step
  refine wpStill_nil ?_
  go_wp2_with (first | (refine wpList_load_S rfl _ rfl _ rfl (isRowB3d _ _ _ _ _ _ (by simp [S_size, hl])) _ (rowD3d _ _ _ _ _) ?_) | (refine wpList_store_S rfl _ _ rfl _ rfl _ rfl (by simp [hl]) (isRowB3d' _ _ _ _ _ _ (by simp [S_size, zeroZ])) _ (setRow3d _ _ _ _ _ _) ?_))
  exact bodyPost_ret (v := .agg (S ((z.set (8 + m) (gz z a)).set 136 ((gz z 136 + 1) % 128)))) (results_cell_row Tryd.results121 _ _ _ 34 (S ((z.set (8 + m) (gz z a)).set 136 ((gz z 136 + 1) % 128))) (0, 0) _ rfl (heap3 _ _ _ _) Tryd.underlying34 rfl (by rw [size34, S_size]; simp [hl])) rfl ⟨HN.out, below3d _ _ _ _⟩

set_option maxRecDepth 100000 in
set_option maxHeartbeats 2000000 in
theorem perform_same_yes (z : List Int) (a b c k : Nat) (w : World) (hl : z.length = 138) (ha : a < 8) (hb : b < 8) (hq : gz z a = gz z b) (p0 : 0 ≤ gz z 136) (p1 : gz z 136 < 128) :
    Calls Tryd.prog 121 #[.agg (S z), .agg #[.int .i64 8, .int .i64 a, .int .i64 b, .int .i64 c, .int .i64 k]] w fun e' w' => e' = .returned (.agg (S (nxt z 8 a b c k))) ∧ Below w.heap.size w w' := by
  have hx : ∀ i, i < 138 → (S z)[i]? = some (.int .i64 (gz z i)) := fun i hi => S_get z i (by omega)
  have h136 := hx 136 (by omega)
  have hset := S_set
  have zz := zero34
  have haa := hx a (by omega)
  have hbb := hx b (by omega)
  have HN : Hid (Ending.returned (.agg (S (z.set 136 ((k : Int) % 128)))) = .returned (.agg (S (nxt z 8 a b c k)))) := by simp [Hid, nxt, hq]
  have hq' : (gz z a == gz z b) = true := by simpa using hq
  clear hq
  have ha' : (a : Int) < 8 := by omega
  have hb' : (b : Int) < 8 := by omega
  clear hx
  go_enter Tryd.func121, Tryd.ntmps121
  go_wp2_with fail
  refine still_all (by kernel_rfl) (by kernel_rfl) ?_
  repeat still_step
  refine wpStill_nil ?_
  go_wp2_with (first | (refine wpList_load_S rfl _ rfl _ rfl (isRowB3d _ _ _ _ _ _ (by simp [S_size, hl])) _ (rowD3d _ _ _ _ _) ?_) | (refine wpList_store_S rfl _ _ rfl _ rfl _ rfl (by simp [hl]) (isRowB3d' _ _ _ _ _ _ (by simp [S_size, zeroZ])) _ (setRow3d _ _ _ _ _ _) ?_))
  exact bodyPost_ret (v := .agg (S (z.set 136 ((k : Int) % 128)))) (results_cell_row Tryd.results121 _ _ _ 34 (S (z.set 136 ((k : Int) % 128))) (0, 0) _ rfl (heap3 _ _ _ _) Tryd.underlying34 rfl (by rw [size34, S_size]; simp [hl])) rfl ⟨HN.out, below3d _ _ _ _⟩

set_option maxRecDepth 100000 in
set_option maxHeartbeats 2000000 in
theorem perform_same_no (z : List Int) (a b c k : Nat) (w : World) (hl : z.length = 138) (ha : a < 8) (hb : b < 8) (hq : ¬ gz z a = gz z b) (p0 : 0 ≤ gz z 136) (p1 : gz z 136 < 128) :
    Calls Tryd.prog 121 #[.agg (S z), .agg #[.int .i64 8, .int .i64 a, .int .i64 b, .int .i64 c, .int .i64 k]] w fun e' w' => e' = .returned (.agg (S (nxt z 8 a b c k))) ∧ Below w.heap.size w w' := by
  have hx : ∀ i, i < 138 → (S z)[i]? = some (.int .i64 (gz z i)) := fun i hi => S_get z i (by omega)
  have h136 := hx 136 (by omega)
  have hset := S_set
  have zz := zero34
  have haa := hx a (by omega)
  have hbb := hx b (by omega)
  have HN : Hid (Ending.returned (.agg (S (z.set 136 ((gz z 136 + 1) % 128)))) = .returned (.agg (S (nxt z 8 a b c k)))) := by simp [Hid, nxt, hq]
  have hq' : (gz z a == gz z b) = false := by simpa using hq
  clear hq
  have ha' : (a : Int) < 8 := by omega
  have hb' : (b : Int) < 8 := by omega
  clear hx
  go_enter Tryd.func121, Tryd.ntmps121
  go_wp2_with fail
  refine still_all (by kernel_rfl) (by kernel_rfl) ?_
  repeat still_step
  refine wpStill_nil ?_
  go_wp2_with (first | (refine wpList_load_S rfl _ rfl _ rfl (isRowB3d _ _ _ _ _ _ (by simp [S_size, hl])) _ (rowD3d _ _ _ _ _) ?_) | (refine wpList_store_S rfl _ _ rfl _ rfl _ rfl (by simp [hl]) (isRowB3d' _ _ _ _ _ _ (by simp [S_size, zeroZ])) _ (setRow3d _ _ _ _ _ _) ?_))
  exact bodyPost_ret (v := .agg (S (z.set 136 ((gz z 136 + 1) % 128)))) (results_cell_row Tryd.results121 _ _ _ 34 (S (z.set 136 ((gz z 136 + 1) % 128))) (0, 0) _ rfl (heap3 _ _ _ _) Tryd.underlying34 rfl (by rw [size34, S_size]; simp [hl])) rfl ⟨HN.out, below3d _ _ _ _⟩
end Go.Proofs.YtmmflekajbeamaaDoor

namespace Go.Proofs.YtmmflekajbeamaaDoor
open Go.RowKit

theorem kn_a {op a b c : Int} (h : knB op a b c = true) (h0 : op ≠ 0) (h9 : op ≠ 9) : a < 8 := by
  unfold knB at h
  rw [if_neg (by omega)] at h
  split at h
  · simpa using h
  · split at h
    · simp at h; omega
    · split at h
      · simp at h; omega
      · cases h
theorem kn_b {op a b c : Int} (h : knB op a b c = true) (h2 : 2 ≤ op) (h8 : op ≤ 8) : b < 8 := by
  unfold knB at h
  rw [if_neg (by omega), if_neg (by omega)] at h
  split at h
  · simp at h; omega
  · split at h
    · simp at h; omega
    · cases h
theorem kn_c {op a b c : Int} (h : knB op a b c = true) (h2 : 2 ≤ op) (h5 : op ≤ 5) : c < 8 := by
  unfold knB at h
  rw [if_neg (by omega), if_neg (by omega), if_pos (by omega)] at h
  simp at h; omega
theorem kn_op {op a b c : Int} (h : knB op a b c = true) (h0 : 0 ≤ op) : op ≤ 10 := by
  by_cases h' : 10 < op
  · rw [knB_no op a b c h'] at h; cases h
  · omega

theorem nxt_len (z : List Int) (op a b c k : Int) (hl : z.length = 138) : (nxt z op a b c k).length = 138 := by
  unfold nxt
  repeat' split
  all_goals simp [hl]

theorem perform_any (z : List Int) (op a b c k : Int) (w : World) (hl : z.length = 138) (hs : stB z = true) (hk : knB op a b c = true) (o0 : 0 ≤ op) (a0 : 0 ≤ a) (b0 : 0 ≤ b) (c0 : 0 ≤ c) (k0 : 0 ≤ k) (k1 : k < 4096) :
    Calls Tryd.prog 121 #[.agg (S z), .agg #[.int .i64 op, .int .i64 a, .int .i64 b, .int .i64 c, .int .i64 k]] w fun e' w' => e' = .returned (.agg (S (nxt z op a b c k))) ∧ Below w.heap.size w w' := by
  have hop := kn_op hk o0
  obtain ⟨p0, p1, _, _⟩ := stB_pc hs
  have hr := fun i hi => stB_reg hs i hi
  obtain ⟨A, rfl⟩ := Int.eq_ofNat_of_zero_le a0
  obtain ⟨B, rfl⟩ := Int.eq_ofNat_of_zero_le b0
  obtain ⟨C, rfl⟩ := Int.eq_ofNat_of_zero_le c0
  obtain ⟨K, rfl⟩ := Int.eq_ofNat_of_zero_le k0
  have h : op = 0 ∨ op = 1 ∨ op = 2 ∨ op = 3 ∨ op = 4 ∨ op = 5 ∨ op = 6 ∨ op = 7 ∨ op = 8 ∨ op = 9 ∨ op = 10 := by omega
  rcases h with rfl | rfl | rfl | rfl | rfl | rfl | rfl | rfl | rfl | rfl | rfl
  · exact perform_halt z A B C K w hl p0 p1
  · have := kn_a hk (by decide) (by decide)
    exact perform_set z A B C K w hl (by omega) p0 p1
  · have h1 := kn_a hk (by decide) (by decide); have h2 := kn_b hk (by decide) (by decide); have h3 := kn_c hk (by decide) (by decide)
    exact perform_add z A B C K w hl (by omega) (by omega) (by omega) (hr B (by omega)).1 (hr B (by omega)).2 (hr C (by omega)).1 (hr C (by omega)).2 p0 p1
  · have h1 := kn_a hk (by decide) (by decide); have h2 := kn_b hk (by decide) (by decide); have h3 := kn_c hk (by decide) (by decide)
    exact perform_sub z A B C K w hl (by omega) (by omega) (by omega) (hr B (by omega)).1 (hr B (by omega)).2 (hr C (by omega)).1 (hr C (by omega)).2 p0 p1
  · have h1 := kn_a hk (by decide) (by decide); have h2 := kn_b hk (by decide) (by decide); have h3 := kn_c hk (by decide) (by decide)
    exact perform_xor z A B C K w hl (by omega) (by omega) (by omega) (hr B (by omega)).1 (hr B (by omega)).2 (hr C (by omega)).1 (hr C (by omega)).2 p0 p1
  · have h1 := kn_a hk (by decide) (by decide); have h2 := kn_b hk (by decide) (by decide); have h3 := kn_c hk (by decide) (by decide)
    exact perform_mul z A B C K w hl (by omega) (by omega) (by omega) (hr B (by omega)).1 (hr B (by omega)).2 (hr C (by omega)).1 (hr C (by omega)).2 p0 p1
  · have h1 := kn_a hk (by decide) (by decide); have h2 := kn_b hk (by decide) (by decide)
    exact perform_load z A B C K w hl (by omega) (by omega) (by omega) (hr B (by omega)).1 (hr B (by omega)).2 p0 p1
  · have h1 := kn_a hk (by decide) (by decide); have h2 := kn_b hk (by decide) (by decide)
    exact perform_store z A B C K w hl (by omega) (by omega) (by omega) (hr B (by omega)).1 (hr B (by omega)).2 p0 p1
  · have h1 := kn_a hk (by decide) (by decide); have h2 := kn_b hk (by decide) (by decide)
    by_cases hq : gz z A = gz z B
    · exact perform_same_yes z A B C K w hl (by omega) (by omega) hq p0 p1
    · exact perform_same_no z A B C K w hl (by omega) (by omega) hq p0 p1
  · exact perform_jump z A B C K w hl p0 p1
  · have h1 := kn_a hk (by decide) (by decide)
    exact perform_turn z A B C K w hl (by omega) (hr A (by omega)).1 (hr A (by omega)).2 p0 p1


theorem build34 (w : World) : (Instr.build 34 #[]).run Tryd.prog w = .ok (.agg (S zeroZ)) w := by kernel_rfl

/-- Two blocks in a row: the state, the result. -/
def W2 (z : List Int) (w : World) : World := (w.alloc (.cells (S z) 34)).alloc (.cells (S zeroZ) 34)
theorem W2_size (z : List Int) (w : World) : (W2 z w).heap.size = w.heap.size + 1 + 1 := by simp [W2]
theorem W2_row0 (z : List Int) (w : World) (hl : z.length = 138) : isRowB (W2 z w) w.heap.size 138 = true := by
  unfold W2
  rw [isRowB_alloc_past _ _ _ _ (by simp), isRowB_alloc_at _ _ _ _ _ rfl]; simp [S_size, hl]
theorem W2_rowD0 (z : List Int) (w : World) : rowD (W2 z w) w.heap.size = S z := by
  unfold W2
  rw [rowD_alloc_past _ _ _ (by simp), rowD_alloc_at _ _ _ _ rfl]
theorem W2_row1 (z : List Int) (w : World) : isRowB (W2 z w) (w.heap.size + 1) 138 = true := by
  unfold W2
  rw [isRowB_alloc_at _ _ _ _ _ (by simp)]; simp [S_size, zeroZ]
theorem W2_below (z : List Int) (w : World) : Below w.heap.size w (W2 z w) := ((Below.refl _ _).alloc (Nat.le_refl _) _).alloc (by simp) _
theorem W2_cell (z : List Int) (w : World) (hl : z.length = 138) (i : Nat) (hi : i < 138) : (W2 z w).cell? ⟨w.heap.size, i, none⟩ = some (.int .i64 (gz z i)) := by
  unfold W2
  rw [World.cell?_alloc_past (hn := by simp), World.cell?_alloc_at (hn := rfl)]; exact S_get z i (by omega)
theorem W2_frozen (z : List Int) (w : World) (i : Nat) : (W2 z w).frozen? ⟨w.heap.size, i, none⟩ = false := by
  unfold W2
  rw [World.frozen?_alloc_past (hn := by simp), World.frozen?_alloc_at (hn := rfl)]

set_option maxRecDepth 100000 in
set_option maxHeartbeats 2000000 in
theorem mstep_bad (z : List Int) (w : World) (hl : z.length = 138) (hs : stB z = false) :
    Calls Tryd.prog 76 #[.agg (S z)] w fun e' w' => e' = .returned (.tuple #[.agg (S (zeroZ)), .int .i64 8]) ∧ Below w.heap.size w w' := by
  have zz := zero34
  have bb := build34
  have HI := hide (isState_any z (W2 z w) hl)
  rw [hs] at HI
  have R0 := W2_row0 z w hl
  have D0 := W2_rowD0 z w
  go_enter Tryd.func76, Tryd.ntmps76
  go_wp2_with (refine wpList_load_S rfl _ rfl _ rfl R0 _ D0 ?_)
  refine (unhide HI).mono ?_
  rintro e w1 ⟨rfl, hb⟩
  rw [W2_size] at hb
  have R1 : isRowB w1 (w.heap.size + 1) 138 = true := by rw [isRowB_below hb (by omega)]; exact W2_row1 z w
  have HB : Hid (Below w.heap.size w w1) := (W2_below z w).trans (hb.mono (by omega))
  obtain ⟨t, hg⟩ := heap_setRow_S R1 (S zeroZ)
  have HG := hide hg
  clear hb hg R0 D0
  go_wp2_with (refine wpList_store_S rfl _ _ rfl _ rfl _ rfl (by simp [zeroZ]) R1 _ rfl ?_)
  exact bodyPost_ret (v := .tuple #[.agg (S (zeroZ)), .int .i64 8]) (res_S Tryd.results76 _ _ _ t (zeroZ) (by simp [zeroZ]) rfl HG.out 8 rfl) rfl ⟨rfl, below_setRow HB.out (by omega) _⟩

set_option maxRecDepth 100000 in
set_option maxHeartbeats 2000000 in
theorem mstep_stop (z : List Int) (w : World) (hl : z.length = 138) (hs : stB z = true) (hp : gz z 137 ≠ 0) :
    Calls Tryd.prog 76 #[.agg (S z)] w fun e' w' => e' = .returned (.tuple #[.agg (S (zeroZ)), .int .i64 9]) ∧ Below w.heap.size w w' := by
  have zz := zero34
  have bb := build34
  have HI := hide (isState_any z (W2 z w) hl)
  rw [hs] at HI
  have R0 := W2_row0 z w hl
  have D0 := W2_rowD0 z w
  have hp' : (gz z 137 != 0) = true := by simpa using hp
  go_enter Tryd.func76, Tryd.ntmps76
  go_wp2_with (refine wpList_load_S rfl _ rfl _ rfl R0 _ D0 ?_)
  refine (unhide HI).mono ?_
  rintro e w1 ⟨rfl, hb⟩
  rw [W2_size] at hb
  have R1 : isRowB w1 (w.heap.size + 1) 138 = true := by rw [isRowB_below hb (by omega)]; exact W2_row1 z w
  have HB : Hid (Below w.heap.size w w1) := (W2_below z w).trans (hb.mono (by omega))
  have c137 : w1.cell? ⟨w.heap.size, 137, none⟩ = some (.int .i64 (gz z 137)) := by rw [hb.cell (p := ⟨w.heap.size, 137, none⟩) (by simp; omega)]; exact W2_cell z w hl 137 (by omega)
  obtain ⟨t, hg⟩ := heap_setRow_S R1 (S zeroZ)
  have HG := hide hg
  clear hb hg R0 D0 hp
  go_wp2_with (refine wpList_store_S rfl _ _ rfl _ rfl _ rfl (by simp [zeroZ]) R1 _ rfl ?_)
  exact bodyPost_ret (v := .tuple #[.agg (S (zeroZ)), .int .i64 9]) (res_S Tryd.results76 _ _ _ t (zeroZ) (by simp [zeroZ]) rfl HG.out 9 rfl) rfl ⟨rfl, below_setRow HB.out (by omega) _⟩

set_option maxRecDepth 100000 in
set_option maxHeartbeats 2000000 in
theorem mstep_trap (z : List Int) (w : World) (hl : z.length = 138) (hs : stB z = true) (hp : gz z 137 = 0) (P : Nat) (hP : gz z 136 = P) (hP1 : P < 128) (v : Int) (hv : gz z (8 + P) = v) (v0 : 0 ≤ v) (v1 : v < 4294967296) (hkn : knB (fop v) (fa v) (fb v) (fc v) = false) (ht : Tab w) :
    Calls Tryd.prog 76 #[.agg (S z)] w fun e' w' => e' = .returned (.tuple #[.agg (S (z.set 137 2)), .int .i64 0]) ∧ Below w.heap.size w w' := by
  have zz := zero34
  have bb := build34
  have HI := hide (isState_any z (W2 z w) hl)
  rw [hs] at HI
  have R0 := W2_row0 z w hl
  have D0 := W2_rowD0 z w
  have hP' : (P : Int) < 128 := by omega
  go_enter Tryd.func76, Tryd.ntmps76
  go_wp2_with (refine wpList_load_S rfl _ rfl _ rfl R0 _ D0 ?_)
  refine (unhide HI).mono ?_
  rintro e w1 ⟨rfl, hb⟩
  rw [W2_size] at hb
  have R1 : isRowB w1 (w.heap.size + 1) 138 = true := by rw [isRowB_below hb (by omega)]; exact W2_row1 z w
  have HB : Hid (Below w.heap.size w w1) := (W2_below z w).trans (hb.mono (by omega))
  have hc1 : ∀ i, i < 138 → w1.cell? ⟨w.heap.size, i, none⟩ = some (.int .i64 (gz z i)) := fun i hi => by rw [hb.cell (p := ⟨w.heap.size, i, none⟩) (by simp; omega)]; exact W2_cell z w hl i hi
  have q0 : isRowB w1 w.heap.size 138 = true := by rw [isRowB_below hb (by omega)]; exact R0
  have d0 : rowD w1 w.heap.size = S z := by rw [rowD_below hb (by omega)]; exact D0
  have hz1 : w.heap.size + 1 < w1.heap.size := by have := hb.size; rw [W2_size] at this; omega
  have fz1 : ∀ i, w1.frozen? ⟨w.heap.size, i, none⟩ = false := fun i => by rw [hb.frozen (p := ⟨w.heap.size, i, none⟩) (by simp; omega)]; exact W2_frozen z w i
  have ht1 : Tab w1 := ht.below ht.pos HB.out
  have c137 := hc1 137 (by omega)
  have c136 := hc1 136 (by omega)
  have cw : w1.cell? ⟨w.heap.size, 8 + P, none⟩ = some (.int .i64 v) := by rw [← hv]; exact hc1 (8 + P) (by omega)
  have HC := hide hc1
  clear hb R0 D0 hc1
  go_wp2_with fail
  refine (split_any v _ v0 v1).mono ?_
  rintro e w2 ⟨rfl, hb2⟩
  have HB2 : Hid (Below w.heap.size w w2) := HB.out.trans (hb2.mono (by omega))
  have R1 : isRowB w2 (w.heap.size + 1) 138 = true := by rw [isRowB_below hb2 (by omega)]; exact R1
  have q0 : isRowB w2 w.heap.size 138 = true := by rw [isRowB_below hb2 (by omega)]; exact q0
  have d0 : rowD w2 w.heap.size = S z := by rw [rowD_below hb2 (by omega)]; exact d0
  have hz2 : w1.heap.size ≤ w2.heap.size := hb2.size
  have fz2 : w2.frozen? ⟨w.heap.size, 137, none⟩ = false := by rw [hb2.frozen (p := ⟨w.heap.size, 137, none⟩) (by simp; omega)]; exact fz1 137
  have k137 : w2.cell? ⟨w.heap.size, 137, none⟩ = some (.int .i64 (gz z 137)) := by rw [hb2.cell (p := ⟨w.heap.size, 137, none⟩) (by simp; omega)]; exact c137
  have ht2 : Tab w2 := ht1.below ht1.pos hb2
  have HT := hide (fun o => isIns_any (fop v) (fa v) (fb v) (fc v) (fk v) (w2.alloc o) (fop_bd v).1 (ht2.below ht2.pos ((Below.refl _ _).alloc (Nat.le_refl _) o)))
  rw [hkn] at HT
  clear hb2 c136 c137 cw HC fz1 ht1 ht2
  go_wp2_with fail
  refine (unhide HT _).mono ?_
  rintro e w3 ⟨rfl, hb3⟩
  simp only [size_alloc1] at hb3
  have R1 : isRowB w3 (w.heap.size + 1) 138 = true := by rw [isRowB_below hb3 (by omega), isRowB_alloc_past _ _ _ _ (by omega)]; exact R1
  have q0 : isRowB w3 w.heap.size 138 = true := by rw [isRowB_below hb3 (by omega), isRowB_alloc_past _ _ _ _ (by omega)]; exact q0
  have d0 : rowD w3 w.heap.size = S z := by rw [rowD_below hb3 (by omega), rowD_alloc_past _ _ _ (by omega)]; exact d0
  have fz3 : w3.frozen? ⟨w.heap.size, 137, none⟩ = false := by rw [hb3.frozen (p := ⟨w.heap.size, 137, none⟩) (by simp; omega), World.frozen?_alloc_past (hn := by omega)]; exact fz2
  have n137 : w3.cell? ⟨w.heap.size, 137, none⟩ = some (.int .i64 (gz z 137)) := by rw [hb3.cell (p := ⟨w.heap.size, 137, none⟩) (by simp; omega), World.cell?_alloc_past (hn := by omega)]; exact k137
  have HB : Hid (Below w.heap.size w (w3.setCell ⟨w.heap.size, 137, none⟩ (.int .i64 2))) := ((HB2.out.alloc (by omega) _).trans (hb3.mono (by omega))).setCell (Nat.le_refl _) _
  have R2 : isRowB (w3.setCell ⟨w.heap.size, 137, none⟩ (.int .i64 2)) (w.heap.size + 1) 138 = true := isRowB_setCell_other R1 _ _ (by omega) _
  have q2 : isRowB (w3.setCell ⟨w.heap.size, 137, none⟩ (.int .i64 2)) w.heap.size 138 = true := isRowB_setCell q0 _ _
  have d2 : rowD (w3.setCell ⟨w.heap.size, 137, none⟩ (.int .i64 2)) w.heap.size = S (z.set 137 2) := by rw [rowD_setCell q0, d0, S_set]
  obtain ⟨t, hg⟩ := heap_setRow_S R2 (S (z.set 137 2))
  have HG := hide hg
  clear hb3 hg
  go_wp2_with (first | (refine wpList_load_S rfl _ rfl _ rfl q2 _ d2 ?_) | (refine wpList_store_S rfl _ _ rfl _ rfl _ rfl (by simp [hl]) R2 _ rfl ?_))
  exact bodyPost_ret (v := .tuple #[.agg (S (z.set 137 2)), .int .i64 0]) (res_S Tryd.results76 _ _ _ t (z.set 137 2) (by simp [hl]) rfl HG.out 0 rfl) rfl ⟨rfl, below_setRow HB.out (by omega) _⟩

set_option maxRecDepth 100000 in
set_option maxHeartbeats 2000000 in
theorem mstep_go (z : List Int) (w : World) (hl : z.length = 138) (hs : stB z = true) (hp : gz z 137 = 0) (P : Nat) (hP : gz z 136 = P) (hP1 : P < 128) (v : Int) (hv : gz z (8 + P) = v) (v0 : 0 ≤ v) (v1 : v < 4294967296) (hkn : knB (fop v) (fa v) (fb v) (fc v) = true) (ht : Tab w) :
    Calls Tryd.prog 76 #[.agg (S z)] w fun e' w' => e' = .returned (.tuple #[.agg (S (nxt z (fop v) (fa v) (fb v) (fc v) (fk v))), .int .i64 0]) ∧ Below w.heap.size w w' := by
  have zz := zero34
  have bb := build34
  have HI := hide (isState_any z (W2 z w) hl)
  rw [hs] at HI
  have R0 := W2_row0 z w hl
  have D0 := W2_rowD0 z w
  have hP' : (P : Int) < 128 := by omega
  go_enter Tryd.func76, Tryd.ntmps76
  go_wp2_with (refine wpList_load_S rfl _ rfl _ rfl R0 _ D0 ?_)
  refine (unhide HI).mono ?_
  rintro e w1 ⟨rfl, hb⟩
  rw [W2_size] at hb
  have R1 : isRowB w1 (w.heap.size + 1) 138 = true := by rw [isRowB_below hb (by omega)]; exact W2_row1 z w
  have HB : Hid (Below w.heap.size w w1) := (W2_below z w).trans (hb.mono (by omega))
  have hc1 : ∀ i, i < 138 → w1.cell? ⟨w.heap.size, i, none⟩ = some (.int .i64 (gz z i)) := fun i hi => by rw [hb.cell (p := ⟨w.heap.size, i, none⟩) (by simp; omega)]; exact W2_cell z w hl i hi
  have q0 : isRowB w1 w.heap.size 138 = true := by rw [isRowB_below hb (by omega)]; exact R0
  have d0 : rowD w1 w.heap.size = S z := by rw [rowD_below hb (by omega)]; exact D0
  have hz1 : w.heap.size + 1 < w1.heap.size := by have := hb.size; rw [W2_size] at this; omega
  have fz1 : ∀ i, w1.frozen? ⟨w.heap.size, i, none⟩ = false := fun i => by rw [hb.frozen (p := ⟨w.heap.size, i, none⟩) (by simp; omega)]; exact W2_frozen z w i
  have ht1 : Tab w1 := ht.below ht.pos HB.out
  have c137 := hc1 137 (by omega)
  have c136 := hc1 136 (by omega)
  have cw : w1.cell? ⟨w.heap.size, 8 + P, none⟩ = some (.int .i64 v) := by rw [← hv]; exact hc1 (8 + P) (by omega)
  have HC := hide hc1
  clear hb R0 D0 hc1
  go_wp2_with fail
  refine (split_any v _ v0 v1).mono ?_
  rintro e w2 ⟨rfl, hb2⟩
  have HB2 : Hid (Below w.heap.size w w2) := HB.out.trans (hb2.mono (by omega))
  have R1 : isRowB w2 (w.heap.size + 1) 138 = true := by rw [isRowB_below hb2 (by omega)]; exact R1
  have q0 : isRowB w2 w.heap.size 138 = true := by rw [isRowB_below hb2 (by omega)]; exact q0
  have d0 : rowD w2 w.heap.size = S z := by rw [rowD_below hb2 (by omega)]; exact d0
  have hz2 : w1.heap.size ≤ w2.heap.size := hb2.size
  have fz2 : w2.frozen? ⟨w.heap.size, 137, none⟩ = false := by rw [hb2.frozen (p := ⟨w.heap.size, 137, none⟩) (by simp; omega)]; exact fz1 137
  have k137 : w2.cell? ⟨w.heap.size, 137, none⟩ = some (.int .i64 (gz z 137)) := by rw [hb2.cell (p := ⟨w.heap.size, 137, none⟩) (by simp; omega)]; exact c137
  have ht2 : Tab w2 := ht1.below ht1.pos hb2
  have HT := hide (fun o => isIns_any (fop v) (fa v) (fb v) (fc v) (fk v) (w2.alloc o) (fop_bd v).1 (ht2.below ht2.pos ((Below.refl _ _).alloc (Nat.le_refl _) o)))
  rw [hkn] at HT
  clear hb2 c136 c137 cw HC fz1 ht1 ht2
  go_wp2_with fail
  refine (unhide HT _).mono ?_
  rintro e w3 ⟨rfl, hb3⟩
  simp only [size_alloc1] at hb3
  have R1 : isRowB w3 (w.heap.size + 1) 138 = true := by rw [isRowB_below hb3 (by omega), isRowB_alloc_past _ _ _ _ (by omega)]; exact R1
  have q0 : isRowB w3 w.heap.size 138 = true := by rw [isRowB_below hb3 (by omega), isRowB_alloc_past _ _ _ _ (by omega)]; exact q0
  have d0 : rowD w3 w.heap.size = S z := by rw [rowD_below hb3 (by omega), rowD_alloc_past _ _ _ (by omega)]; exact d0
  have e0 : w3.cell? ⟨w2.heap.size, 0, none⟩ = some (.int .i64 (fop v)) := by rw [hb3.cell (p := ⟨w2.heap.size, 0, none⟩) (by simp), World.cell?_alloc_at (hn := rfl)]; rfl
  have e1 : w3.cell? ⟨w2.heap.size, 1, none⟩ = some (.int .i64 (fa v)) := by rw [hb3.cell (p := ⟨w2.heap.size, 1, none⟩) (by simp), World.cell?_alloc_at (hn := rfl)]; rfl
  have e2 : w3.cell? ⟨w2.heap.size, 2, none⟩ = some (.int .i64 (fb v)) := by rw [hb3.cell (p := ⟨w2.heap.size, 2, none⟩) (by simp), World.cell?_alloc_at (hn := rfl)]; rfl
  have e3 : w3.cell? ⟨w2.heap.size, 3, none⟩ = some (.int .i64 (fc v)) := by rw [hb3.cell (p := ⟨w2.heap.size, 3, none⟩) (by simp), World.cell?_alloc_at (hn := rfl)]; rfl
  have e4 : w3.cell? ⟨w2.heap.size, 4, none⟩ = some (.int .i64 (fk v)) := by rw [hb3.cell (p := ⟨w2.heap.size, 4, none⟩) (by simp), World.cell?_alloc_at (hn := rfl)]; rfl
  have hz3 : w2.heap.size < w3.heap.size := by have := hb3.size; simp at this; omega
  have HB3 : Hid (Below w.heap.size w w3) := (HB2.out.alloc (by omega) _).trans (hb3.mono (by omega))
  clear hb3
  go_wp2_with (refine wpList_load_S rfl _ rfl _ rfl q0 _ d0 ?_)
  refine (perform_any z (fop v) (fa v) (fb v) (fc v) (fk v) _ hl hs hkn (fop_bd v).1 (fa_bd v).1 (fb_bd v).1 (fc_bd v).1 (fk_bd v).1 (fk_bd v).2).mono ?_
  rintro e w4 ⟨rfl, hb4⟩
  have HB : Hid (Below w.heap.size w w4) := HB3.out.trans (hb4.mono (by omega))
  have R2 : isRowB w4 (w.heap.size + 1) 138 = true := by rw [isRowB_below hb4 (by omega)]; exact R1
  obtain ⟨t, hg⟩ := heap_setRow_S R2 (S (nxt z (fop v) (fa v) (fb v) (fc v) (fk v)))
  have HG := hide hg
  have HL := hide (nxt_len z (fop v) (fa v) (fb v) (fc v) (fk v) hl)
  clear hb4 hg
  go_wp2_with (refine wpList_store_S rfl _ _ rfl _ rfl _ rfl HL.out R2 _ rfl ?_)
  exact bodyPost_ret (v := .tuple #[.agg (S (nxt z (fop v) (fa v) (fb v) (fc v) (fk v))), .int .i64 0]) (res_S Tryd.results76 _ _ _ t (nxt z (fop v) (fa v) (fb v) (fc v) (fk v)) HL.out rfl HG.out 0 rfl) rfl ⟨rfl, below_setRow HB.out (by omega) _⟩

end Go.Proofs.YtmmflekajbeamaaDoor
