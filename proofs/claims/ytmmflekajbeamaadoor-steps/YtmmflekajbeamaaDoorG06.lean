/-
  perform: an instruction done on a machine that runs, an OP a theorem (add, sub, xor, mul).
  perform: an instruction done on a machine that runs, an OP a theorem (load, store, same).
-/
import Derived.Test.YtmmflekajbeamaaDoorG05
namespace Go.Proofs.YtmmflekajbeamaaDoor
open Go.RowKit

set_option maxRecDepth 100000 in
set_option maxHeartbeats 2000000 in
theorem perform_add (z : List Int) (a b c k : Nat) (w : World) (hl : z.length = 138) (ha : a < 8) (hb : b < 8) (hc : c < 8) (r0 : 0 ≤ gz z b) (r1 : gz z b < 4294967296) (s0 : 0 ≤ gz z c) (s1 : gz z c < 4294967296) (p0 : 0 ≤ gz z 136) (p1 : gz z 136 < 128) :
    Calls Tryd.prog 121 #[.agg (S z), .agg #[.int .i64 2, .int .i64 a, .int .i64 b, .int .i64 c, .int .i64 k]] w fun e' w' => e' = .returned (.agg (S (nxt z 2 a b c k))) ∧ Below w.heap.size w w' := by
  have hx : ∀ i, i < 138 → (S z)[i]? = some (.int .i64 (gz z i)) := fun i hi => S_get z i (by omega)
  have h136 := hx 136 (by omega)
  have hset := S_set
  have zz := zero34
  have haa := hx a (by omega)
  have hbb := hx b (by omega)
  have hcc := hx c (by omega)
  have HN : Hid (Ending.returned (.agg (S ((z.set a (wk 2 (gz z b) (gz z c))).set 136 ((gz z 136 + 1) % 128)))) = .returned (.agg (S (nxt z 2 a b c k)))) := by simp [Hid, nxt]
  have HR := hide (fun w' => reckon_any 2 (gz z b) (gz z c) w' r0 r1 s0 s1 (by decide) (by decide))
  generalize wk 2 (gz z b) (gz z c) = r at *
  have g136 : (S (z.set a r))[136]? = some (.int .i64 (gz (z.set a r) 136)) := S_get _ _ (by simp [hl])
  have ha' : (a : Int) < 8 := by omega
  have hb' : (b : Int) < 8 := by omega
  have hc' : (c : Int) < 8 := by omega
  clear hx
  go_enter Tryd.func121, Tryd.ntmps121
  go_wp2_with fail
  refine still_tail 17 (by kernel_rfl) (by kernel_rfl) ?_
  simp only [List.take_succ_cons, List.take_zero, List.drop_succ_cons, List.drop_zero]
  repeat still_step
  still_call (unhide HR _)
  repeat still_step
  refine wpStill_nil ?_
  go_wp2_with (first | (refine wpList_load_S rfl _ rfl _ rfl (isRowB3d _ _ _ _ _ _ (by simp [S_size, hl])) _ (rowD3d _ _ _ _ _) ?_) | (refine wpList_store_S rfl _ _ rfl _ rfl _ rfl (by simp [hl]) (isRowB3d' _ _ _ _ _ _ (by simp [S_size, zeroZ])) _ (setRow3d _ _ _ _ _ _) ?_))
  exact bodyPost_ret (v := .agg (S ((z.set a r).set 136 ((gz z 136 + 1) % 128)))) (results_cell_row Tryd.results121 _ _ _ 34 (S ((z.set a r).set 136 ((gz z 136 + 1) % 128))) (0, 0) _ rfl (heap3 _ _ _ _) Tryd.underlying34 rfl (by rw [size34, S_size]; simp [hl])) rfl ⟨HN.out, below3d _ _ _ _⟩

set_option maxRecDepth 100000 in
set_option maxHeartbeats 2000000 in
theorem perform_sub (z : List Int) (a b c k : Nat) (w : World) (hl : z.length = 138) (ha : a < 8) (hb : b < 8) (hc : c < 8) (r0 : 0 ≤ gz z b) (r1 : gz z b < 4294967296) (s0 : 0 ≤ gz z c) (s1 : gz z c < 4294967296) (p0 : 0 ≤ gz z 136) (p1 : gz z 136 < 128) :
    Calls Tryd.prog 121 #[.agg (S z), .agg #[.int .i64 3, .int .i64 a, .int .i64 b, .int .i64 c, .int .i64 k]] w fun e' w' => e' = .returned (.agg (S (nxt z 3 a b c k))) ∧ Below w.heap.size w w' := by
  have hx : ∀ i, i < 138 → (S z)[i]? = some (.int .i64 (gz z i)) := fun i hi => S_get z i (by omega)
  have h136 := hx 136 (by omega)
  have hset := S_set
  have zz := zero34
  have haa := hx a (by omega)
  have hbb := hx b (by omega)
  have hcc := hx c (by omega)
  have HN : Hid (Ending.returned (.agg (S ((z.set a (wk 3 (gz z b) (gz z c))).set 136 ((gz z 136 + 1) % 128)))) = .returned (.agg (S (nxt z 3 a b c k)))) := by simp [Hid, nxt]
  have HR := hide (fun w' => reckon_any 3 (gz z b) (gz z c) w' r0 r1 s0 s1 (by decide) (by decide))
  generalize wk 3 (gz z b) (gz z c) = r at *
  have g136 : (S (z.set a r))[136]? = some (.int .i64 (gz (z.set a r) 136)) := S_get _ _ (by simp [hl])
  have ha' : (a : Int) < 8 := by omega
  have hb' : (b : Int) < 8 := by omega
  have hc' : (c : Int) < 8 := by omega
  clear hx
  go_enter Tryd.func121, Tryd.ntmps121
  go_wp2_with fail
  refine still_tail 17 (by kernel_rfl) (by kernel_rfl) ?_
  simp only [List.take_succ_cons, List.take_zero, List.drop_succ_cons, List.drop_zero]
  repeat still_step
  still_call (unhide HR _)
  repeat still_step
  refine wpStill_nil ?_
  go_wp2_with (first | (refine wpList_load_S rfl _ rfl _ rfl (isRowB3d _ _ _ _ _ _ (by simp [S_size, hl])) _ (rowD3d _ _ _ _ _) ?_) | (refine wpList_store_S rfl _ _ rfl _ rfl _ rfl (by simp [hl]) (isRowB3d' _ _ _ _ _ _ (by simp [S_size, zeroZ])) _ (setRow3d _ _ _ _ _ _) ?_))
  exact bodyPost_ret (v := .agg (S ((z.set a r).set 136 ((gz z 136 + 1) % 128)))) (results_cell_row Tryd.results121 _ _ _ 34 (S ((z.set a r).set 136 ((gz z 136 + 1) % 128))) (0, 0) _ rfl (heap3 _ _ _ _) Tryd.underlying34 rfl (by rw [size34, S_size]; simp [hl])) rfl ⟨HN.out, below3d _ _ _ _⟩

set_option maxRecDepth 100000 in
set_option maxHeartbeats 2000000 in
theorem perform_xor (z : List Int) (a b c k : Nat) (w : World) (hl : z.length = 138) (ha : a < 8) (hb : b < 8) (hc : c < 8) (r0 : 0 ≤ gz z b) (r1 : gz z b < 4294967296) (s0 : 0 ≤ gz z c) (s1 : gz z c < 4294967296) (p0 : 0 ≤ gz z 136) (p1 : gz z 136 < 128) :
    Calls Tryd.prog 121 #[.agg (S z), .agg #[.int .i64 4, .int .i64 a, .int .i64 b, .int .i64 c, .int .i64 k]] w fun e' w' => e' = .returned (.agg (S (nxt z 4 a b c k))) ∧ Below w.heap.size w w' := by
  have hx : ∀ i, i < 138 → (S z)[i]? = some (.int .i64 (gz z i)) := fun i hi => S_get z i (by omega)
  have h136 := hx 136 (by omega)
  have hset := S_set
  have zz := zero34
  have haa := hx a (by omega)
  have hbb := hx b (by omega)
  have hcc := hx c (by omega)
  have HN : Hid (Ending.returned (.agg (S ((z.set a (wk 4 (gz z b) (gz z c))).set 136 ((gz z 136 + 1) % 128)))) = .returned (.agg (S (nxt z 4 a b c k)))) := by simp [Hid, nxt]
  have HR := hide (fun w' => reckon_any 4 (gz z b) (gz z c) w' r0 r1 s0 s1 (by decide) (by decide))
  generalize wk 4 (gz z b) (gz z c) = r at *
  have g136 : (S (z.set a r))[136]? = some (.int .i64 (gz (z.set a r) 136)) := S_get _ _ (by simp [hl])
  have ha' : (a : Int) < 8 := by omega
  have hb' : (b : Int) < 8 := by omega
  have hc' : (c : Int) < 8 := by omega
  clear hx
  go_enter Tryd.func121, Tryd.ntmps121
  go_wp2_with fail
  refine still_tail 17 (by kernel_rfl) (by kernel_rfl) ?_
  simp only [List.take_succ_cons, List.take_zero, List.drop_succ_cons, List.drop_zero]
  repeat still_step
  still_call (unhide HR _)
  repeat still_step
  refine wpStill_nil ?_
  go_wp2_with (first | (refine wpList_load_S rfl _ rfl _ rfl (isRowB3d _ _ _ _ _ _ (by simp [S_size, hl])) _ (rowD3d _ _ _ _ _) ?_) | (refine wpList_store_S rfl _ _ rfl _ rfl _ rfl (by simp [hl]) (isRowB3d' _ _ _ _ _ _ (by simp [S_size, zeroZ])) _ (setRow3d _ _ _ _ _ _) ?_))
  exact bodyPost_ret (v := .agg (S ((z.set a r).set 136 ((gz z 136 + 1) % 128)))) (results_cell_row Tryd.results121 _ _ _ 34 (S ((z.set a r).set 136 ((gz z 136 + 1) % 128))) (0, 0) _ rfl (heap3 _ _ _ _) Tryd.underlying34 rfl (by rw [size34, S_size]; simp [hl])) rfl ⟨HN.out, below3d _ _ _ _⟩

set_option maxRecDepth 100000 in
set_option maxHeartbeats 2000000 in
theorem perform_mul (z : List Int) (a b c k : Nat) (w : World) (hl : z.length = 138) (ha : a < 8) (hb : b < 8) (hc : c < 8) (r0 : 0 ≤ gz z b) (r1 : gz z b < 4294967296) (s0 : 0 ≤ gz z c) (s1 : gz z c < 4294967296) (p0 : 0 ≤ gz z 136) (p1 : gz z 136 < 128) :
    Calls Tryd.prog 121 #[.agg (S z), .agg #[.int .i64 5, .int .i64 a, .int .i64 b, .int .i64 c, .int .i64 k]] w fun e' w' => e' = .returned (.agg (S (nxt z 5 a b c k))) ∧ Below w.heap.size w w' := by
  have hx : ∀ i, i < 138 → (S z)[i]? = some (.int .i64 (gz z i)) := fun i hi => S_get z i (by omega)
  have h136 := hx 136 (by omega)
  have hset := S_set
  have zz := zero34
  have haa := hx a (by omega)
  have hbb := hx b (by omega)
  have hcc := hx c (by omega)
  have HN : Hid (Ending.returned (.agg (S ((z.set a (wk 5 (gz z b) (gz z c))).set 136 ((gz z 136 + 1) % 128)))) = .returned (.agg (S (nxt z 5 a b c k)))) := by simp [Hid, nxt]
  have HR := hide (fun w' => reckon_any 5 (gz z b) (gz z c) w' r0 r1 s0 s1 (by decide) (by decide))
  generalize wk 5 (gz z b) (gz z c) = r at *
  have g136 : (S (z.set a r))[136]? = some (.int .i64 (gz (z.set a r) 136)) := S_get _ _ (by simp [hl])
  have ha' : (a : Int) < 8 := by omega
  have hb' : (b : Int) < 8 := by omega
  have hc' : (c : Int) < 8 := by omega
  clear hx
  go_enter Tryd.func121, Tryd.ntmps121
  go_wp2_with fail
  refine still_tail 17 (by kernel_rfl) (by kernel_rfl) ?_
  simp only [List.take_succ_cons, List.take_zero, List.drop_succ_cons, List.drop_zero]
  repeat still_step
  still_call (unhide HR _)
  repeat still_step
  refine wpStill_nil ?_
  go_wp2_with (first | (refine wpList_load_S rfl _ rfl _ rfl (isRowB3d _ _ _ _ _ _ (by simp [S_size, hl])) _ (rowD3d _ _ _ _ _) ?_) | (refine wpList_store_S rfl _ _ rfl _ rfl _ rfl (by simp [hl]) (isRowB3d' _ _ _ _ _ _ (by simp [S_size, zeroZ])) _ (setRow3d _ _ _ _ _ _) ?_))
  exact bodyPost_ret (v := .agg (S ((z.set a r).set 136 ((gz z 136 + 1) % 128)))) (results_cell_row Tryd.results121 _ _ _ 34 (S ((z.set a r).set 136 ((gz z 136 + 1) % 128))) (0, 0) _ rfl (heap3 _ _ _ _) Tryd.underlying34 rfl (by rw [size34, S_size]; simp [hl])) rfl ⟨HN.out, below3d _ _ _ _⟩
end Go.Proofs.YtmmflekajbeamaaDoor

namespace Go.Proofs.YtmmflekajbeamaaDoor
open Go.RowKit

set_option maxRecDepth 100000 in
set_option maxHeartbeats 2000000 in
theorem perform_load (z : List Int) (a b c k : Nat) (w : World) (hl : z.length = 138) (ha : a < 8) (hb : b < 8) (hk : k < 4096) (r0 : 0 ≤ gz z b) (r1 : gz z b < 4294967296) (p0 : 0 ≤ gz z 136) (p1 : gz z 136 < 128) :
    Calls Tryd.prog 121 #[.agg (S z), .agg #[.int .i64 6, .int .i64 a, .int .i64 b, .int .i64 c, .int .i64 k]] w fun e' w' => e' = .returned (.agg (S (nxt z 6 a b c k))) ∧ Below w.heap.size w w' := by
  have hx : ∀ i, i < 138 → (S z)[i]? = some (.int .i64 (gz z i)) := fun i hi => S_get z i (by omega)
  have h136 := hx 136 (by omega)
  have hset := S_set
  have zz := zero34
  have haa := hx a (by omega)
  have hbb := hx b (by omega)
  obtain ⟨m, hm⟩ := Int.eq_ofNat_of_zero_le (show 0 ≤ (gz z b + (k : Int)) % 128 by omega)
  have hm1 : m < 128 := by omega
  have hmm := hx (8 + m) (by omega)
  have HN : Hid (Ending.returned (.agg (S ((z.set a (gz z (8 + m))).set 136 ((gz z 136 + 1) % 128)))) = .returned (.agg (S (nxt z 6 a b c k)))) := by simp [Hid, nxt, hm]
  have HR := hide (fun w' => address_any (gz z b) k w' r0 r1 (by omega) (by omega))
  rw [hm] at HR
  clear hm
  generalize gz z (8 + m) = r at *
  have g136 : (S (z.set a r))[136]? = some (.int .i64 (gz (z.set a r) 136)) := S_get _ _ (by simp [hl])
  have ha' : (a : Int) < 8 := by omega
  have hb' : (b : Int) < 8 := by omega
  have hm' : (m : Int) < 128 := by omega
  clear hx
  go_enter Tryd.func121, Tryd.ntmps121
  go_wp2_with fail
  refine still_tail 15 (by kernel_rfl) (by kernel_rfl) ?_
  simp only [List.take_succ_cons, List.take_zero, List.drop_succ_cons, List.drop_zero]
  repeat still_step
  still_call (unhide HR _)
  repeat still_step
  refine wpStill_nil ?_
  go_wp2_with (first | (refine wpList_load_S rfl _ rfl _ rfl (isRowB3d _ _ _ _ _ _ (by simp [S_size, hl])) _ (rowD3d _ _ _ _ _) ?_) | (refine wpList_store_S rfl _ _ rfl _ rfl _ rfl (by simp [hl]) (isRowB3d' _ _ _ _ _ _ (by simp [S_size, zeroZ])) _ (setRow3d _ _ _ _ _ _) ?_))
  exact bodyPost_ret (v := .agg (S ((z.set a r).set 136 ((gz z 136 + 1) % 128)))) (results_cell_row Tryd.results121 _ _ _ 34 (S ((z.set a r).set 136 ((gz z 136 + 1) % 128))) (0, 0) _ rfl (heap3 _ _ _ _) Tryd.underlying34 rfl (by rw [size34, S_size]; simp [hl])) rfl ⟨HN.out, below3d _ _ _ _⟩

set_option maxRecDepth 100000 in
set_option maxHeartbeats 2000000 in
theorem perform_store (z : List Int) (a b c k : Nat) (w : World) (hl : z.length = 138) (ha : a < 8) (hb : b < 8) (hk : k < 4096) (r0 : 0 ≤ gz z b) (r1 : gz z b < 4294967296) (p0 : 0 ≤ gz z 136) (p1 : gz z 136 < 128) :
    Calls Tryd.prog 121 #[.agg (S z), .agg #[.int .i64 7, .int .i64 a, .int .i64 b, .int .i64 c, .int .i64 k]] w fun e' w' => e' = .returned (.agg (S (nxt z 7 a b c k))) ∧ Below w.heap.size w w' := by
  have hx : ∀ i, i < 138 → (S z)[i]? = some (.int .i64 (gz z i)) := fun i hi => S_get z i (by omega)
  have h136 := hx 136 (by omega)
  have hset := S_set
  have zz := zero34
  have haa := hx a (by omega)
  have hbb := hx b (by omega)
  obtain ⟨m, hm⟩ := Int.eq_ofNat_of_zero_le (show 0 ≤ (gz z b + (k : Int)) % 128 by omega)
  have hm1 : m < 128 := by omega
  have hmm := hx (8 + m) (by omega)
  have HN : Hid (Ending.returned (.agg (S ((z.set (8 + m) (gz z a)).set 136 ((gz z 136 + 1) % 128)))) = .returned (.agg (S (nxt z 7 a b c k)))) := by simp [Hid, nxt, hm]
  have HR := hide (fun w' => address_any (gz z b) k w' r0 r1 (by omega) (by omega))
  rw [hm] at HR
  clear hm
  have g136 : (S (z.set (8 + m) (gz z a)))[136]? = some (.int .i64 (gz (z.set (8 + m) (gz z a)) 136)) := S_get _ _ (by simp [hl])
  have ha' : (a : Int) < 8 := by omega
  have hb' : (b : Int) < 8 := by omega
  have hm' : (m : Int) < 128 := by omega
  clear hx
  go_enter Tryd.func121, Tryd.ntmps121
  go_wp2_with fail
  refine still_tail 15 (by kernel_rfl) (by kernel_rfl) ?_
  simp only [List.take_succ_cons, List.take_zero, List.drop_succ_cons, List.drop_zero]
  repeat still_step
  still_call (unhide HR _)
  repeat still_step
  refine wpStill_nil ?_
  go_wp2_with (first | (refine wpList_load_S rfl _ rfl _ rfl (isRowB3d _ _ _ _ _ _ (by simp [S_size, hl])) _ (rowD3d _ _ _ _ _) ?_) | (refine wpList_store_S rfl _ _ rfl _ rfl _ rfl (by simp [hl]) (isRowB3d' _ _ _ _ _ _ (by simp [S_size, zeroZ])) _ (setRow3d _ _ _ _ _ _) ?_))
  exact bodyPost_ret (v := .agg (S ((z.set (8 + m) (gz z a)).set 136 ((gz z 136 + 1) % 128)))) (results_cell_row Tryd.results121 _ _ _ 34 (S ((z.set (8 + m) (gz z a)).set 136 ((gz z 136 + 1) % 128))) (0, 0) _ rfl (heap3 _ _ _ _) Tryd.underlying34 rfl (by rw [size34, S_size]; simp [hl])) rfl ⟨HN.out, below3d _ _ _ _⟩

set_option maxRecDepth 100000 in
set_option maxHeartbeats 2000000 in
theorem perform_same_yes (z : List Int) (a b c k : Nat) (w : World) (hl : z.length = 138) (ha : a < 8) (hb : b < 8) (hq : gz z a = gz z b) (p0 : 0 ≤ gz z 136) (p1 : gz z 136 < 128) :
    Calls Tryd.prog 121 #[.agg (S z), .agg #[.int .i64 8, .int .i64 a, .int .i64 b, .int .i64 c, .int .i64 k]] w fun e' w' => e' = .returned (.agg (S (nxt z 8 a b c k))) ∧ Below w.heap.size w w' := by
  have hx : ∀ i, i < 138 → (S z)[i]? = some (.int .i64 (gz z i)) := fun i hi => S_get z i (by omega)
  have h136 := hx 136 (by omega)
  have hset := S_set
  have zz := zero34
  have haa := hx a (by omega)
  have hbb := hx b (by omega)
  have HN : Hid (Ending.returned (.agg (S (z.set 136 ((k : Int) % 128)))) = .returned (.agg (S (nxt z 8 a b c k)))) := by simp [Hid, nxt, hq]
  have hq' : (gz z a == gz z b) = true := by simpa using hq
  clear hq
  have ha' : (a : Int) < 8 := by omega
  have hb' : (b : Int) < 8 := by omega
  clear hx
  go_enter Tryd.func121, Tryd.ntmps121
  go_wp2_with fail
  refine still_all (by kernel_rfl) (by kernel_rfl) ?_
  repeat still_step
  refine wpStill_nil ?_
  go_wp2_with (first | (refine wpList_load_S rfl _ rfl _ rfl (isRowB3d _ _ _ _ _ _ (by simp [S_size, hl])) _ (rowD3d _ _ _ _ _) ?_) | (refine wpList_store_S rfl _ _ rfl _ rfl _ rfl (by simp [hl]) (isRowB3d' _ _ _ _ _ _ (by simp [S_size, zeroZ])) _ (setRow3d _ _ _ _ _ _) ?_))
  exact bodyPost_ret (v := .agg (S (z.set 136 ((k : Int) % 128)))) (results_cell_row Tryd.results121 _ _ _ 34 (S (z.set 136 ((k : Int) % 128))) (0, 0) _ rfl (heap3 _ _ _ _) Tryd.underlying34 rfl (by rw [size34, S_size]; simp [hl])) rfl ⟨HN.out, below3d _ _ _ _⟩

set_option maxRecDepth 100000 in
set_option maxHeartbeats 2000000 in
theorem perform_same_no (z : List Int) (a b c k : Nat) (w : World) (hl : z.length = 138) (ha : a < 8) (hb : b < 8) (hq : ¬ gz z a = gz z b) (p0 : 0 ≤ gz z 136) (p1 : gz z 136 < 128) :
    Calls Tryd.prog 121 #[.agg (S z), .agg #[.int .i64 8, .int .i64 a, .int .i64 b, .int .i64 c, .int .i64 k]] w fun e' w' => e' = .returned (.agg (S (nxt z 8 a b c k))) ∧ Below w.heap.size w w' := by
  have hx : ∀ i, i < 138 → (S z)[i]? = some (.int .i64 (gz z i)) := fun i hi => S_get z i (by omega)
  have h136 := hx 136 (by omega)
  have hset := S_set
  have zz := zero34
  have haa := hx a (by omega)
  have hbb := hx b (by omega)
  have HN : Hid (Ending.returned (.agg (S (z.set 136 ((gz z 136 + 1) % 128)))) = .returned (.agg (S (nxt z 8 a b c k)))) := by simp [Hid, nxt, hq]
  have hq' : (gz z a == gz z b) = false := by simpa using hq
  clear hq
  have ha' : (a : Int) < 8 := by omega
  have hb' : (b : Int) < 8 := by omega
  clear hx
  go_enter Tryd.func121, Tryd.ntmps121
  go_wp2_with fail
  refine still_all (by kernel_rfl) (by kernel_rfl) ?_
  repeat still_step
  refine wpStill_nil ?_
  go_wp2_with (first | (refine wpList_load_S rfl _ rfl _ rfl (isRowB3d _ _ _ _ _ _ (by simp [S_size, hl])) _ (rowD3d _ _ _ _ _) ?_) | (refine wpList_store_S rfl _ _ rfl _ rfl _ rfl (by simp [hl]) (isRowB3d' _ _ _ _ _ _ (by simp [S_size, zeroZ])) _ (setRow3d _ _ _ _ _ _) ?_))
  exact bodyPost_ret (v := .agg (S (z.set 136 ((gz z 136 + 1) % 128)))) (results_cell_row Tryd.results121 _ _ _ 34 (S (z.set 136 ((gz z 136 + 1) % 128))) (0, 0) _ rfl (heap3 _ _ _ _) Tryd.underlying34 rfl (by rw [size34, S_size]; simp [hl])) rfl ⟨HN.out, below3d _ _ _ _⟩
end Go.Proofs.YtmmflekajbeamaaDoor
