/-
  perform: an instruction done on a machine that runs, an OP a theorem (halt, set, jump, turn).
-/
import Derived.Test.YtgggaepeeaelhaaDoorStD
namespace Go.Proofs.YtgggaepeeaelhaaDoor
open Go.RowKit

set_option maxRecDepth 100000 in
set_option maxHeartbeats 2000000 in
theorem perform_halt (z : List Int) (a b c k : Nat) (w : World) (hl : z.length = 138)  (p0 : 0 ≤ gz z 136) (p1 : gz z 136 < 128) :
    Calls Tryd.prog 121 #[.agg (S z), .agg #[.int .i64 0, .int .i64 a, .int .i64 b, .int .i64 c, .int .i64 k]] w fun e' w' => e' = .returned (.agg (S (nxt z 0 a b c k))) ∧ Below w.heap.size w w' := by
  have hx : ∀ i, i < 138 → (S z)[i]? = some (.int .i64 (gz z i)) := fun i hi => S_get z i (by omega)
  have h136 := hx 136 (by omega)
  have hset := S_set
  have zz := zero34
  have h137 := hx 137 (by omega)
  have g136 : (S (z.set 137 1))[136]? = some (.int .i64 (gz z 136)) := by rw [S_get _ _ (by simp [hl])]; simp [gz]
  have HN : Hid (Ending.returned (.agg (S ((z.set 137 1).set 136 (gz z 136)))) = .returned (.agg (S (nxt z 0 a b c k)))) := by rw [Hid, nxt, if_pos rfl, set_same z hl]
  clear hx
  go_enter Tryd.func121, Tryd.ntmps121
  go_wp2_with (first | (refine wpList_load_S rfl _ rfl _ rfl (isRowB3 _ _ _ _ _ _ (by simp [S_size, hl])) _ (rowD3 _ _ _ _ _) ?_) | (refine wpList_store_S rfl _ _ rfl _ rfl _ rfl (by simp [hl]) (isRowB3' _ _ _ _ _ _ (by simp [S_size, zeroZ])) _ (setRow3 _ _ _ _ _ _) ?_))
  exact bodyPost_ret (v := .agg (S ((z.set 137 1).set 136 (gz z 136)))) (results_cell_row Tryd.results121 _ _ _ 34 (S ((z.set 137 1).set 136 (gz z 136))) (0, 0) _ rfl (heap3 _ _ _ _) Tryd.underlying34 rfl (by rw [size34, S_size]; simp [hl])) rfl ⟨HN.out, below3 _ _ _ _⟩

set_option maxRecDepth 100000 in
set_option maxHeartbeats 2000000 in
theorem perform_set (z : List Int) (a b c k : Nat) (w : World) (hl : z.length = 138) (ha : a < 8) (p0 : 0 ≤ gz z 136) (p1 : gz z 136 < 128) :
    Calls Tryd.prog 121 #[.agg (S z), .agg #[.int .i64 1, .int .i64 a, .int .i64 b, .int .i64 c, .int .i64 k]] w fun e' w' => e' = .returned (.agg (S (nxt z 1 a b c k))) ∧ Below w.heap.size w w' := by
  have hx : ∀ i, i < 138 → (S z)[i]? = some (.int .i64 (gz z i)) := fun i hi => S_get z i (by omega)
  have h136 := hx 136 (by omega)
  have hset := S_set
  have zz := zero34
  have haa := hx a (by omega)
  have g136 : (S (z.set a (k : Int)))[136]? = some (.int .i64 (gz (z.set a (k : Int)) 136)) := S_get _ _ (by simp [hl])
  have ha' : (a : Int) < 8 := by omega
  have HN : Hid (Ending.returned (.agg (S ((z.set a (k : Int)).set 136 ((gz z 136 + 1) % 128)))) = .returned (.agg (S (nxt z 1 a b c k)))) := by simp [Hid, nxt]
  clear hx
  go_enter Tryd.func121, Tryd.ntmps121
  go_wp2_with (first | (refine wpList_load_S rfl _ rfl _ rfl (isRowB3 _ _ _ _ _ _ (by simp [S_size, hl])) _ (rowD3 _ _ _ _ _) ?_) | (refine wpList_store_S rfl _ _ rfl _ rfl _ rfl (by simp [hl]) (isRowB3' _ _ _ _ _ _ (by simp [S_size, zeroZ])) _ (setRow3 _ _ _ _ _ _) ?_))
  exact bodyPost_ret (v := .agg (S ((z.set a (k : Int)).set 136 ((gz z 136 + 1) % 128)))) (results_cell_row Tryd.results121 _ _ _ 34 (S ((z.set a (k : Int)).set 136 ((gz z 136 + 1) % 128))) (0, 0) _ rfl (heap3 _ _ _ _) Tryd.underlying34 rfl (by rw [size34, S_size]; simp [hl])) rfl ⟨HN.out, below3 _ _ _ _⟩

set_option maxRecDepth 100000 in
set_option maxHeartbeats 2000000 in
theorem perform_jump (z : List Int) (a b c k : Nat) (w : World) (hl : z.length = 138)  (p0 : 0 ≤ gz z 136) (p1 : gz z 136 < 128) :
    Calls Tryd.prog 121 #[.agg (S z), .agg #[.int .i64 9, .int .i64 a, .int .i64 b, .int .i64 c, .int .i64 k]] w fun e' w' => e' = .returned (.agg (S (nxt z 9 a b c k))) ∧ Below w.heap.size w w' := by
  have hx : ∀ i, i < 138 → (S z)[i]? = some (.int .i64 (gz z i)) := fun i hi => S_get z i (by omega)
  have h136 := hx 136 (by omega)
  have hset := S_set
  have zz := zero34
  have HN : Hid (Ending.returned (.agg (S (z.set 136 ((k : Int) % 128)))) = .returned (.agg (S (nxt z 9 a b c k)))) := by simp [Hid, nxt]
  clear hx
  go_enter Tryd.func121, Tryd.ntmps121
  go_wp2_with (first | (refine wpList_load_S rfl _ rfl _ rfl (isRowB3 _ _ _ _ _ _ (by simp [S_size, hl])) _ (rowD3 _ _ _ _ _) ?_) | (refine wpList_store_S rfl _ _ rfl _ rfl _ rfl (by simp [hl]) (isRowB3' _ _ _ _ _ _ (by simp [S_size, zeroZ])) _ (setRow3 _ _ _ _ _ _) ?_))
  exact bodyPost_ret (v := .agg (S (z.set 136 ((k : Int) % 128)))) (results_cell_row Tryd.results121 _ _ _ 34 (S (z.set 136 ((k : Int) % 128))) (0, 0) _ rfl (heap3 _ _ _ _) Tryd.underlying34 rfl (by rw [size34, S_size]; simp [hl])) rfl ⟨HN.out, below3 _ _ _ _⟩

set_option maxRecDepth 100000 in
set_option maxHeartbeats 2000000 in
theorem perform_turn (z : List Int) (a b c k : Nat) (w : World) (hl : z.length = 138) (ha : a < 8) (r0 : 0 ≤ gz z a) (r1 : gz z a < 4294967296) (p0 : 0 ≤ gz z 136) (p1 : gz z 136 < 128) :
    Calls Tryd.prog 121 #[.agg (S z), .agg #[.int .i64 10, .int .i64 a, .int .i64 b, .int .i64 c, .int .i64 k]] w fun e' w' => e' = .returned (.agg (S (nxt z 10 a b c k))) ∧ Below w.heap.size w w' := by
  have hx : ∀ i, i < 138 → (S z)[i]? = some (.int .i64 (gz z i)) := fun i hi => S_get z i (by omega)
  have h136 := hx 136 (by omega)
  have hset := S_set
  have zz := zero34
  have haa := hx a (by omega)
  have ha' : (a : Int) < 8 := by omega
  have HN : Hid (Ending.returned (.agg (S (z.set 136 (gz z a % 128)))) = .returned (.agg (S (nxt z 10 a b c k)))) := by simp [Hid, nxt]
  clear hx
  go_enter Tryd.func121, Tryd.ntmps121
  go_wp2_with (first | (refine wpList_load_S rfl _ rfl _ rfl (isRowB3 _ _ _ _ _ _ (by simp [S_size, hl])) _ (rowD3 _ _ _ _ _) ?_) | (refine wpList_store_S rfl _ _ rfl _ rfl _ rfl (by simp [hl]) (isRowB3' _ _ _ _ _ _ (by simp [S_size, zeroZ])) _ (setRow3 _ _ _ _ _ _) ?_))
  exact bodyPost_ret (v := .agg (S (z.set 136 (gz z a % 128)))) (results_cell_row Tryd.results121 _ _ _ 34 (S (z.set 136 (gz z a % 128))) (0, 0) _ rfl (heap3 _ _ _ _) Tryd.underlying34 rfl (by rw [size34, S_size]; simp [hl])) rfl ⟨HN.out, below3 _ _ _ _⟩
end Go.Proofs.YtgggaepeeaelhaaDoor
