/-
  The document's own step (package cribref): what it makes of a state that is none, of one that has stopped, of one whose word is no instruction, and of each instruction.
-/
import Derived.Test.YtmmflekajbeamaaDoorS21
namespace Go.Proofs.YtmmflekajbeamaaDoor
open Go.RowKit
set_option linter.unusedVariables false

theorem below_cell {B : Nat} {W w1 : World} (hb : Below B W w1) (n i : Nat) (hn : n < B) : w1.cell? ⟨n, i, none⟩ = W.cell? ⟨n, i, none⟩ := hb.cell (p := ⟨n, i, none⟩) hn
theorem below_frozen {B : Nat} {W w1 : World} (hb : Below B W w1) (n i : Nat) (hn : n < B) : w1.frozen? ⟨n, i, none⟩ = W.frozen? ⟨n, i, none⟩ := hb.frozen (p := ⟨n, i, none⟩) hn
theorem frozen_setCell (w : World) (a b : Addr) (v : Value) : (w.setCell a v).frozen? b = w.frozen? b := by simp
/-- A cell of a row behind a store into that row. -/
theorem cell_set {w : World} {n k : Nat} (h : isRowB w n k = true) (i j : Nat) (v : Value) : (w.setCell ⟨n, i, none⟩ v).cell? ⟨n, j, none⟩ = ((rowD w n).setIfInBounds i v)[j]? := by
  obtain ⟨t, hg, _⟩ := row_of h
  exact cell_of_row _ n j _ t (0, 0) (heap_setCell_same w n i _ t v hg)

set_option maxRecDepth 100000 in
set_option maxHeartbeats 2000000 in
theorem rstep_bad (z : List Int) (w : World) (hl : z.length = 138) (hs : stB z = false) :
    Calls Tryd.prog 46 #[.agg (S z)] w fun e' w' => e' = .returned (.tuple #[.agg (S (zeroZ)), .int .i64 8]) ∧ Below w.heap.size w w' := by
  have zz := zero34
  have bb := build34
  have HI := hide (right_any z (W2 z w) hl)
  rw [hs] at HI
  have R0 := W2_row0 z w hl
  have D0 := W2_rowD0 z w
  go_enter Tryd.func46, Tryd.ntmps46
  go_wp2_with (refine wpList_load_S rfl _ rfl _ rfl R0 _ D0 ?_)
  refine (unhide HI).mono ?_
  rintro e w1 ⟨rfl, hb⟩
  rw [W2_size] at hb
  have R1 : isRowB w1 (w.heap.size + 1) 138 = true := by rw [isRowB_below hb (by omega)]; exact W2_row1 z w
  have HB : Hid (Below w.heap.size w w1) := (W2_below z w).trans (hb.mono (by omega))
  obtain ⟨t, hg⟩ := heap_setRow_S R1 (S zeroZ)
  have HG := hide hg
  clear hb hg R0 D0
  go_wp2_with (refine wpList_store_S rfl _ _ rfl _ rfl _ rfl (by simp [zeroZ]) R1 _ rfl ?_)
  exact bodyPost_ret (v := .tuple #[.agg (S (zeroZ)), .int .i64 8]) (res_S Tryd.results46 _ _ _ t (zeroZ) (by simp [zeroZ]) rfl HG.out 8 rfl) rfl ⟨rfl, below_setRow HB.out (by omega) _⟩

set_option maxRecDepth 100000 in
set_option maxHeartbeats 2000000 in
theorem rstep_stop (z : List Int) (w : World) (hl : z.length = 138) (hs : stB z = true) (hp : gz z 137 ≠ 0) :
    Calls Tryd.prog 46 #[.agg (S z)] w fun e' w' => e' = .returned (.tuple #[.agg (S (zeroZ)), .int .i64 9]) ∧ Below w.heap.size w w' := by
  have zz := zero34
  have bb := build34
  have HI := hide (right_any z (W2 z w) hl)
  rw [hs] at HI
  have R0 := W2_row0 z w hl
  have D0 := W2_rowD0 z w
  have hp' : (gz z 137 != 0) = true := by simpa using hp
  go_enter Tryd.func46, Tryd.ntmps46
  go_wp2_with (refine wpList_load_S rfl _ rfl _ rfl R0 _ D0 ?_)
  refine (unhide HI).mono ?_
  rintro e w1 ⟨rfl, hb⟩
  rw [W2_size] at hb
  have R1 : isRowB w1 (w.heap.size + 1) 138 = true := by rw [isRowB_below hb (by omega)]; exact W2_row1 z w
  have HB : Hid (Below w.heap.size w w1) := (W2_below z w).trans (hb.mono (by omega))
  have c137 : w1.cell? ⟨w.heap.size, 137, none⟩ = some (.int .i64 (gz z 137)) := by rw [below_cell hb _ _ (by omega)]; exact W2_cell z w hl 137 (by omega)
  obtain ⟨t, hg⟩ := heap_setRow_S R1 (S zeroZ)
  have HG := hide hg
  clear hb hg R0 D0 hp
  go_wp2_with (refine wpList_store_S rfl _ _ rfl _ rfl _ rfl (by simp [zeroZ]) R1 _ rfl ?_)
  exact bodyPost_ret (v := .tuple #[.agg (S (zeroZ)), .int .i64 9]) (res_S Tryd.results46 _ _ _ t (zeroZ) (by simp [zeroZ]) rfl HG.out 9 rfl) rfl ⟨rfl, below_setRow HB.out (by omega) _⟩

set_option maxRecDepth 100000 in
set_option maxHeartbeats 2000000 in
theorem rstep_trap (z : List Int) (w : World) (hl : z.length = 138) (hs : stB z = true) (hp : gz z 137 = 0) (P : Nat) (hP : gz z 136 = P) (hP1 : P < 128) (v : Int) (hv : gz z (8 + P) = v) (v0 : 0 ≤ v) (v1 : v < 4294967296) (hkn : knB (fop v) (fa v) (fb v) (fc v) = false) :
    Calls Tryd.prog 46 #[.agg (S z)] w fun e' w' => e' = .returned (.tuple #[.agg (S (z.set 137 2)), .int .i64 0]) ∧ Below w.heap.size w w' := by
  have zz := zero34
  have bb := build34
  have HI := hide (right_any z (W2 z w) hl)
  rw [hs] at HI
  have R0 := W2_row0 z w hl
  have D0 := W2_rowD0 z w
  have hP' : (P : Int) < 128 := by omega
  have HKn := hide (fun w => known_any v w v0 v1)
  rw [hkn] at HKn
  go_enter Tryd.func46, Tryd.ntmps46
  go_wp2_with (refine wpList_load_S rfl _ rfl _ rfl R0 _ D0 ?_)
  refine (unhide HI).mono ?_
  rintro e w1 ⟨rfl, hb⟩
  rw [W2_size] at hb
  have R1 : isRowB w1 (w.heap.size + 1) 138 = true := by rw [isRowB_below hb (by omega)]; exact W2_row1 z w
  have HB : Hid (Below w.heap.size w w1) := (W2_below z w).trans (hb.mono (by omega))
  have hc1 : ∀ i, i < 138 → w1.cell? ⟨w.heap.size, i, none⟩ = some (.int .i64 (gz z i)) := fun i hi => by rw [below_cell hb _ _ (by omega)]; exact W2_cell z w hl i hi
  have q0 : isRowB w1 w.heap.size 138 = true := by rw [isRowB_below hb (by omega)]; exact R0
  have d0 : rowD w1 w.heap.size = S z := by rw [rowD_below hb (by omega)]; exact D0
  have hz1 : w.heap.size + 1 < w1.heap.size := by have := hb.size; rw [W2_size] at this; omega
  have fz1 : ∀ i, w1.frozen? ⟨w.heap.size, i, none⟩ = false := fun i => by rw [below_frozen hb _ _ (by omega)]; exact W2_frozen z w i
  have c137 := hc1 137 (by omega)
  have c136 := hc1 136 (by omega)
  have cw : w1.cell? ⟨w.heap.size, 8 + P, none⟩ = some (.int .i64 v) := by rw [← hv]; exact hc1 (8 + P) (by omega)
  have HC := hide hc1
  clear hb R0 D0 hc1
  go_wp2_with fail
  refine (unhide HKn _).mono ?_
  rintro e w' ⟨rfl, hw⟩
  obtain rfl := hw.symm
  have HB : Hid (Below w.heap.size w (w1.setCell ⟨w.heap.size, 137, none⟩ (.int .i64 2))) := HB.out.setCell (Nat.le_refl _) _
  have R2 : isRowB (w1.setCell ⟨w.heap.size, 137, none⟩ (.int .i64 2)) (w.heap.size + 1) 138 = true := isRowB_setCell_other R1 _ _ (by omega) _
  have q2 : isRowB (w1.setCell ⟨w.heap.size, 137, none⟩ (.int .i64 2)) w.heap.size 138 = true := isRowB_setCell q0 _ _
  have d2 : rowD (w1.setCell ⟨w.heap.size, 137, none⟩ (.int .i64 2)) w.heap.size = S (z.set 137 2) := by rw [rowD_setCell q0, d0, S_set]
  obtain ⟨t, hg⟩ := heap_setRow_S R2 (S (z.set 137 2))
  have HG := hide hg
  clear hg
  go_wp2_with (first | (refine wpList_load_S rfl _ rfl _ rfl q2 _ d2 ?_) | (refine wpList_store_S rfl _ _ rfl _ rfl _ rfl (by simp [hl]) R2 _ rfl ?_))
  exact bodyPost_ret (v := .tuple #[.agg (S (z.set 137 2)), .int .i64 0]) (res_S Tryd.results46 _ _ _ t (z.set 137 2) (by simp [hl]) rfl HG.out 0 rfl) rfl ⟨rfl, below_setRow HB.out (by omega) _⟩

set_option maxRecDepth 100000 in
set_option maxHeartbeats 2000000 in
theorem rstep_halt (z : List Int) (w : World) (hl : z.length = 138) (hs : stB z = true) (hp : gz z 137 = 0) (P : Nat) (hP : gz z 136 = P) (hP1 : P < 128) (v : Int) (hv : gz z (8 + P) = v) (v0 : 0 ≤ v) (v1 : v < 4294967296) (hkn : knB (fop v) (fa v) (fb v) (fc v) = true) (A B C K : Nat) (ea : fa v = A) (eb : fb v = B) (ec : fc v = C) (ek : fk v = K) (k1 : K < 4096) (eo : fop v = 0)  :
    Calls Tryd.prog 46 #[.agg (S z)] w fun e' w' => e' = .returned (.tuple #[.agg (S (nxt z 0 A B C K)), .int .i64 0]) ∧ Below w.heap.size w w' := by
  have zz := zero34
  have bb := build34
  have HI := hide (right_any z (W2 z w) hl)
  rw [hs] at HI
  have R0 := W2_row0 z w hl
  have D0 := W2_rowD0 z w
  have HN : Hid (Ending.returned (.tuple #[.agg (S (z.set 137 1)), .int .i64 0]) = .returned (.tuple #[.agg (S (nxt z 0 A B C K)), .int .i64 0])) := by simp [Hid, nxt]
  have hP' : (P : Int) < 128 := by omega
  have HKn := hide (fun w => known_any v w v0 v1)
  have HO := hide (fun w => op_any v w v0 v1)
  have HA := hide (fun w => a_any v w v0 v1)
  have HBb := hide (fun w => b_any v w v0 v1)
  have HK := hide (fun w => k_any v w v0 v1)
  have HCc := hide (fun w => c_any v w v0 v1)
  rw [hkn] at HKn
  rw [eo] at HO
  rw [ea] at HA
  rw [eb] at HBb
  rw [ec] at HCc
  rw [ek] at HK
  clear eo ea eb ec ek hkn
  go_enter Tryd.func46, Tryd.ntmps46
  go_wp2_with (refine wpList_load_S rfl _ rfl _ rfl R0 _ D0 ?_)
  refine (unhide HI).mono ?_
  rintro e w1 ⟨rfl, hb⟩
  rw [W2_size] at hb
  have R1 : isRowB w1 (w.heap.size + 1) 138 = true := by rw [isRowB_below hb (by omega)]; exact W2_row1 z w
  have HB : Hid (Below w.heap.size w w1) := (W2_below z w).trans (hb.mono (by omega))
  have hc1 : ∀ i, i < 138 → w1.cell? ⟨w.heap.size, i, none⟩ = some (.int .i64 (gz z i)) := fun i hi => by rw [below_cell hb _ _ (by omega)]; exact W2_cell z w hl i hi
  have q0 : isRowB w1 w.heap.size 138 = true := by rw [isRowB_below hb (by omega)]; exact R0
  have d0 : rowD w1 w.heap.size = S z := by rw [rowD_below hb (by omega)]; exact D0
  have hz1 : w.heap.size + 1 < w1.heap.size := by have := hb.size; rw [W2_size] at this; omega
  have fz1 : ∀ i, w1.frozen? ⟨w.heap.size, i, none⟩ = false := fun i => by rw [below_frozen hb _ _ (by omega)]; exact W2_frozen z w i
  have c137 := hc1 137 (by omega)
  have c136 := hc1 136 (by omega)
  have cw : w1.cell? ⟨w.heap.size, 8 + P, none⟩ = some (.int .i64 v) := by rw [← hv]; exact hc1 (8 + P) (by omega)
  have HC := hide hc1
  clear hb R0 D0 hc1
  go_wp2_with fail
  refine (unhide HKn _).mono ?_
  rintro e w' ⟨rfl, hw⟩
  obtain rfl := hw.symm
  go_wp2_with fail
  refine (unhide HO _).mono ?_
  rintro e w' ⟨rfl, hw⟩
  obtain rfl := hw.symm
  go_wp2_with fail
  refine (unhide HA _).mono ?_
  rintro e w' ⟨rfl, hw⟩
  obtain rfl := hw.symm
  go_wp2_with fail
  refine (unhide HBb _).mono ?_
  rintro e w' ⟨rfl, hw⟩
  obtain rfl := hw.symm
  go_wp2_with fail
  refine (unhide HK _).mono ?_
  rintro e w' ⟨rfl, hw⟩
  obtain rfl := hw.symm
  have HB : Hid (Below w.heap.size w (w1.setCell ⟨w.heap.size, 137, none⟩ (.int .i64 1))) := HB.out.setCell (Nat.le_refl _) _
  have R2 : isRowB (w1.setCell ⟨w.heap.size, 137, none⟩ (.int .i64 1)) (w.heap.size + 1) 138 = true := isRowB_setCell_other R1 _ _ (by omega) _
  have q2 : isRowB (w1.setCell ⟨w.heap.size, 137, none⟩ (.int .i64 1)) w.heap.size 138 = true := isRowB_setCell q0 _ _
  have d2 : rowD (w1.setCell ⟨w.heap.size, 137, none⟩ (.int .i64 1)) w.heap.size = S (z.set 137 1) := by rw [rowD_setCell q0, d0, S_set]
  obtain ⟨t, hg⟩ := heap_setRow_S R2 (S (z.set 137 1))
  have HG := hide hg
  clear hg
  go_wp2_with (first | (refine wpList_load_S rfl _ rfl _ rfl q2 _ d2 ?_) | (refine wpList_store_S rfl _ _ rfl _ rfl _ rfl (by simp [hl]) R2 _ rfl ?_))
  exact bodyPost_ret (v := .tuple #[.agg (S (z.set 137 1)), .int .i64 0]) (res_S Tryd.results46 _ _ _ t (z.set 137 1) (by simp [hl]) rfl HG.out 0 rfl) rfl ⟨HN.out, below_setRow HB.out (by omega) _⟩

set_option maxRecDepth 100000 in
set_option maxHeartbeats 2000000 in
theorem rstep_set (z : List Int) (w : World) (hl : z.length = 138) (hs : stB z = true) (hp : gz z 137 = 0) (P : Nat) (hP : gz z 136 = P) (hP1 : P < 128) (v : Int) (hv : gz z (8 + P) = v) (v0 : 0 ≤ v) (v1 : v < 4294967296) (hkn : knB (fop v) (fa v) (fb v) (fc v) = true) (A B C K : Nat) (ea : fa v = A) (eb : fb v = B) (ec : fc v = C) (ek : fk v = K) (k1 : K < 4096) (eo : fop v = 1) (ha : A < 8) :
    Calls Tryd.prog 46 #[.agg (S z)] w fun e' w' => e' = .returned (.tuple #[.agg (S (nxt z 1 A B C K)), .int .i64 0]) ∧ Below w.heap.size w w' := by
  have zz := zero34
  have bb := build34
  have HI := hide (right_any z (W2 z w) hl)
  rw [hs] at HI
  have R0 := W2_row0 z w hl
  have D0 := W2_rowD0 z w
  have HN : Hid (Ending.returned (.tuple #[.agg (S ((z.set (A) ((K : Int))).set 136 (((P : Int) + 1) % 128))), .int .i64 0]) = .returned (.tuple #[.agg (S (nxt z 1 A B C K)), .int .i64 0])) := by simp [Hid, nxt, hP]
  have hP' : (P : Int) < 128 := by omega
  have HKn := hide (fun w => known_any v w v0 v1)
  have HO := hide (fun w => op_any v w v0 v1)
  have HA := hide (fun w => a_any v w v0 v1)
  have HBb := hide (fun w => b_any v w v0 v1)
  have HK := hide (fun w => k_any v w v0 v1)
  have HCc := hide (fun w => c_any v w v0 v1)
  rw [hkn] at HKn
  rw [eo] at HO
  rw [ea] at HA
  rw [eb] at HBb
  rw [ec] at HCc
  rw [ek] at HK
  clear eo ea eb ec ek hkn
  have ha' : (A : Int) < 8 := by omega
  go_enter Tryd.func46, Tryd.ntmps46
  go_wp2_with (refine wpList_load_S rfl _ rfl _ rfl R0 _ D0 ?_)
  refine (unhide HI).mono ?_
  rintro e w1 ⟨rfl, hb⟩
  rw [W2_size] at hb
  have R1 : isRowB w1 (w.heap.size + 1) 138 = true := by rw [isRowB_below hb (by omega)]; exact W2_row1 z w
  have HB : Hid (Below w.heap.size w w1) := (W2_below z w).trans (hb.mono (by omega))
  have hc1 : ∀ i, i < 138 → w1.cell? ⟨w.heap.size, i, none⟩ = some (.int .i64 (gz z i)) := fun i hi => by rw [below_cell hb _ _ (by omega)]; exact W2_cell z w hl i hi
  have q0 : isRowB w1 w.heap.size 138 = true := by rw [isRowB_below hb (by omega)]; exact R0
  have d0 : rowD w1 w.heap.size = S z := by rw [rowD_below hb (by omega)]; exact D0
  have hz1 : w.heap.size + 1 < w1.heap.size := by have := hb.size; rw [W2_size] at this; omega
  have fz1 : ∀ i, w1.frozen? ⟨w.heap.size, i, none⟩ = false := fun i => by rw [below_frozen hb _ _ (by omega)]; exact W2_frozen z w i
  have c137 := hc1 137 (by omega)
  have c136 := hc1 136 (by omega)
  have cw : w1.cell? ⟨w.heap.size, 8 + P, none⟩ = some (.int .i64 v) := by rw [← hv]; exact hc1 (8 + P) (by omega)
  have c_a := hc1 (A) (by omega)
  have HC := hide hc1
  clear hb R0 D0 hc1
  go_wp2_with fail
  refine (unhide HKn _).mono ?_
  rintro e w' ⟨rfl, hw⟩
  obtain rfl := hw.symm
  go_wp2_with fail
  refine (unhide HO _).mono ?_
  rintro e w' ⟨rfl, hw⟩
  obtain rfl := hw.symm
  go_wp2_with fail
  refine (unhide HA _).mono ?_
  rintro e w' ⟨rfl, hw⟩
  obtain rfl := hw.symm
  go_wp2_with fail
  refine (unhide HBb _).mono ?_
  rintro e w' ⟨rfl, hw⟩
  obtain rfl := hw.symm
  go_wp2_with fail
  refine (unhide HK _).mono ?_
  rintro e w' ⟨rfl, hw⟩
  obtain rfl := hw.symm
  have r2 : isRowB (w1.setCell ⟨w.heap.size, A, none⟩ (.int .i64 ((K : Int)))) (w.heap.size + 1) 138 = true := isRowB_setCell_other R1 _ _ (by omega) _
  have p2 : isRowB (w1.setCell ⟨w.heap.size, A, none⟩ (.int .i64 ((K : Int)))) w.heap.size 138 = true := isRowB_setCell q0 _ _
  have e2 : rowD (w1.setCell ⟨w.heap.size, A, none⟩ (.int .i64 ((K : Int)))) w.heap.size = S (z.set (A) ((K : Int))) := by rw [rowD_setCell q0, d0, S_set]
  have c2 : (w1.setCell ⟨w.heap.size, A, none⟩ (.int .i64 ((K : Int)))).cell? ⟨w.heap.size, 136, none⟩ = some (.int .i64 (gz (z.set (A) ((K : Int))) 136)) := by rw [cell_set q0, d0, S_set, S_get _ _ (by simp [hl])]
  have HX : Hid (Below w.heap.size w (w1.setCell ⟨w.heap.size, A, none⟩ (.int .i64 ((K : Int))))) := HB.out.setCell (Nat.le_refl _) _
  have HB : Hid (Below w.heap.size w ((w1.setCell ⟨w.heap.size, A, none⟩ (.int .i64 ((K : Int)))).setCell ⟨w.heap.size, 136, none⟩ (.int .i64 (((P : Int) + 1) % 128)))) := (HX.out.setCell (Nat.le_refl _) _)
  have R2 : isRowB ((w1.setCell ⟨w.heap.size, A, none⟩ (.int .i64 ((K : Int)))).setCell ⟨w.heap.size, 136, none⟩ (.int .i64 (((P : Int) + 1) % 128))) (w.heap.size + 1) 138 = true := isRowB_setCell_other r2 _ _ (by omega) _
  have q2 : isRowB ((w1.setCell ⟨w.heap.size, A, none⟩ (.int .i64 ((K : Int)))).setCell ⟨w.heap.size, 136, none⟩ (.int .i64 (((P : Int) + 1) % 128))) w.heap.size 138 = true := isRowB_setCell p2 _ _
  have d2 : rowD ((w1.setCell ⟨w.heap.size, A, none⟩ (.int .i64 ((K : Int)))).setCell ⟨w.heap.size, 136, none⟩ (.int .i64 (((P : Int) + 1) % 128))) w.heap.size = S ((z.set (A) ((K : Int))).set 136 (((P : Int) + 1) % 128)) := by rw [rowD_setCell p2, e2, S_set]
  obtain ⟨t, hg⟩ := heap_setRow_S R2 (S ((z.set (A) ((K : Int))).set 136 (((P : Int) + 1) % 128)))
  have HG := hide hg
  clear hg
  go_wp2_with (first | (refine wpList_load_S rfl _ rfl _ rfl q2 _ d2 ?_) | (refine wpList_store_S rfl _ _ rfl _ rfl _ rfl (by simp [hl]) R2 _ rfl ?_))
  exact bodyPost_ret (v := .tuple #[.agg (S ((z.set (A) ((K : Int))).set 136 (((P : Int) + 1) % 128))), .int .i64 0]) (res_S Tryd.results46 _ _ _ t ((z.set (A) ((K : Int))).set 136 (((P : Int) + 1) % 128)) (by simp [hl]) rfl HG.out 0 rfl) rfl ⟨HN.out, below_setRow HB.out (by omega) _⟩

set_option maxRecDepth 100000 in
set_option maxHeartbeats 2000000 in
theorem rstep_load (z : List Int) (w : World) (hl : z.length = 138) (hs : stB z = true) (hp : gz z 137 = 0) (P : Nat) (hP : gz z 136 = P) (hP1 : P < 128) (v : Int) (hv : gz z (8 + P) = v) (v0 : 0 ≤ v) (v1 : v < 4294967296) (hkn : knB (fop v) (fa v) (fb v) (fc v) = true) (A B C K : Nat) (ea : fa v = A) (eb : fb v = B) (ec : fc v = C) (ek : fk v = K) (k1 : K < 4096) (eo : fop v = 6) (ha : A < 8) (hb8 : B < 8) (m : Nat) (hm : (gz z B + (K : Int)) % 128 = m) (hm1 : m < 128) (r0 : 0 ≤ gz z B) (r1 : gz z B < 4294967296) :
    Calls Tryd.prog 46 #[.agg (S z)] w fun e' w' => e' = .returned (.tuple #[.agg (S (nxt z 6 A B C K)), .int .i64 0]) ∧ Below w.heap.size w w' := by
  have zz := zero34
  have bb := build34
  have HI := hide (right_any z (W2 z w) hl)
  rw [hs] at HI
  have R0 := W2_row0 z w hl
  have D0 := W2_rowD0 z w
  have HN : Hid (Ending.returned (.tuple #[.agg (S ((z.set (A) (gz z (8 + m))).set 136 (((P : Int) + 1) % 128))), .int .i64 0]) = .returned (.tuple #[.agg (S (nxt z 6 A B C K)), .int .i64 0])) := by simp [Hid, nxt, hP, hm]
  have hP' : (P : Int) < 128 := by omega
  have HKn := hide (fun w => known_any v w v0 v1)
  have HO := hide (fun w => op_any v w v0 v1)
  have HA := hide (fun w => a_any v w v0 v1)
  have HBb := hide (fun w => b_any v w v0 v1)
  have HK := hide (fun w => k_any v w v0 v1)
  have HCc := hide (fun w => c_any v w v0 v1)
  rw [hkn] at HKn
  rw [eo] at HO
  rw [ea] at HA
  rw [eb] at HBb
  rw [ec] at HCc
  rw [ek] at HK
  clear eo ea eb ec ek hkn
  have ha' : (A : Int) < 8 := by omega
  have hb' : (B : Int) < 8 := by omega
  have hm' : (m : Int) < 128 := by omega
  go_enter Tryd.func46, Tryd.ntmps46
  go_wp2_with (refine wpList_load_S rfl _ rfl _ rfl R0 _ D0 ?_)
  refine (unhide HI).mono ?_
  rintro e w1 ⟨rfl, hb⟩
  rw [W2_size] at hb
  have R1 : isRowB w1 (w.heap.size + 1) 138 = true := by rw [isRowB_below hb (by omega)]; exact W2_row1 z w
  have HB : Hid (Below w.heap.size w w1) := (W2_below z w).trans (hb.mono (by omega))
  have hc1 : ∀ i, i < 138 → w1.cell? ⟨w.heap.size, i, none⟩ = some (.int .i64 (gz z i)) := fun i hi => by rw [below_cell hb _ _ (by omega)]; exact W2_cell z w hl i hi
  have q0 : isRowB w1 w.heap.size 138 = true := by rw [isRowB_below hb (by omega)]; exact R0
  have d0 : rowD w1 w.heap.size = S z := by rw [rowD_below hb (by omega)]; exact D0
  have hz1 : w.heap.size + 1 < w1.heap.size := by have := hb.size; rw [W2_size] at this; omega
  have fz1 : ∀ i, w1.frozen? ⟨w.heap.size, i, none⟩ = false := fun i => by rw [below_frozen hb _ _ (by omega)]; exact W2_frozen z w i
  have c137 := hc1 137 (by omega)
  have c136 := hc1 136 (by omega)
  have cw : w1.cell? ⟨w.heap.size, 8 + P, none⟩ = some (.int .i64 v) := by rw [← hv]; exact hc1 (8 + P) (by omega)
  have c_a := hc1 (A) (by omega)
  have c_b := hc1 (B) (by omega)
  have c_m := hc1 (8 + m) (by omega)
  have HC := hide hc1
  clear hb R0 D0 hc1
  go_wp2_with fail
  refine (unhide HKn _).mono ?_
  rintro e w' ⟨rfl, hw⟩
  obtain rfl := hw.symm
  go_wp2_with fail
  refine (unhide HO _).mono ?_
  rintro e w' ⟨rfl, hw⟩
  obtain rfl := hw.symm
  go_wp2_with fail
  refine (unhide HA _).mono ?_
  rintro e w' ⟨rfl, hw⟩
  obtain rfl := hw.symm
  go_wp2_with fail
  refine (unhide HBb _).mono ?_
  rintro e w' ⟨rfl, hw⟩
  obtain rfl := hw.symm
  go_wp2_with fail
  refine (unhide HK _).mono ?_
  rintro e w' ⟨rfl, hw⟩
  obtain rfl := hw.symm
  have r2 : isRowB (w1.setCell ⟨w.heap.size, A, none⟩ (.int .i64 (gz z (8 + m)))) (w.heap.size + 1) 138 = true := isRowB_setCell_other R1 _ _ (by omega) _
  have p2 : isRowB (w1.setCell ⟨w.heap.size, A, none⟩ (.int .i64 (gz z (8 + m)))) w.heap.size 138 = true := isRowB_setCell q0 _ _
  have e2 : rowD (w1.setCell ⟨w.heap.size, A, none⟩ (.int .i64 (gz z (8 + m)))) w.heap.size = S (z.set (A) (gz z (8 + m))) := by rw [rowD_setCell q0, d0, S_set]
  have c2 : (w1.setCell ⟨w.heap.size, A, none⟩ (.int .i64 (gz z (8 + m)))).cell? ⟨w.heap.size, 136, none⟩ = some (.int .i64 (gz (z.set (A) (gz z (8 + m))) 136)) := by rw [cell_set q0, d0, S_set, S_get _ _ (by simp [hl])]
  have HX : Hid (Below w.heap.size w (w1.setCell ⟨w.heap.size, A, none⟩ (.int .i64 (gz z (8 + m))))) := HB.out.setCell (Nat.le_refl _) _
  have HB : Hid (Below w.heap.size w ((w1.setCell ⟨w.heap.size, A, none⟩ (.int .i64 (gz z (8 + m)))).setCell ⟨w.heap.size, 136, none⟩ (.int .i64 (((P : Int) + 1) % 128)))) := (HX.out.setCell (Nat.le_refl _) _)
  have R2 : isRowB ((w1.setCell ⟨w.heap.size, A, none⟩ (.int .i64 (gz z (8 + m)))).setCell ⟨w.heap.size, 136, none⟩ (.int .i64 (((P : Int) + 1) % 128))) (w.heap.size + 1) 138 = true := isRowB_setCell_other r2 _ _ (by omega) _
  have q2 : isRowB ((w1.setCell ⟨w.heap.size, A, none⟩ (.int .i64 (gz z (8 + m)))).setCell ⟨w.heap.size, 136, none⟩ (.int .i64 (((P : Int) + 1) % 128))) w.heap.size 138 = true := isRowB_setCell p2 _ _
  have d2 : rowD ((w1.setCell ⟨w.heap.size, A, none⟩ (.int .i64 (gz z (8 + m)))).setCell ⟨w.heap.size, 136, none⟩ (.int .i64 (((P : Int) + 1) % 128))) w.heap.size = S ((z.set (A) (gz z (8 + m))).set 136 (((P : Int) + 1) % 128)) := by rw [rowD_setCell p2, e2, S_set]
  obtain ⟨t, hg⟩ := heap_setRow_S R2 (S ((z.set (A) (gz z (8 + m))).set 136 (((P : Int) + 1) % 128)))
  have HG := hide hg
  clear hg
  go_wp2_with (first | (refine wpList_load_S rfl _ rfl _ rfl q2 _ d2 ?_) | (refine wpList_store_S rfl _ _ rfl _ rfl _ rfl (by simp [hl]) R2 _ rfl ?_))
  exact bodyPost_ret (v := .tuple #[.agg (S ((z.set (A) (gz z (8 + m))).set 136 (((P : Int) + 1) % 128))), .int .i64 0]) (res_S Tryd.results46 _ _ _ t ((z.set (A) (gz z (8 + m))).set 136 (((P : Int) + 1) % 128)) (by simp [hl]) rfl HG.out 0 rfl) rfl ⟨HN.out, below_setRow HB.out (by omega) _⟩

set_option maxRecDepth 100000 in
set_option maxHeartbeats 2000000 in
theorem rstep_jump (z : List Int) (w : World) (hl : z.length = 138) (hs : stB z = true) (hp : gz z 137 = 0) (P : Nat) (hP : gz z 136 = P) (hP1 : P < 128) (v : Int) (hv : gz z (8 + P) = v) (v0 : 0 ≤ v) (v1 : v < 4294967296) (hkn : knB (fop v) (fa v) (fb v) (fc v) = true) (A B C K : Nat) (ea : fa v = A) (eb : fb v = B) (ec : fc v = C) (ek : fk v = K) (k1 : K < 4096) (eo : fop v = 9)  :
    Calls Tryd.prog 46 #[.agg (S z)] w fun e' w' => e' = .returned (.tuple #[.agg (S (nxt z 9 A B C K)), .int .i64 0]) ∧ Below w.heap.size w w' := by
  have zz := zero34
  have bb := build34
  have HI := hide (right_any z (W2 z w) hl)
  rw [hs] at HI
  have R0 := W2_row0 z w hl
  have D0 := W2_rowD0 z w
  have HN : Hid (Ending.returned (.tuple #[.agg (S (z.set 136 ((K : Int) % 128))), .int .i64 0]) = .returned (.tuple #[.agg (S (nxt z 9 A B C K)), .int .i64 0])) := by simp [Hid, nxt]
  have hP' : (P : Int) < 128 := by omega
  have HKn := hide (fun w => known_any v w v0 v1)
  have HO := hide (fun w => op_any v w v0 v1)
  have HA := hide (fun w => a_any v w v0 v1)
  have HBb := hide (fun w => b_any v w v0 v1)
  have HK := hide (fun w => k_any v w v0 v1)
  have HCc := hide (fun w => c_any v w v0 v1)
  rw [hkn] at HKn
  rw [eo] at HO
  rw [ea] at HA
  rw [eb] at HBb
  rw [ec] at HCc
  rw [ek] at HK
  clear eo ea eb ec ek hkn
  go_enter Tryd.func46, Tryd.ntmps46
  go_wp2_with (refine wpList_load_S rfl _ rfl _ rfl R0 _ D0 ?_)
  refine (unhide HI).mono ?_
  rintro e w1 ⟨rfl, hb⟩
  rw [W2_size] at hb
  have R1 : isRowB w1 (w.heap.size + 1) 138 = true := by rw [isRowB_below hb (by omega)]; exact W2_row1 z w
  have HB : Hid (Below w.heap.size w w1) := (W2_below z w).trans (hb.mono (by omega))
  have hc1 : ∀ i, i < 138 → w1.cell? ⟨w.heap.size, i, none⟩ = some (.int .i64 (gz z i)) := fun i hi => by rw [below_cell hb _ _ (by omega)]; exact W2_cell z w hl i hi
  have q0 : isRowB w1 w.heap.size 138 = true := by rw [isRowB_below hb (by omega)]; exact R0
  have d0 : rowD w1 w.heap.size = S z := by rw [rowD_below hb (by omega)]; exact D0
  have hz1 : w.heap.size + 1 < w1.heap.size := by have := hb.size; rw [W2_size] at this; omega
  have fz1 : ∀ i, w1.frozen? ⟨w.heap.size, i, none⟩ = false := fun i => by rw [below_frozen hb _ _ (by omega)]; exact W2_frozen z w i
  have c137 := hc1 137 (by omega)
  have c136 := hc1 136 (by omega)
  have cw : w1.cell? ⟨w.heap.size, 8 + P, none⟩ = some (.int .i64 v) := by rw [← hv]; exact hc1 (8 + P) (by omega)
  have HC := hide hc1
  clear hb R0 D0 hc1
  go_wp2_with fail
  refine (unhide HKn _).mono ?_
  rintro e w' ⟨rfl, hw⟩
  obtain rfl := hw.symm
  go_wp2_with fail
  refine (unhide HO _).mono ?_
  rintro e w' ⟨rfl, hw⟩
  obtain rfl := hw.symm
  go_wp2_with fail
  refine (unhide HA _).mono ?_
  rintro e w' ⟨rfl, hw⟩
  obtain rfl := hw.symm
  go_wp2_with fail
  refine (unhide HBb _).mono ?_
  rintro e w' ⟨rfl, hw⟩
  obtain rfl := hw.symm
  go_wp2_with fail
  refine (unhide HK _).mono ?_
  rintro e w' ⟨rfl, hw⟩
  obtain rfl := hw.symm
  have HB : Hid (Below w.heap.size w (w1.setCell ⟨w.heap.size, 136, none⟩ (.int .i64 ((K : Int) % 128)))) := (HB.out.setCell (Nat.le_refl _) _)
  have R2 : isRowB (w1.setCell ⟨w.heap.size, 136, none⟩ (.int .i64 ((K : Int) % 128))) (w.heap.size + 1) 138 = true := isRowB_setCell_other R1 _ _ (by omega) _
  have q2 : isRowB (w1.setCell ⟨w.heap.size, 136, none⟩ (.int .i64 ((K : Int) % 128))) w.heap.size 138 = true := isRowB_setCell q0 _ _
  have d2 : rowD (w1.setCell ⟨w.heap.size, 136, none⟩ (.int .i64 ((K : Int) % 128))) w.heap.size = S (z.set 136 ((K : Int) % 128)) := by rw [rowD_setCell q0, d0, S_set]
  obtain ⟨t, hg⟩ := heap_setRow_S R2 (S (z.set 136 ((K : Int) % 128)))
  have HG := hide hg
  clear hg
  go_wp2_with (first | (refine wpList_load_S rfl _ rfl _ rfl q2 _ d2 ?_) | (refine wpList_store_S rfl _ _ rfl _ rfl _ rfl (by simp [hl]) R2 _ rfl ?_))
  exact bodyPost_ret (v := .tuple #[.agg (S (z.set 136 ((K : Int) % 128))), .int .i64 0]) (res_S Tryd.results46 _ _ _ t (z.set 136 ((K : Int) % 128)) (by simp [hl]) rfl HG.out 0 rfl) rfl ⟨HN.out, below_setRow HB.out (by omega) _⟩

set_option maxRecDepth 100000 in
set_option maxHeartbeats 2000000 in
theorem rstep_turn (z : List Int) (w : World) (hl : z.length = 138) (hs : stB z = true) (hp : gz z 137 = 0) (P : Nat) (hP : gz z 136 = P) (hP1 : P < 128) (v : Int) (hv : gz z (8 + P) = v) (v0 : 0 ≤ v) (v1 : v < 4294967296) (hkn : knB (fop v) (fa v) (fb v) (fc v) = true) (A B C K : Nat) (ea : fa v = A) (eb : fb v = B) (ec : fc v = C) (ek : fk v = K) (k1 : K < 4096) (eo : fop v = 10) (ha : A < 8) (r0 : 0 ≤ gz z A) (r1 : gz z A < 4294967296) :
    Calls Tryd.prog 46 #[.agg (S z)] w fun e' w' => e' = .returned (.tuple #[.agg (S (nxt z 10 A B C K)), .int .i64 0]) ∧ Below w.heap.size w w' := by
  have zz := zero34
  have bb := build34
  have HI := hide (right_any z (W2 z w) hl)
  rw [hs] at HI
  have R0 := W2_row0 z w hl
  have D0 := W2_rowD0 z w
  have HN : Hid (Ending.returned (.tuple #[.agg (S (z.set 136 (gz z A % 128))), .int .i64 0]) = .returned (.tuple #[.agg (S (nxt z 10 A B C K)), .int .i64 0])) := by simp [Hid, nxt]
  have hP' : (P : Int) < 128 := by omega
  have HKn := hide (fun w => known_any v w v0 v1)
  have HO := hide (fun w => op_any v w v0 v1)
  have HA := hide (fun w => a_any v w v0 v1)
  have HBb := hide (fun w => b_any v w v0 v1)
  have HK := hide (fun w => k_any v w v0 v1)
  have HCc := hide (fun w => c_any v w v0 v1)
  rw [hkn] at HKn
  rw [eo] at HO
  rw [ea] at HA
  rw [eb] at HBb
  rw [ec] at HCc
  rw [ek] at HK
  clear eo ea eb ec ek hkn
  have ha' : (A : Int) < 8 := by omega
  go_enter Tryd.func46, Tryd.ntmps46
  go_wp2_with (refine wpList_load_S rfl _ rfl _ rfl R0 _ D0 ?_)
  refine (unhide HI).mono ?_
  rintro e w1 ⟨rfl, hb⟩
  rw [W2_size] at hb
  have R1 : isRowB w1 (w.heap.size + 1) 138 = true := by rw [isRowB_below hb (by omega)]; exact W2_row1 z w
  have HB : Hid (Below w.heap.size w w1) := (W2_below z w).trans (hb.mono (by omega))
  have hc1 : ∀ i, i < 138 → w1.cell? ⟨w.heap.size, i, none⟩ = some (.int .i64 (gz z i)) := fun i hi => by rw [below_cell hb _ _ (by omega)]; exact W2_cell z w hl i hi
  have q0 : isRowB w1 w.heap.size 138 = true := by rw [isRowB_below hb (by omega)]; exact R0
  have d0 : rowD w1 w.heap.size = S z := by rw [rowD_below hb (by omega)]; exact D0
  have hz1 : w.heap.size + 1 < w1.heap.size := by have := hb.size; rw [W2_size] at this; omega
  have fz1 : ∀ i, w1.frozen? ⟨w.heap.size, i, none⟩ = false := fun i => by rw [below_frozen hb _ _ (by omega)]; exact W2_frozen z w i
  have c137 := hc1 137 (by omega)
  have c136 := hc1 136 (by omega)
  have cw : w1.cell? ⟨w.heap.size, 8 + P, none⟩ = some (.int .i64 v) := by rw [← hv]; exact hc1 (8 + P) (by omega)
  have c_a := hc1 (A) (by omega)
  have HC := hide hc1
  clear hb R0 D0 hc1
  go_wp2_with fail
  refine (unhide HKn _).mono ?_
  rintro e w' ⟨rfl, hw⟩
  obtain rfl := hw.symm
  go_wp2_with fail
  refine (unhide HO _).mono ?_
  rintro e w' ⟨rfl, hw⟩
  obtain rfl := hw.symm
  go_wp2_with fail
  refine (unhide HA _).mono ?_
  rintro e w' ⟨rfl, hw⟩
  obtain rfl := hw.symm
  go_wp2_with fail
  refine (unhide HBb _).mono ?_
  rintro e w' ⟨rfl, hw⟩
  obtain rfl := hw.symm
  go_wp2_with fail
  refine (unhide HK _).mono ?_
  rintro e w' ⟨rfl, hw⟩
  obtain rfl := hw.symm
  have HB : Hid (Below w.heap.size w (w1.setCell ⟨w.heap.size, 136, none⟩ (.int .i64 (gz z A % 128)))) := (HB.out.setCell (Nat.le_refl _) _)
  have R2 : isRowB (w1.setCell ⟨w.heap.size, 136, none⟩ (.int .i64 (gz z A % 128))) (w.heap.size + 1) 138 = true := isRowB_setCell_other R1 _ _ (by omega) _
  have q2 : isRowB (w1.setCell ⟨w.heap.size, 136, none⟩ (.int .i64 (gz z A % 128))) w.heap.size 138 = true := isRowB_setCell q0 _ _
  have d2 : rowD (w1.setCell ⟨w.heap.size, 136, none⟩ (.int .i64 (gz z A % 128))) w.heap.size = S (z.set 136 (gz z A % 128)) := by rw [rowD_setCell q0, d0, S_set]
  obtain ⟨t, hg⟩ := heap_setRow_S R2 (S (z.set 136 (gz z A % 128)))
  have HG := hide hg
  clear hg
  go_wp2_with (first | (refine wpList_load_S rfl _ rfl _ rfl q2 _ d2 ?_) | (refine wpList_store_S rfl _ _ rfl _ rfl _ rfl (by simp [hl]) R2 _ rfl ?_))
  exact bodyPost_ret (v := .tuple #[.agg (S (z.set 136 (gz z A % 128))), .int .i64 0]) (res_S Tryd.results46 _ _ _ t (z.set 136 (gz z A % 128)) (by simp [hl]) rfl HG.out 0 rfl) rfl ⟨HN.out, below_setRow HB.out (by omega) _⟩

end Go.Proofs.YtmmflekajbeamaaDoor
