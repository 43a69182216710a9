/-
  The document's own step (package cribref): the instructions whose statements leave an order open: store, same, and the ops.
-/
import Derived.Test.YtmmflekajbeamaaDoorG08
namespace Go.Proofs.YtmmflekajbeamaaDoor
open Go.RowKit
set_option linter.unusedVariables false

set_option maxRecDepth 100000 in
set_option maxHeartbeats 2000000 in
theorem rstep_store (z : List Int) (w : World) (hl : z.length = 138) (hs : stB z = true) (hp : gz z 137 = 0) (P : Nat) (hP : gz z 136 = P) (hP1 : P < 128) (v : Int) (hv : gz z (8 + P) = v) (v0 : 0 ≤ v) (v1 : v < 4294967296) (hkn : knB (fop v) (fa v) (fb v) (fc v) = true) (A B C K : Nat) (ea : fa v = A) (eb : fb v = B) (ec : fc v = C) (ek : fk v = K) (k1 : K < 4096) (eo : fop v = 7) (ha : A < 8) (hb8 : B < 8) (m : Nat) (hm : (gz z B + (K : Int)) % 128 = m) (hm1 : m < 128) (r0 : 0 ≤ gz z B) (r1 : gz z B < 4294967296) :
    Calls Tryd.prog 46 #[.agg (S z)] w fun e' w' => e' = .returned (.tuple #[.agg (S (nxt z 7 A B C K)), .int .i64 0]) ∧ Below w.heap.size w w' := by
  have zz := zero34
  have bb := build34
  have HI := hide (right_any z (W2 z w) hl)
  rw [hs] at HI
  have R0 := W2_row0 z w hl
  have D0 := W2_rowD0 z w
  have HN : Hid (Ending.returned (.tuple #[.agg (S ((z.set (8 + m) (gz z A)).set 136 (((P : Int) + 1) % 128))), .int .i64 0]) = .returned (.tuple #[.agg (S (nxt z 7 A B C K)), .int .i64 0])) := by simp [Hid, nxt, hP, hm]
  have hP' : (P : Int) < 128 := by omega
  have HKn := hide (fun w => known_any v w v0 v1)
  have HO := hide (fun w => op_any v w v0 v1)
  have HA := hide (fun w => a_any v w v0 v1)
  have HBb := hide (fun w => b_any v w v0 v1)
  have HK := hide (fun w => k_any v w v0 v1)
  have HCc := hide (fun w => c_any v w v0 v1)
  rw [hkn] at HKn
  rw [eo] at HO
  rw [ea] at HA
  rw [eb] at HBb
  rw [ec] at HCc
  rw [ek] at HK
  clear eo ea eb ec ek hkn
  have ha' : (A : Int) < 8 := by omega
  have hb' : (B : Int) < 8 := by omega
  have hm' : (m : Int) < 128 := by omega
  go_enter Tryd.func46, Tryd.ntmps46
  go_wp2_with (refine wpList_load_S rfl _ rfl _ rfl R0 _ D0 ?_)
  refine (unhide HI).mono ?_
  rintro e w1 ⟨rfl, hb⟩
  rw [W2_size] at hb
  have R1 : isRowB w1 (w.heap.size + 1) 138 = true := by rw [isRowB_below hb (by omega)]; exact W2_row1 z w
  have HB : Hid (Below w.heap.size w w1) := (W2_below z w).trans (hb.mono (by omega))
  have hc1 : ∀ i, i < 138 → w1.cell? ⟨w.heap.size, i, none⟩ = some (.int .i64 (gz z i)) := fun i hi => by rw [below_cell hb _ _ (by omega)]; exact W2_cell z w hl i hi
  have q0 : isRowB w1 w.heap.size 138 = true := by rw [isRowB_below hb (by omega)]; exact R0
  have d0 : rowD w1 w.heap.size = S z := by rw [rowD_below hb (by omega)]; exact D0
  have hz1 : w.heap.size + 1 < w1.heap.size := by have := hb.size; rw [W2_size] at this; omega
  have fz1 : ∀ i, w1.frozen? ⟨w.heap.size, i, none⟩ = false := fun i => by rw [below_frozen hb _ _ (by omega)]; exact W2_frozen z w i
  have c137 := hc1 137 (by omega)
  have c136 := hc1 136 (by omega)
  have cw : w1.cell? ⟨w.heap.size, 8 + P, none⟩ = some (.int .i64 v) := by rw [← hv]; exact hc1 (8 + P) (by omega)
  have c_a := hc1 (A) (by omega)
  have c_b := hc1 (B) (by omega)
  have c_m := hc1 (8 + m) (by omega)
  have HC := hide hc1
  clear hb R0 D0 hc1
  go_wp2_with fail
  refine (unhide HKn _).mono ?_
  rintro e w' ⟨rfl, hw⟩
  obtain rfl := hw.symm
  go_wp2_with fail
  refine (unhide HO _).mono ?_
  rintro e w' ⟨rfl, hw⟩
  obtain rfl := hw.symm
  go_wp2_with fail
  refine (unhide HA _).mono ?_
  rintro e w' ⟨rfl, hw⟩
  obtain rfl := hw.symm
  go_wp2_with fail
  refine (unhide HBb _).mono ?_
  rintro e w' ⟨rfl, hw⟩
  obtain rfl := hw.symm
  go_wp2_with fail
  refine (unhide HK _).mono ?_
  rintro e w' ⟨rfl, hw⟩
  obtain rfl := hw.symm
  have r2 : isRowB (w1.setCell ⟨w.heap.size, 8 + m, none⟩ (.int .i64 (gz z A))) (w.heap.size + 1) 138 = true := isRowB_setCell_other R1 _ _ (by omega) _
  have p2 : isRowB (w1.setCell ⟨w.heap.size, 8 + m, none⟩ (.int .i64 (gz z A))) w.heap.size 138 = true := isRowB_setCell q0 _ _
  have e2 : rowD (w1.setCell ⟨w.heap.size, 8 + m, none⟩ (.int .i64 (gz z A))) w.heap.size = S (z.set (8 + m) (gz z A)) := by rw [rowD_setCell q0, d0, S_set]
  have c2 : (w1.setCell ⟨w.heap.size, 8 + m, none⟩ (.int .i64 (gz z A))).cell? ⟨w.heap.size, 136, none⟩ = some (.int .i64 (gz (z.set (8 + m) (gz z A)) 136)) := by rw [cell_set q0, d0, S_set, S_get _ _ (by simp [hl])]
  have HX : Hid (Below w.heap.size w (w1.setCell ⟨w.heap.size, 8 + m, none⟩ (.int .i64 (gz z A)))) := HB.out.setCell (Nat.le_refl _) _
  have HB : Hid (Below w.heap.size w ((w1.setCell ⟨w.heap.size, 8 + m, none⟩ (.int .i64 (gz z A))).setCell ⟨w.heap.size, 136, none⟩ (.int .i64 (((P : Int) + 1) % 128))).drew) := (HX.out.setCell (Nat.le_refl _) _).drew
  have R2 : isRowB ((w1.setCell ⟨w.heap.size, 8 + m, none⟩ (.int .i64 (gz z A))).setCell ⟨w.heap.size, 136, none⟩ (.int .i64 (((P : Int) + 1) % 128))).drew (w.heap.size + 1) 138 = true := isRowB_setCell_other r2 _ _ (by omega) _
  have q2 : isRowB ((w1.setCell ⟨w.heap.size, 8 + m, none⟩ (.int .i64 (gz z A))).setCell ⟨w.heap.size, 136, none⟩ (.int .i64 (((P : Int) + 1) % 128))).drew w.heap.size 138 = true := isRowB_setCell p2 _ _
  have d2 : rowD ((w1.setCell ⟨w.heap.size, 8 + m, none⟩ (.int .i64 (gz z A))).setCell ⟨w.heap.size, 136, none⟩ (.int .i64 (((P : Int) + 1) % 128))).drew w.heap.size = S ((z.set (8 + m) (gz z A)).set 136 (((P : Int) + 1) % 128)) := by rw [rowD_drew]; rw [rowD_setCell p2, e2, S_set]
  obtain ⟨t, hg⟩ := heap_setRow_S R2 (S ((z.set (8 + m) (gz z A)).set 136 (((P : Int) + 1) % 128)))
  have HG := hide hg
  clear hg
  go_wp2_with fail
  have hw64 : IntKind.i64.wrap (gz z B + (K : Int)) = gz z B + (K : Int) := by rw [IntKind.wrap_i64]; omega
  have htm : (gz z B + (K : Int)).tmod 128 = (m : Int) := by rw [Int.tmod_eq_emod_of_nonneg (by omega)]; exact hm
  refine still_tail 13 (by kernel_rfl) (by kernel_rfl) ?_
  simp only [List.take_succ_cons, List.take_zero, List.drop_succ_cons, List.drop_zero]
  repeat still_step
  refine wpStill_nil ?_
  go_wp2_with (first | (refine wpList_load_S rfl _ rfl _ rfl q2 _ d2 ?_) | (refine wpList_store_S rfl _ _ rfl _ rfl _ rfl (by simp [hl]) R2 _ rfl ?_))
  exact bodyPost_ret (v := .tuple #[.agg (S ((z.set (8 + m) (gz z A)).set 136 (((P : Int) + 1) % 128))), .int .i64 0]) (res_S Tryd.results46 _ _ _ t ((z.set (8 + m) (gz z A)).set 136 (((P : Int) + 1) % 128)) (by simp [hl]) rfl HG.out 0 rfl) rfl ⟨HN.out, below_setRow HB.out (by omega) _⟩

set_option maxRecDepth 100000 in
set_option maxHeartbeats 2000000 in
theorem rstep_same_yes (z : List Int) (w : World) (hl : z.length = 138) (hs : stB z = true) (hp : gz z 137 = 0) (P : Nat) (hP : gz z 136 = P) (hP1 : P < 128) (v : Int) (hv : gz z (8 + P) = v) (v0 : 0 ≤ v) (v1 : v < 4294967296) (hkn : knB (fop v) (fa v) (fb v) (fc v) = true) (A B C K : Nat) (ea : fa v = A) (eb : fb v = B) (ec : fc v = C) (ek : fk v = K) (k1 : K < 4096) (eo : fop v = 8) (ha : A < 8) (hb8 : B < 8) (hq : gz z A = gz z B) :
    Calls Tryd.prog 46 #[.agg (S z)] w fun e' w' => e' = .returned (.tuple #[.agg (S (nxt z 8 A B C K)), .int .i64 0]) ∧ Below w.heap.size w w' := by
  have zz := zero34
  have bb := build34
  have HI := hide (right_any z (W2 z w) hl)
  rw [hs] at HI
  have R0 := W2_row0 z w hl
  have D0 := W2_rowD0 z w
  have HN : Hid (Ending.returned (.tuple #[.agg (S (z.set 136 ((K : Int) % 128))), .int .i64 0]) = .returned (.tuple #[.agg (S (nxt z 8 A B C K)), .int .i64 0])) := by simp [Hid, nxt, hq]
  have hP' : (P : Int) < 128 := by omega
  have HKn := hide (fun w => known_any v w v0 v1)
  have HO := hide (fun w => op_any v w v0 v1)
  have HA := hide (fun w => a_any v w v0 v1)
  have HBb := hide (fun w => b_any v w v0 v1)
  have HK := hide (fun w => k_any v w v0 v1)
  have HCc := hide (fun w => c_any v w v0 v1)
  rw [hkn] at HKn
  rw [eo] at HO
  rw [ea] at HA
  rw [eb] at HBb
  rw [ec] at HCc
  rw [ek] at HK
  clear eo ea eb ec ek hkn
  have ha' : (A : Int) < 8 := by omega
  have hb' : (B : Int) < 8 := by omega
  have hq' : (gz z A == gz z B) = true := by simpa using hq
  clear hq
  go_enter Tryd.func46, Tryd.ntmps46
  go_wp2_with (refine wpList_load_S rfl _ rfl _ rfl R0 _ D0 ?_)
  refine (unhide HI).mono ?_
  rintro e w1 ⟨rfl, hb⟩
  rw [W2_size] at hb
  have R1 : isRowB w1 (w.heap.size + 1) 138 = true := by rw [isRowB_below hb (by omega)]; exact W2_row1 z w
  have HB : Hid (Below w.heap.size w w1) := (W2_below z w).trans (hb.mono (by omega))
  have hc1 : ∀ i, i < 138 → w1.cell? ⟨w.heap.size, i, none⟩ = some (.int .i64 (gz z i)) := fun i hi => by rw [below_cell hb _ _ (by omega)]; exact W2_cell z w hl i hi
  have q0 : isRowB w1 w.heap.size 138 = true := by rw [isRowB_below hb (by omega)]; exact R0
  have d0 : rowD w1 w.heap.size = S z := by rw [rowD_below hb (by omega)]; exact D0
  have hz1 : w.heap.size + 1 < w1.heap.size := by have := hb.size; rw [W2_size] at this; omega
  have fz1 : ∀ i, w1.frozen? ⟨w.heap.size, i, none⟩ = false := fun i => by rw [below_frozen hb _ _ (by omega)]; exact W2_frozen z w i
  have c137 := hc1 137 (by omega)
  have c136 := hc1 136 (by omega)
  have cw : w1.cell? ⟨w.heap.size, 8 + P, none⟩ = some (.int .i64 v) := by rw [← hv]; exact hc1 (8 + P) (by omega)
  have c_a := hc1 (A) (by omega)
  have c_b := hc1 (B) (by omega)
  have HC := hide hc1
  clear hb R0 D0 hc1
  go_wp2_with fail
  refine (unhide HKn _).mono ?_
  rintro e w' ⟨rfl, hw⟩
  obtain rfl := hw.symm
  go_wp2_with fail
  refine (unhide HO _).mono ?_
  rintro e w' ⟨rfl, hw⟩
  obtain rfl := hw.symm
  go_wp2_with fail
  refine (unhide HA _).mono ?_
  rintro e w' ⟨rfl, hw⟩
  obtain rfl := hw.symm
  go_wp2_with fail
  refine (unhide HBb _).mono ?_
  rintro e w' ⟨rfl, hw⟩
  obtain rfl := hw.symm
  go_wp2_with fail
  refine (unhide HK _).mono ?_
  rintro e w' ⟨rfl, hw⟩
  obtain rfl := hw.symm
  have HB : Hid (Below w.heap.size w (w1.setCell ⟨w.heap.size, 136, none⟩ (.int .i64 ((K : Int) % 128))).drew) := (HB.out.setCell (Nat.le_refl _) _).drew
  have R2 : isRowB (w1.setCell ⟨w.heap.size, 136, none⟩ (.int .i64 ((K : Int) % 128))).drew (w.heap.size + 1) 138 = true := isRowB_setCell_other R1 _ _ (by omega) _
  have q2 : isRowB (w1.setCell ⟨w.heap.size, 136, none⟩ (.int .i64 ((K : Int) % 128))).drew w.heap.size 138 = true := isRowB_setCell q0 _ _
  have d2 : rowD (w1.setCell ⟨w.heap.size, 136, none⟩ (.int .i64 ((K : Int) % 128))).drew w.heap.size = S (z.set 136 ((K : Int) % 128)) := by rw [rowD_drew]; rw [rowD_setCell q0, d0, S_set]
  obtain ⟨t, hg⟩ := heap_setRow_S R2 (S (z.set 136 ((K : Int) % 128)))
  have HG := hide hg
  clear hg
  go_wp2_with fail
  refine still_all (by kernel_rfl) (by kernel_rfl) ?_
  repeat still_step
  refine wpStill_nil ?_
  go_wp2_with (first | (refine wpList_load_S rfl _ rfl _ rfl q2 _ d2 ?_) | (refine wpList_store_S rfl _ _ rfl _ rfl _ rfl (by simp [hl]) R2 _ rfl ?_))
  exact bodyPost_ret (v := .tuple #[.agg (S (z.set 136 ((K : Int) % 128))), .int .i64 0]) (res_S Tryd.results46 _ _ _ t (z.set 136 ((K : Int) % 128)) (by simp [hl]) rfl HG.out 0 rfl) rfl ⟨HN.out, below_setRow HB.out (by omega) _⟩

set_option maxRecDepth 100000 in
set_option maxHeartbeats 2000000 in
theorem rstep_same_no (z : List Int) (w : World) (hl : z.length = 138) (hs : stB z = true) (hp : gz z 137 = 0) (P : Nat) (hP : gz z 136 = P) (hP1 : P < 128) (v : Int) (hv : gz z (8 + P) = v) (v0 : 0 ≤ v) (v1 : v < 4294967296) (hkn : knB (fop v) (fa v) (fb v) (fc v) = true) (A B C K : Nat) (ea : fa v = A) (eb : fb v = B) (ec : fc v = C) (ek : fk v = K) (k1 : K < 4096) (eo : fop v = 8) (ha : A < 8) (hb8 : B < 8) (hq : ¬ gz z A = gz z B) :
    Calls Tryd.prog 46 #[.agg (S z)] w fun e' w' => e' = .returned (.tuple #[.agg (S (nxt z 8 A B C K)), .int .i64 0]) ∧ Below w.heap.size w w' := by
  have zz := zero34
  have bb := build34
  have HI := hide (right_any z (W2 z w) hl)
  rw [hs] at HI
  have R0 := W2_row0 z w hl
  have D0 := W2_rowD0 z w
  have HN : Hid (Ending.returned (.tuple #[.agg (S (z.set 136 (((P : Int) + 1) % 128))), .int .i64 0]) = .returned (.tuple #[.agg (S (nxt z 8 A B C K)), .int .i64 0])) := by simp [Hid, nxt, hq, hP]
  have hP' : (P : Int) < 128 := by omega
  have HKn := hide (fun w => known_any v w v0 v1)
  have HO := hide (fun w => op_any v w v0 v1)
  have HA := hide (fun w => a_any v w v0 v1)
  have HBb := hide (fun w => b_any v w v0 v1)
  have HK := hide (fun w => k_any v w v0 v1)
  have HCc := hide (fun w => c_any v w v0 v1)
  rw [hkn] at HKn
  rw [eo] at HO
  rw [ea] at HA
  rw [eb] at HBb
  rw [ec] at HCc
  rw [ek] at HK
  clear eo ea eb ec ek hkn
  have ha' : (A : Int) < 8 := by omega
  have hb' : (B : Int) < 8 := by omega
  have hq' : (gz z A == gz z B) = false := by simpa using hq
  clear hq
  go_enter Tryd.func46, Tryd.ntmps46
  go_wp2_with (refine wpList_load_S rfl _ rfl _ rfl R0 _ D0 ?_)
  refine (unhide HI).mono ?_
  rintro e w1 ⟨rfl, hb⟩
  rw [W2_size] at hb
  have R1 : isRowB w1 (w.heap.size + 1) 138 = true := by rw [isRowB_below hb (by omega)]; exact W2_row1 z w
  have HB : Hid (Below w.heap.size w w1) := (W2_below z w).trans (hb.mono (by omega))
  have hc1 : ∀ i, i < 138 → w1.cell? ⟨w.heap.size, i, none⟩ = some (.int .i64 (gz z i)) := fun i hi => by rw [below_cell hb _ _ (by omega)]; exact W2_cell z w hl i hi
  have q0 : isRowB w1 w.heap.size 138 = true := by rw [isRowB_below hb (by omega)]; exact R0
  have d0 : rowD w1 w.heap.size = S z := by rw [rowD_below hb (by omega)]; exact D0
  have hz1 : w.heap.size + 1 < w1.heap.size := by have := hb.size; rw [W2_size] at this; omega
  have fz1 : ∀ i, w1.frozen? ⟨w.heap.size, i, none⟩ = false := fun i => by rw [below_frozen hb _ _ (by omega)]; exact W2_frozen z w i
  have c137 := hc1 137 (by omega)
  have c136 := hc1 136 (by omega)
  have cw : w1.cell? ⟨w.heap.size, 8 + P, none⟩ = some (.int .i64 v) := by rw [← hv]; exact hc1 (8 + P) (by omega)
  have c_a := hc1 (A) (by omega)
  have c_b := hc1 (B) (by omega)
  have HC := hide hc1
  clear hb R0 D0 hc1
  go_wp2_with fail
  refine (unhide HKn _).mono ?_
  rintro e w' ⟨rfl, hw⟩
  obtain rfl := hw.symm
  go_wp2_with fail
  refine (unhide HO _).mono ?_
  rintro e w' ⟨rfl, hw⟩
  obtain rfl := hw.symm
  go_wp2_with fail
  refine (unhide HA _).mono ?_
  rintro e w' ⟨rfl, hw⟩
  obtain rfl := hw.symm
  go_wp2_with fail
  refine (unhide HBb _).mono ?_
  rintro e w' ⟨rfl, hw⟩
  obtain rfl := hw.symm
  go_wp2_with fail
  refine (unhide HK _).mono ?_
  rintro e w' ⟨rfl, hw⟩
  obtain rfl := hw.symm
  have HB : Hid (Below w.heap.size w (w1.setCell ⟨w.heap.size, 136, none⟩ (.int .i64 (((P : Int) + 1) % 128))).drew) := (HB.out.setCell (Nat.le_refl _) _).drew
  have R2 : isRowB (w1.setCell ⟨w.heap.size, 136, none⟩ (.int .i64 (((P : Int) + 1) % 128))).drew (w.heap.size + 1) 138 = true := isRowB_setCell_other R1 _ _ (by omega) _
  have q2 : isRowB (w1.setCell ⟨w.heap.size, 136, none⟩ (.int .i64 (((P : Int) + 1) % 128))).drew w.heap.size 138 = true := isRowB_setCell q0 _ _
  have d2 : rowD (w1.setCell ⟨w.heap.size, 136, none⟩ (.int .i64 (((P : Int) + 1) % 128))).drew w.heap.size = S (z.set 136 (((P : Int) + 1) % 128)) := by rw [rowD_drew]; rw [rowD_setCell q0, d0, S_set]
  obtain ⟨t, hg⟩ := heap_setRow_S R2 (S (z.set 136 (((P : Int) + 1) % 128)))
  have HG := hide hg
  clear hg
  go_wp2_with fail
  refine still_all (by kernel_rfl) (by kernel_rfl) ?_
  repeat still_step
  refine wpStill_nil ?_
  go_wp2_with (first | (refine wpList_load_S rfl _ rfl _ rfl q2 _ d2 ?_) | (refine wpList_store_S rfl _ _ rfl _ rfl _ rfl (by simp [hl]) R2 _ rfl ?_))
  exact bodyPost_ret (v := .tuple #[.agg (S (z.set 136 (((P : Int) + 1) % 128))), .int .i64 0]) (res_S Tryd.results46 _ _ _ t (z.set 136 (((P : Int) + 1) % 128)) (by simp [hl]) rfl HG.out 0 rfl) rfl ⟨HN.out, below_setRow HB.out (by omega) _⟩

set_option maxRecDepth 100000 in
set_option maxHeartbeats 2000000 in
theorem rstep_work (z : List Int) (w : World) (hl : z.length = 138) (hs : stB z = true) (hp : gz z 137 = 0) (P : Nat) (hP : gz z 136 = P) (hP1 : P < 128) (v : Int) (hv : gz z (8 + P) = v) (v0 : 0 ≤ v) (v1 : v < 4294967296) (hkn : knB (fop v) (fa v) (fb v) (fc v) = true) (A B C K : Nat) (ea : fa v = A) (eb : fb v = B) (ec : fc v = C) (ek : fk v = K) (k1 : K < 4096) (op : Int) (o2 : 2 ≤ op) (o5 : op ≤ 5) (eo : fop v = op) (ha : A < 8) (hb8 : B < 8) (hc8 : C < 8) (r0 : 0 ≤ gz z B) (r1 : gz z B < 4294967296) (s0 : 0 ≤ gz z C) (s1 : gz z C < 4294967296) (r : Int) (hrr : wk op (gz z B) (gz z C) = r) :
    Calls Tryd.prog 46 #[.agg (S z)] w fun e' w' => e' = .returned (.tuple #[.agg (S (nxt z op A B C K)), .int .i64 0]) ∧ Below w.heap.size w w' := by
  have zz := zero34
  have bb := build34
  have HI := hide (right_any z (W2 z w) hl)
  rw [hs] at HI
  have R0 := W2_row0 z w hl
  have D0 := W2_rowD0 z w
  have HN : Hid (Ending.returned (.tuple #[.agg (S ((z.set (A) (r)).set 136 (((P : Int) + 1) % 128))), .int .i64 0]) = .returned (.tuple #[.agg (S (nxt z op A B C K)), .int .i64 0])) := by simp [Hid, nxt, hP, hrr, show ¬ op = 0 by omega, show ¬ op = 1 by omega, o2, o5]
  have hP' : (P : Int) < 128 := by omega
  have HKn := hide (fun w => known_any v w v0 v1)
  have HO := hide (fun w => op_any v w v0 v1)
  have HA := hide (fun w => a_any v w v0 v1)
  have HBb := hide (fun w => b_any v w v0 v1)
  have HK := hide (fun w => k_any v w v0 v1)
  have HCc := hide (fun w => c_any v w v0 v1)
  rw [hkn] at HKn
  rw [eo] at HO
  rw [ea] at HA
  rw [eb] at HBb
  rw [ec] at HCc
  rw [ek] at HK
  clear eo ea eb ec ek hkn
  have ha' : (A : Int) < 8 := by omega
  have hb' : (B : Int) < 8 := by omega
  have hc' : (C : Int) < 8 := by omega
  have HW := hide (fun w' => works_any op (gz z B) (gz z C) w' r0 r1 s0 s1 o2 o5)
  rw [hrr] at HW
  clear hrr
  have o_0 : (op == 0) = false := by simp; omega
  have o_1 : (op == 1) = false := by simp; omega
  have o_6 : (op == 6) = false := by simp; omega
  have o_7 : (op == 7) = false := by simp; omega
  have o_8 : (op == 8) = false := by simp; omega
  have o_9 : (op == 9) = false := by simp; omega
  have o_10 : (op == 10) = false := by simp; omega
  go_enter Tryd.func46, Tryd.ntmps46
  go_wp2_with (refine wpList_load_S rfl _ rfl _ rfl R0 _ D0 ?_)
  refine (unhide HI).mono ?_
  rintro e w1 ⟨rfl, hb⟩
  rw [W2_size] at hb
  have R1 : isRowB w1 (w.heap.size + 1) 138 = true := by rw [isRowB_below hb (by omega)]; exact W2_row1 z w
  have HB : Hid (Below w.heap.size w w1) := (W2_below z w).trans (hb.mono (by omega))
  have hc1 : ∀ i, i < 138 → w1.cell? ⟨w.heap.size, i, none⟩ = some (.int .i64 (gz z i)) := fun i hi => by rw [below_cell hb _ _ (by omega)]; exact W2_cell z w hl i hi
  have q0 : isRowB w1 w.heap.size 138 = true := by rw [isRowB_below hb (by omega)]; exact R0
  have d0 : rowD w1 w.heap.size = S z := by rw [rowD_below hb (by omega)]; exact D0
  have hz1 : w.heap.size + 1 < w1.heap.size := by have := hb.size; rw [W2_size] at this; omega
  have fz1 : ∀ i, w1.frozen? ⟨w.heap.size, i, none⟩ = false := fun i => by rw [below_frozen hb _ _ (by omega)]; exact W2_frozen z w i
  have c137 := hc1 137 (by omega)
  have c136 := hc1 136 (by omega)
  have cw : w1.cell? ⟨w.heap.size, 8 + P, none⟩ = some (.int .i64 v) := by rw [← hv]; exact hc1 (8 + P) (by omega)
  have c_a := hc1 (A) (by omega)
  have c_b := hc1 (B) (by omega)
  have c_c := hc1 (C) (by omega)
  have HC := hide hc1
  clear hb R0 D0 hc1
  go_wp2_with fail
  refine (unhide HKn _).mono ?_
  rintro e w' ⟨rfl, hw⟩
  obtain rfl := hw.symm
  go_wp2_with fail
  refine (unhide HO _).mono ?_
  rintro e w' ⟨rfl, hw⟩
  obtain rfl := hw.symm
  go_wp2_with fail
  refine (unhide HA _).mono ?_
  rintro e w' ⟨rfl, hw⟩
  obtain rfl := hw.symm
  go_wp2_with fail
  refine (unhide HBb _).mono ?_
  rintro e w' ⟨rfl, hw⟩
  obtain rfl := hw.symm
  go_wp2_with fail
  refine (unhide HK _).mono ?_
  rintro e w' ⟨rfl, hw⟩
  obtain rfl := hw.symm
  have r2 : isRowB (w1.setCell ⟨w.heap.size, A, none⟩ (.int .i64 (r))) (w.heap.size + 1) 138 = true := isRowB_setCell_other R1 _ _ (by omega) _
  have p2 : isRowB (w1.setCell ⟨w.heap.size, A, none⟩ (.int .i64 (r))) w.heap.size 138 = true := isRowB_setCell q0 _ _
  have e2 : rowD (w1.setCell ⟨w.heap.size, A, none⟩ (.int .i64 (r))) w.heap.size = S (z.set (A) (r)) := by rw [rowD_setCell q0, d0, S_set]
  have c2 : (w1.setCell ⟨w.heap.size, A, none⟩ (.int .i64 (r))).cell? ⟨w.heap.size, 136, none⟩ = some (.int .i64 (gz (z.set (A) (r)) 136)) := by rw [cell_set q0, d0, S_set, S_get _ _ (by simp [hl])]
  have HX : Hid (Below w.heap.size w (w1.setCell ⟨w.heap.size, A, none⟩ (.int .i64 (r)))) := HB.out.setCell (Nat.le_refl _) _
  have HB : Hid (Below w.heap.size w ((w1.setCell ⟨w.heap.size, A, none⟩ (.int .i64 (r))).setCell ⟨w.heap.size, 136, none⟩ (.int .i64 (((P : Int) + 1) % 128))).drew) := (HX.out.setCell (Nat.le_refl _) _).drew
  have R2 : isRowB ((w1.setCell ⟨w.heap.size, A, none⟩ (.int .i64 (r))).setCell ⟨w.heap.size, 136, none⟩ (.int .i64 (((P : Int) + 1) % 128))).drew (w.heap.size + 1) 138 = true := isRowB_setCell_other r2 _ _ (by omega) _
  have q2 : isRowB ((w1.setCell ⟨w.heap.size, A, none⟩ (.int .i64 (r))).setCell ⟨w.heap.size, 136, none⟩ (.int .i64 (((P : Int) + 1) % 128))).drew w.heap.size 138 = true := isRowB_setCell p2 _ _
  have d2 : rowD ((w1.setCell ⟨w.heap.size, A, none⟩ (.int .i64 (r))).setCell ⟨w.heap.size, 136, none⟩ (.int .i64 (((P : Int) + 1) % 128))).drew w.heap.size = S ((z.set (A) (r)).set 136 (((P : Int) + 1) % 128)) := by rw [rowD_drew]; rw [rowD_setCell p2, e2, S_set]
  obtain ⟨t, hg⟩ := heap_setRow_S R2 (S ((z.set (A) (r)).set 136 (((P : Int) + 1) % 128)))
  have HG := hide hg
  clear hg
  go_wp2_with fail
  refine (unhide HCc _).mono ?_
  rintro e w' ⟨rfl, hw⟩
  obtain rfl := hw.symm
  go_wp2_with fail
  refine still_tail 13 (by kernel_rfl) (by kernel_rfl) ?_
  simp only [List.take_succ_cons, List.take_zero, List.drop_succ_cons, List.drop_zero]
  repeat still_step
  still_call (unhide HW _)
  repeat still_step
  refine wpStill_nil ?_
  go_wp2_with (first | (refine wpList_load_S rfl _ rfl _ rfl q2 _ d2 ?_) | (refine wpList_store_S rfl _ _ rfl _ rfl _ rfl (by simp [hl]) R2 _ rfl ?_))
  exact bodyPost_ret (v := .tuple #[.agg (S ((z.set (A) (r)).set 136 (((P : Int) + 1) % 128))), .int .i64 0]) (res_S Tryd.results46 _ _ _ t ((z.set (A) (r)).set 136 (((P : Int) + 1) % 128)) (by simp [hl]) rfl HG.out 0 rfl) rfl ⟨HN.out, below_setRow HB.out (by omega) _⟩

end Go.Proofs.YtmmflekajbeamaaDoor
