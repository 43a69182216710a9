/-
  The document's own step (package cribref): the instructions whose statements leave an order open: store, same, and the ops.
  Both steps of any state come to one answer; two states of the same numbers are the same to Go; the law Steps returns true.
-/
import Derived.Test.YtmmflekajbeamaaDoorS22
import Derived.ChangeKeysEq
namespace Go.Proofs.YtmmflekajbeamaaDoor
open Go.RowKit
set_option linter.unusedVariables false

set_option maxRecDepth 100000 in
set_option maxHeartbeats 2000000 in
theorem rstep_store (z : List Int) (w : World) (hl : z.length = 138) (hs : stB z = true) (hp : gz z 137 = 0) (P : Nat) (hP : gz z 136 = P) (hP1 : P < 128) (v : Int) (hv : gz z (8 + P) = v) (v0 : 0 ≤ v) (v1 : v < 4294967296) (hkn : knB (fop v) (fa v) (fb v) (fc v) = true) (A B C K : Nat) (ea : fa v = A) (eb : fb v = B) (ec : fc v = C) (ek : fk v = K) (k1 : K < 4096) (eo : fop v = 7) (ha : A < 8) (hb8 : B < 8) (m : Nat) (hm : (gz z B + (K : Int)) % 128 = m) (hm1 : m < 128) (r0 : 0 ≤ gz z B) (r1 : gz z B < 4294967296) :
    Calls Tryd.prog 46 #[.agg (S z)] w fun e' w' => e' = .returned (.tuple #[.agg (S (nxt z 7 A B C K)), .int .i64 0]) ∧ Below w.heap.size w w' := by
  have zz := zero34
  have bb := build34
  have HI := hide (right_any z (W2 z w) hl)
  rw [hs] at HI
  have R0 := W2_row0 z w hl
  have D0 := W2_rowD0 z w
  have HN : Hid (Ending.returned (.tuple #[.agg (S ((z.set (8 + m) (gz z A)).set 136 (((P : Int) + 1) % 128))), .int .i64 0]) = .returned (.tuple #[.agg (S (nxt z 7 A B C K)), .int .i64 0])) := by simp [Hid, nxt, hP, hm]
  have hP' : (P : Int) < 128 := by omega
  have HKn := hide (fun w => known_any v w v0 v1)
  have HO := hide (fun w => op_any v w v0 v1)
  have HA := hide (fun w => a_any v w v0 v1)
  have HBb := hide (fun w => b_any v w v0 v1)
  have HK := hide (fun w => k_any v w v0 v1)
  have HCc := hide (fun w => c_any v w v0 v1)
  rw [hkn] at HKn
  rw [eo] at HO
  rw [ea] at HA
  rw [eb] at HBb
  rw [ec] at HCc
  rw [ek] at HK
  clear eo ea eb ec ek hkn
  have ha' : (A : Int) < 8 := by omega
  have hb' : (B : Int) < 8 := by omega
  have hm' : (m : Int) < 128 := by omega
  go_enter Tryd.func46, Tryd.ntmps46
  go_wp2_with (refine wpList_load_S rfl _ rfl _ rfl R0 _ D0 ?_)
  refine (unhide HI).mono ?_
  rintro e w1 ⟨rfl, hb⟩
  rw [W2_size] at hb
  have R1 : isRowB w1 (w.heap.size + 1) 138 = true := by rw [isRowB_below hb (by omega)]; exact W2_row1 z w
  have HB : Hid (Below w.heap.size w w1) := (W2_below z w).trans (hb.mono (by omega))
  have hc1 : ∀ i, i < 138 → w1.cell? ⟨w.heap.size, i, none⟩ = some (.int .i64 (gz z i)) := fun i hi => by rw [below_cell hb _ _ (by omega)]; exact W2_cell z w hl i hi
  have q0 : isRowB w1 w.heap.size 138 = true := by rw [isRowB_below hb (by omega)]; exact R0
  have d0 : rowD w1 w.heap.size = S z := by rw [rowD_below hb (by omega)]; exact D0
  have hz1 : w.heap.size + 1 < w1.heap.size := by have := hb.size; rw [W2_size] at this; omega
  have fz1 : ∀ i, w1.frozen? ⟨w.heap.size, i, none⟩ = false := fun i => by rw [below_frozen hb _ _ (by omega)]; exact W2_frozen z w i
  have c137 := hc1 137 (by omega)
  have c136 := hc1 136 (by omega)
  have cw : w1.cell? ⟨w.heap.size, 8 + P, none⟩ = some (.int .i64 v) := by rw [← hv]; exact hc1 (8 + P) (by omega)
  have c_a := hc1 (A) (by omega)
  have c_b := hc1 (B) (by omega)
  have c_m := hc1 (8 + m) (by omega)
  have HC := hide hc1
  clear hb R0 D0 hc1
  go_wp2_with fail
  refine (unhide HKn _).mono ?_
  rintro e w' ⟨rfl, hw⟩
  obtain rfl := hw.symm
  go_wp2_with fail
  refine (unhide HO _).mono ?_
  rintro e w' ⟨rfl, hw⟩
  obtain rfl := hw.symm
  go_wp2_with fail
  refine (unhide HA _).mono ?_
  rintro e w' ⟨rfl, hw⟩
  obtain rfl := hw.symm
  go_wp2_with fail
  refine (unhide HBb _).mono ?_
  rintro e w' ⟨rfl, hw⟩
  obtain rfl := hw.symm
  go_wp2_with fail
  refine (unhide HK _).mono ?_
  rintro e w' ⟨rfl, hw⟩
  obtain rfl := hw.symm
  have r2 : isRowB (w1.setCell ⟨w.heap.size, 8 + m, none⟩ (.int .i64 (gz z A))) (w.heap.size + 1) 138 = true := isRowB_setCell_other R1 _ _ (by omega) _
  have p2 : isRowB (w1.setCell ⟨w.heap.size, 8 + m, none⟩ (.int .i64 (gz z A))) w.heap.size 138 = true := isRowB_setCell q0 _ _
  have e2 : rowD (w1.setCell ⟨w.heap.size, 8 + m, none⟩ (.int .i64 (gz z A))) w.heap.size = S (z.set (8 + m) (gz z A)) := by rw [rowD_setCell q0, d0, S_set]
  have c2 : (w1.setCell ⟨w.heap.size, 8 + m, none⟩ (.int .i64 (gz z A))).cell? ⟨w.heap.size, 136, none⟩ = some (.int .i64 (gz (z.set (8 + m) (gz z A)) 136)) := by rw [cell_set q0, d0, S_set, S_get _ _ (by simp [hl])]
  have HX : Hid (Below w.heap.size w (w1.setCell ⟨w.heap.size, 8 + m, none⟩ (.int .i64 (gz z A)))) := HB.out.setCell (Nat.le_refl _) _
  have HB : Hid (Below w.heap.size w ((w1.setCell ⟨w.heap.size, 8 + m, none⟩ (.int .i64 (gz z A))).setCell ⟨w.heap.size, 136, none⟩ (.int .i64 (((P : Int) + 1) % 128))).drew) := (HX.out.setCell (Nat.le_refl _) _).drew
  have R2 : isRowB ((w1.setCell ⟨w.heap.size, 8 + m, none⟩ (.int .i64 (gz z A))).setCell ⟨w.heap.size, 136, none⟩ (.int .i64 (((P : Int) + 1) % 128))).drew (w.heap.size + 1) 138 = true := isRowB_setCell_other r2 _ _ (by omega) _
  have q2 : isRowB ((w1.setCell ⟨w.heap.size, 8 + m, none⟩ (.int .i64 (gz z A))).setCell ⟨w.heap.size, 136, none⟩ (.int .i64 (((P : Int) + 1) % 128))).drew w.heap.size 138 = true := isRowB_setCell p2 _ _
  have d2 : rowD ((w1.setCell ⟨w.heap.size, 8 + m, none⟩ (.int .i64 (gz z A))).setCell ⟨w.heap.size, 136, none⟩ (.int .i64 (((P : Int) + 1) % 128))).drew w.heap.size = S ((z.set (8 + m) (gz z A)).set 136 (((P : Int) + 1) % 128)) := by rw [rowD_drew]; rw [rowD_setCell p2, e2, S_set]
  obtain ⟨t, hg⟩ := heap_setRow_S R2 (S ((z.set (8 + m) (gz z A)).set 136 (((P : Int) + 1) % 128)))
  have HG := hide hg
  clear hg
  go_wp2_with fail
  have hw64 : IntKind.i64.wrap (gz z B + (K : Int)) = gz z B + (K : Int) := by rw [IntKind.wrap_i64]; omega
  have htm : (gz z B + (K : Int)).tmod 128 = (m : Int) := by rw [Int.tmod_eq_emod_of_nonneg (by omega)]; exact hm
  refine still_tail 13 (by kernel_rfl) (by kernel_rfl) ?_
  simp only [List.take_succ_cons, List.take_zero, List.drop_succ_cons, List.drop_zero]
  repeat still_step
  refine wpStill_nil ?_
  go_wp2_with (first | (refine wpList_load_S rfl _ rfl _ rfl q2 _ d2 ?_) | (refine wpList_store_S rfl _ _ rfl _ rfl _ rfl (by simp [hl]) R2 _ rfl ?_))
  exact bodyPost_ret (v := .tuple #[.agg (S ((z.set (8 + m) (gz z A)).set 136 (((P : Int) + 1) % 128))), .int .i64 0]) (res_S Tryd.results46 _ _ _ t ((z.set (8 + m) (gz z A)).set 136 (((P : Int) + 1) % 128)) (by simp [hl]) rfl HG.out 0 rfl) rfl ⟨HN.out, below_setRow HB.out (by omega) _⟩

set_option maxRecDepth 100000 in
set_option maxHeartbeats 2000000 in
theorem rstep_same_yes (z : List Int) (w : World) (hl : z.length = 138) (hs : stB z = true) (hp : gz z 137 = 0) (P : Nat) (hP : gz z 136 = P) (hP1 : P < 128) (v : Int) (hv : gz z (8 + P) = v) (v0 : 0 ≤ v) (v1 : v < 4294967296) (hkn : knB (fop v) (fa v) (fb v) (fc v) = true) (A B C K : Nat) (ea : fa v = A) (eb : fb v = B) (ec : fc v = C) (ek : fk v = K) (k1 : K < 4096) (eo : fop v = 8) (ha : A < 8) (hb8 : B < 8) (hq : gz z A = gz z B) :
    Calls Tryd.prog 46 #[.agg (S z)] w fun e' w' => e' = .returned (.tuple #[.agg (S (nxt z 8 A B C K)), .int .i64 0]) ∧ Below w.heap.size w w' := by
  have zz := zero34
  have bb := build34
  have HI := hide (right_any z (W2 z w) hl)
  rw [hs] at HI
  have R0 := W2_row0 z w hl
  have D0 := W2_rowD0 z w
  have HN : Hid (Ending.returned (.tuple #[.agg (S (z.set 136 ((K : Int) % 128))), .int .i64 0]) = .returned (.tuple #[.agg (S (nxt z 8 A B C K)), .int .i64 0])) := by simp [Hid, nxt, hq]
  have hP' : (P : Int) < 128 := by omega
  have HKn := hide (fun w => known_any v w v0 v1)
  have HO := hide (fun w => op_any v w v0 v1)
  have HA := hide (fun w => a_any v w v0 v1)
  have HBb := hide (fun w => b_any v w v0 v1)
  have HK := hide (fun w => k_any v w v0 v1)
  have HCc := hide (fun w => c_any v w v0 v1)
  rw [hkn] at HKn
  rw [eo] at HO
  rw [ea] at HA
  rw [eb] at HBb
  rw [ec] at HCc
  rw [ek] at HK
  clear eo ea eb ec ek hkn
  have ha' : (A : Int) < 8 := by omega
  have hb' : (B : Int) < 8 := by omega
  have hq' : (gz z A == gz z B) = true := by simpa using hq
  clear hq
  go_enter Tryd.func46, Tryd.ntmps46
  go_wp2_with (refine wpList_load_S rfl _ rfl _ rfl R0 _ D0 ?_)
  refine (unhide HI).mono ?_
  rintro e w1 ⟨rfl, hb⟩
  rw [W2_size] at hb
  have R1 : isRowB w1 (w.heap.size + 1) 138 = true := by rw [isRowB_below hb (by omega)]; exact W2_row1 z w
  have HB : Hid (Below w.heap.size w w1) := (W2_below z w).trans (hb.mono (by omega))
  have hc1 : ∀ i, i < 138 → w1.cell? ⟨w.heap.size, i, none⟩ = some (.int .i64 (gz z i)) := fun i hi => by rw [below_cell hb _ _ (by omega)]; exact W2_cell z w hl i hi
  have q0 : isRowB w1 w.heap.size 138 = true := by rw [isRowB_below hb (by omega)]; exact R0
  have d0 : rowD w1 w.heap.size = S z := by rw [rowD_below hb (by omega)]; exact D0
  have hz1 : w.heap.size + 1 < w1.heap.size := by have := hb.size; rw [W2_size] at this; omega
  have fz1 : ∀ i, w1.frozen? ⟨w.heap.size, i, none⟩ = false := fun i => by rw [below_frozen hb _ _ (by omega)]; exact W2_frozen z w i
  have c137 := hc1 137 (by omega)
  have c136 := hc1 136 (by omega)
  have cw : w1.cell? ⟨w.heap.size, 8 + P, none⟩ = some (.int .i64 v) := by rw [← hv]; exact hc1 (8 + P) (by omega)
  have c_a := hc1 (A) (by omega)
  have c_b := hc1 (B) (by omega)
  have HC := hide hc1
  clear hb R0 D0 hc1
  go_wp2_with fail
  refine (unhide HKn _).mono ?_
  rintro e w' ⟨rfl, hw⟩
  obtain rfl := hw.symm
  go_wp2_with fail
  refine (unhide HO _).mono ?_
  rintro e w' ⟨rfl, hw⟩
  obtain rfl := hw.symm
  go_wp2_with fail
  refine (unhide HA _).mono ?_
  rintro e w' ⟨rfl, hw⟩
  obtain rfl := hw.symm
  go_wp2_with fail
  refine (unhide HBb _).mono ?_
  rintro e w' ⟨rfl, hw⟩
  obtain rfl := hw.symm
  go_wp2_with fail
  refine (unhide HK _).mono ?_
  rintro e w' ⟨rfl, hw⟩
  obtain rfl := hw.symm
  have HB : Hid (Below w.heap.size w (w1.setCell ⟨w.heap.size, 136, none⟩ (.int .i64 ((K : Int) % 128))).drew) := (HB.out.setCell (Nat.le_refl _) _).drew
  have R2 : isRowB (w1.setCell ⟨w.heap.size, 136, none⟩ (.int .i64 ((K : Int) % 128))).drew (w.heap.size + 1) 138 = true := isRowB_setCell_other R1 _ _ (by omega) _
  have q2 : isRowB (w1.setCell ⟨w.heap.size, 136, none⟩ (.int .i64 ((K : Int) % 128))).drew w.heap.size 138 = true := isRowB_setCell q0 _ _
  have d2 : rowD (w1.setCell ⟨w.heap.size, 136, none⟩ (.int .i64 ((K : Int) % 128))).drew w.heap.size = S (z.set 136 ((K : Int) % 128)) := by rw [rowD_drew]; rw [rowD_setCell q0, d0, S_set]
  obtain ⟨t, hg⟩ := heap_setRow_S R2 (S (z.set 136 ((K : Int) % 128)))
  have HG := hide hg
  clear hg
  go_wp2_with fail
  refine still_all (by kernel_rfl) (by kernel_rfl) ?_
  repeat still_step
  refine wpStill_nil ?_
  go_wp2_with (first | (refine wpList_load_S rfl _ rfl _ rfl q2 _ d2 ?_) | (refine wpList_store_S rfl _ _ rfl _ rfl _ rfl (by simp [hl]) R2 _ rfl ?_))
  exact bodyPost_ret (v := .tuple #[.agg (S (z.set 136 ((K : Int) % 128))), .int .i64 0]) (res_S Tryd.results46 _ _ _ t (z.set 136 ((K : Int) % 128)) (by simp [hl]) rfl HG.out 0 rfl) rfl ⟨HN.out, below_setRow HB.out (by omega) _⟩

set_option maxRecDepth 100000 in
set_option maxHeartbeats 2000000 in
theorem rstep_same_no (z : List Int) (w : World) (hl : z.length = 138) (hs : stB z = true) (hp : gz z 137 = 0) (P : Nat) (hP : gz z 136 = P) (hP1 : P < 128) (v : Int) (hv : gz z (8 + P) = v) (v0 : 0 ≤ v) (v1 : v < 4294967296) (hkn : knB (fop v) (fa v) (fb v) (fc v) = true) (A B C K : Nat) (ea : fa v = A) (eb : fb v = B) (ec : fc v = C) (ek : fk v = K) (k1 : K < 4096) (eo : fop v = 8) (ha : A < 8) (hb8 : B < 8) (hq : ¬ gz z A = gz z B) :
    Calls Tryd.prog 46 #[.agg (S z)] w fun e' w' => e' = .returned (.tuple #[.agg (S (nxt z 8 A B C K)), .int .i64 0]) ∧ Below w.heap.size w w' := by
  have zz := zero34
  have bb := build34
  have HI := hide (right_any z (W2 z w) hl)
  rw [hs] at HI
  have R0 := W2_row0 z w hl
  have D0 := W2_rowD0 z w
  have HN : Hid (Ending.returned (.tuple #[.agg (S (z.set 136 (((P : Int) + 1) % 128))), .int .i64 0]) = .returned (.tuple #[.agg (S (nxt z 8 A B C K)), .int .i64 0])) := by simp [Hid, nxt, hq, hP]
  have hP' : (P : Int) < 128 := by omega
  have HKn := hide (fun w => known_any v w v0 v1)
  have HO := hide (fun w => op_any v w v0 v1)
  have HA := hide (fun w => a_any v w v0 v1)
  have HBb := hide (fun w => b_any v w v0 v1)
  have HK := hide (fun w => k_any v w v0 v1)
  have HCc := hide (fun w => c_any v w v0 v1)
  rw [hkn] at HKn
  rw [eo] at HO
  rw [ea] at HA
  rw [eb] at HBb
  rw [ec] at HCc
  rw [ek] at HK
  clear eo ea eb ec ek hkn
  have ha' : (A : Int) < 8 := by omega
  have hb' : (B : Int) < 8 := by omega
  have hq' : (gz z A == gz z B) = false := by simpa using hq
  clear hq
  go_enter Tryd.func46, Tryd.ntmps46
  go_wp2_with (refine wpList_load_S rfl _ rfl _ rfl R0 _ D0 ?_)
  refine (unhide HI).mono ?_
  rintro e w1 ⟨rfl, hb⟩
  rw [W2_size] at hb
  have R1 : isRowB w1 (w.heap.size + 1) 138 = true := by rw [isRowB_below hb (by omega)]; exact W2_row1 z w
  have HB : Hid (Below w.heap.size w w1) := (W2_below z w).trans (hb.mono (by omega))
  have hc1 : ∀ i, i < 138 → w1.cell? ⟨w.heap.size, i, none⟩ = some (.int .i64 (gz z i)) := fun i hi => by rw [below_cell hb _ _ (by omega)]; exact W2_cell z w hl i hi
  have q0 : isRowB w1 w.heap.size 138 = true := by rw [isRowB_below hb (by omega)]; exact R0
  have d0 : rowD w1 w.heap.size = S z := by rw [rowD_below hb (by omega)]; exact D0
  have hz1 : w.heap.size + 1 < w1.heap.size := by have := hb.size; rw [W2_size] at this; omega
  have fz1 : ∀ i, w1.frozen? ⟨w.heap.size, i, none⟩ = false := fun i => by rw [below_frozen hb _ _ (by omega)]; exact W2_frozen z w i
  have c137 := hc1 137 (by omega)
  have c136 := hc1 136 (by omega)
  have cw : w1.cell? ⟨w.heap.size, 8 + P, none⟩ = some (.int .i64 v) := by rw [← hv]; exact hc1 (8 + P) (by omega)
  have c_a := hc1 (A) (by omega)
  have c_b := hc1 (B) (by omega)
  have HC := hide hc1
  clear hb R0 D0 hc1
  go_wp2_with fail
  refine (unhide HKn _).mono ?_
  rintro e w' ⟨rfl, hw⟩
  obtain rfl := hw.symm
  go_wp2_with fail
  refine (unhide HO _).mono ?_
  rintro e w' ⟨rfl, hw⟩
  obtain rfl := hw.symm
  go_wp2_with fail
  refine (unhide HA _).mono ?_
  rintro e w' ⟨rfl, hw⟩
  obtain rfl := hw.symm
  go_wp2_with fail
  refine (unhide HBb _).mono ?_
  rintro e w' ⟨rfl, hw⟩
  obtain rfl := hw.symm
  go_wp2_with fail
  refine (unhide HK _).mono ?_
  rintro e w' ⟨rfl, hw⟩
  obtain rfl := hw.symm
  have HB : Hid (Below w.heap.size w (w1.setCell ⟨w.heap.size, 136, none⟩ (.int .i64 (((P : Int) + 1) % 128))).drew) := (HB.out.setCell (Nat.le_refl _) _).drew
  have R2 : isRowB (w1.setCell ⟨w.heap.size, 136, none⟩ (.int .i64 (((P : Int) + 1) % 128))).drew (w.heap.size + 1) 138 = true := isRowB_setCell_other R1 _ _ (by omega) _
  have q2 : isRowB (w1.setCell ⟨w.heap.size, 136, none⟩ (.int .i64 (((P : Int) + 1) % 128))).drew w.heap.size 138 = true := isRowB_setCell q0 _ _
  have d2 : rowD (w1.setCell ⟨w.heap.size, 136, none⟩ (.int .i64 (((P : Int) + 1) % 128))).drew w.heap.size = S (z.set 136 (((P : Int) + 1) % 128)) := by rw [rowD_drew]; rw [rowD_setCell q0, d0, S_set]
  obtain ⟨t, hg⟩ := heap_setRow_S R2 (S (z.set 136 (((P : Int) + 1) % 128)))
  have HG := hide hg
  clear hg
  go_wp2_with fail
  refine still_all (by kernel_rfl) (by kernel_rfl) ?_
  repeat still_step
  refine wpStill_nil ?_
  go_wp2_with (first | (refine wpList_load_S rfl _ rfl _ rfl q2 _ d2 ?_) | (refine wpList_store_S rfl _ _ rfl _ rfl _ rfl (by simp [hl]) R2 _ rfl ?_))
  exact bodyPost_ret (v := .tuple #[.agg (S (z.set 136 (((P : Int) + 1) % 128))), .int .i64 0]) (res_S Tryd.results46 _ _ _ t (z.set 136 (((P : Int) + 1) % 128)) (by simp [hl]) rfl HG.out 0 rfl) rfl ⟨HN.out, below_setRow HB.out (by omega) _⟩

set_option maxRecDepth 100000 in
set_option maxHeartbeats 2000000 in
theorem rstep_work (z : List Int) (w : World) (hl : z.length = 138) (hs : stB z = true) (hp : gz z 137 = 0) (P : Nat) (hP : gz z 136 = P) (hP1 : P < 128) (v : Int) (hv : gz z (8 + P) = v) (v0 : 0 ≤ v) (v1 : v < 4294967296) (hkn : knB (fop v) (fa v) (fb v) (fc v) = true) (A B C K : Nat) (ea : fa v = A) (eb : fb v = B) (ec : fc v = C) (ek : fk v = K) (k1 : K < 4096) (op : Int) (o2 : 2 ≤ op) (o5 : op ≤ 5) (eo : fop v = op) (ha : A < 8) (hb8 : B < 8) (hc8 : C < 8) (r0 : 0 ≤ gz z B) (r1 : gz z B < 4294967296) (s0 : 0 ≤ gz z C) (s1 : gz z C < 4294967296) (r : Int) (hrr : wk op (gz z B) (gz z C) = r) :
    Calls Tryd.prog 46 #[.agg (S z)] w fun e' w' => e' = .returned (.tuple #[.agg (S (nxt z op A B C K)), .int .i64 0]) ∧ Below w.heap.size w w' := by
  have zz := zero34
  have bb := build34
  have HI := hide (right_any z (W2 z w) hl)
  rw [hs] at HI
  have R0 := W2_row0 z w hl
  have D0 := W2_rowD0 z w
  have HN : Hid (Ending.returned (.tuple #[.agg (S ((z.set (A) (r)).set 136 (((P : Int) + 1) % 128))), .int .i64 0]) = .returned (.tuple #[.agg (S (nxt z op A B C K)), .int .i64 0])) := by simp [Hid, nxt, hP, hrr, show ¬ op = 0 by omega, show ¬ op = 1 by omega, o2, o5]
  have hP' : (P : Int) < 128 := by omega
  have HKn := hide (fun w => known_any v w v0 v1)
  have HO := hide (fun w => op_any v w v0 v1)
  have HA := hide (fun w => a_any v w v0 v1)
  have HBb := hide (fun w => b_any v w v0 v1)
  have HK := hide (fun w => k_any v w v0 v1)
  have HCc := hide (fun w => c_any v w v0 v1)
  rw [hkn] at HKn
  rw [eo] at HO
  rw [ea] at HA
  rw [eb] at HBb
  rw [ec] at HCc
  rw [ek] at HK
  clear eo ea eb ec ek hkn
  have ha' : (A : Int) < 8 := by omega
  have hb' : (B : Int) < 8 := by omega
  have hc' : (C : Int) < 8 := by omega
  have HW := hide (fun w' => works_any op (gz z B) (gz z C) w' r0 r1 s0 s1 o2 o5)
  rw [hrr] at HW
  clear hrr
  have o_0 : (op == 0) = false := by simp; omega
  have o_1 : (op == 1) = false := by simp; omega
  have o_6 : (op == 6) = false := by simp; omega
  have o_7 : (op == 7) = false := by simp; omega
  have o_8 : (op == 8) = false := by simp; omega
  have o_9 : (op == 9) = false := by simp; omega
  have o_10 : (op == 10) = false := by simp; omega
  go_enter Tryd.func46, Tryd.ntmps46
  go_wp2_with (refine wpList_load_S rfl _ rfl _ rfl R0 _ D0 ?_)
  refine (unhide HI).mono ?_
  rintro e w1 ⟨rfl, hb⟩
  rw [W2_size] at hb
  have R1 : isRowB w1 (w.heap.size + 1) 138 = true := by rw [isRowB_below hb (by omega)]; exact W2_row1 z w
  have HB : Hid (Below w.heap.size w w1) := (W2_below z w).trans (hb.mono (by omega))
  have hc1 : ∀ i, i < 138 → w1.cell? ⟨w.heap.size, i, none⟩ = some (.int .i64 (gz z i)) := fun i hi => by rw [below_cell hb _ _ (by omega)]; exact W2_cell z w hl i hi
  have q0 : isRowB w1 w.heap.size 138 = true := by rw [isRowB_below hb (by omega)]; exact R0
  have d0 : rowD w1 w.heap.size = S z := by rw [rowD_below hb (by omega)]; exact D0
  have hz1 : w.heap.size + 1 < w1.heap.size := by have := hb.size; rw [W2_size] at this; omega
  have fz1 : ∀ i, w1.frozen? ⟨w.heap.size, i, none⟩ = false := fun i => by rw [below_frozen hb _ _ (by omega)]; exact W2_frozen z w i
  have c137 := hc1 137 (by omega)
  have c136 := hc1 136 (by omega)
  have cw : w1.cell? ⟨w.heap.size, 8 + P, none⟩ = some (.int .i64 v) := by rw [← hv]; exact hc1 (8 + P) (by omega)
  have c_a := hc1 (A) (by omega)
  have c_b := hc1 (B) (by omega)
  have c_c := hc1 (C) (by omega)
  have HC := hide hc1
  clear hb R0 D0 hc1
  go_wp2_with fail
  refine (unhide HKn _).mono ?_
  rintro e w' ⟨rfl, hw⟩
  obtain rfl := hw.symm
  go_wp2_with fail
  refine (unhide HO _).mono ?_
  rintro e w' ⟨rfl, hw⟩
  obtain rfl := hw.symm
  go_wp2_with fail
  refine (unhide HA _).mono ?_
  rintro e w' ⟨rfl, hw⟩
  obtain rfl := hw.symm
  go_wp2_with fail
  refine (unhide HBb _).mono ?_
  rintro e w' ⟨rfl, hw⟩
  obtain rfl := hw.symm
  go_wp2_with fail
  refine (unhide HK _).mono ?_
  rintro e w' ⟨rfl, hw⟩
  obtain rfl := hw.symm
  have r2 : isRowB (w1.setCell ⟨w.heap.size, A, none⟩ (.int .i64 (r))) (w.heap.size + 1) 138 = true := isRowB_setCell_other R1 _ _ (by omega) _
  have p2 : isRowB (w1.setCell ⟨w.heap.size, A, none⟩ (.int .i64 (r))) w.heap.size 138 = true := isRowB_setCell q0 _ _
  have e2 : rowD (w1.setCell ⟨w.heap.size, A, none⟩ (.int .i64 (r))) w.heap.size = S (z.set (A) (r)) := by rw [rowD_setCell q0, d0, S_set]
  have c2 : (w1.setCell ⟨w.heap.size, A, none⟩ (.int .i64 (r))).cell? ⟨w.heap.size, 136, none⟩ = some (.int .i64 (gz (z.set (A) (r)) 136)) := by rw [cell_set q0, d0, S_set, S_get _ _ (by simp [hl])]
  have HX : Hid (Below w.heap.size w (w1.setCell ⟨w.heap.size, A, none⟩ (.int .i64 (r)))) := HB.out.setCell (Nat.le_refl _) _
  have HB : Hid (Below w.heap.size w ((w1.setCell ⟨w.heap.size, A, none⟩ (.int .i64 (r))).setCell ⟨w.heap.size, 136, none⟩ (.int .i64 (((P : Int) + 1) % 128))).drew) := (HX.out.setCell (Nat.le_refl _) _).drew
  have R2 : isRowB ((w1.setCell ⟨w.heap.size, A, none⟩ (.int .i64 (r))).setCell ⟨w.heap.size, 136, none⟩ (.int .i64 (((P : Int) + 1) % 128))).drew (w.heap.size + 1) 138 = true := isRowB_setCell_other r2 _ _ (by omega) _
  have q2 : isRowB ((w1.setCell ⟨w.heap.size, A, none⟩ (.int .i64 (r))).setCell ⟨w.heap.size, 136, none⟩ (.int .i64 (((P : Int) + 1) % 128))).drew w.heap.size 138 = true := isRowB_setCell p2 _ _
  have d2 : rowD ((w1.setCell ⟨w.heap.size, A, none⟩ (.int .i64 (r))).setCell ⟨w.heap.size, 136, none⟩ (.int .i64 (((P : Int) + 1) % 128))).drew w.heap.size = S ((z.set (A) (r)).set 136 (((P : Int) + 1) % 128)) := by rw [rowD_drew]; rw [rowD_setCell p2, e2, S_set]
  obtain ⟨t, hg⟩ := heap_setRow_S R2 (S ((z.set (A) (r)).set 136 (((P : Int) + 1) % 128)))
  have HG := hide hg
  clear hg
  go_wp2_with fail
  refine (unhide HCc _).mono ?_
  rintro e w' ⟨rfl, hw⟩
  obtain rfl := hw.symm
  go_wp2_with fail
  refine still_tail 13 (by kernel_rfl) (by kernel_rfl) ?_
  simp only [List.take_succ_cons, List.take_zero, List.drop_succ_cons, List.drop_zero]
  repeat still_step
  still_call (unhide HW _)
  repeat still_step
  refine wpStill_nil ?_
  go_wp2_with (first | (refine wpList_load_S rfl _ rfl _ rfl q2 _ d2 ?_) | (refine wpList_store_S rfl _ _ rfl _ rfl _ rfl (by simp [hl]) R2 _ rfl ?_))
  exact bodyPost_ret (v := .tuple #[.agg (S ((z.set (A) (r)).set 136 (((P : Int) + 1) % 128))), .int .i64 0]) (res_S Tryd.results46 _ _ _ t ((z.set (A) (r)).set 136 (((P : Int) + 1) % 128)) (by simp [hl]) rfl HG.out 0 rfl) rfl ⟨HN.out, below_setRow HB.out (by omega) _⟩

end Go.Proofs.YtmmflekajbeamaaDoor

namespace Go.Proofs.YtmmflekajbeamaaDoor
open Go.RowKit

/-! ### equality of a state with itself -/
theorem eqItems_refl {P : Program} (d : Nat) {e : TypeId} (he : P.underlying e = some (.int .i64)) (xs : Array Value) (w : World) : ∀ (is : List Nat), (∀ i ∈ is, ∃ n, xs[i * 1]? = some (.int .i64 n)) →
    (Op.eqItems (d + 1) e 1 xs xs is).run P w = .ok true w
  | [], _ => by simp [Op.eqItems]
  | i :: is, h => by
    obtain ⟨n, hn⟩ := h i (by simp)
    have px : (part e xs (i * 1)).run P w = .ok (.int .i64 n) w := by
      rw [Nat.mul_one] at hn ⊢
      simp [part, isAgg, run_underlying he, hn]
    have pe : (Op.equalIn (d + 1) e (.int .i64 n) (.int .i64 n)).run P w = .ok true w := by
      rw [run_equalIn_int w d e .i64 .i64 n n he]; simp
    simp only [Op.eqItems, Sem.run_bind, px, pe, Result.andThen_ok]
    simpa using eqItems_refl d he xs w is (fun j hj => h j (by simp [hj]))

theorem cells3 : Tryd.prog.cellsOf 3 = 1 := by kernel_rfl
theorem info3 : ∃ i, Tryd.prog.info? 3 = some i := by
  cases h : Tryd.prog.info? 3 with
  | none => exact absurd (show (Tryd.prog.info? 3).isSome = true by kernel_rfl) (by rw [h]; decide)
  | some i => exact ⟨i, rfl⟩

theorem eqArr (d : Nat) {t : TypeId} {n : Nat} (hu : Tryd.prog.underlying t = some (.array n 3)) (xs : Array Value) (hx : ∀ i, i < n → ∃ m, xs[i]? = some (.int .i64 m)) (w : World) :
    (Op.equalIn (d + 2) t (.agg xs) (.agg xs)).run Tryd.prog w = .ok true w := by
  obtain ⟨i, hi⟩ := info3
  rw [run_equalIn_array w (d + 1) xs xs hu hi, cells3]
  refine eqItems_refl d Tryd.underlying3 xs w _ (fun j hj => ?_)
  rw [Nat.mul_one]
  exact hx j (by simpa using hj)

theorem eqS (r : List Int) (hl : r.length = 138) (w : World) : (binOp .eql 34 (.agg (S r)) (.agg (S r))).run Tryd.prog w = .ok (.bool true) w := by
  have g := fun i hi => S_get r i (show i < r.length from hi)
  have hs : Tryd.prog.underlying 34 = some (.struct (Tryd.prog.fieldsOf 34)) := by kernel_rfl
  have hp : Tryd.prog.stoodInHeld 34 = false := by kernel_rfl
  rw [run_eql_struct, run_equalIn_struct w 9999 34 (S r) (S r) hs hp]
  have a31 : (isAgg 31).run Tryd.prog w = .ok true w := by kernel_rfl
  have a32 : (isAgg 32).run Tryd.prog w = .ok true w := by kernel_rfl
  have a3 : (isAgg 3).run Tryd.prog w = .ok false w := by kernel_rfl
  have p0 : (part 31 (S r) 0).run Tryd.prog w = .ok (.agg ((S r).extract 0 8)) w := by simp [part, a31]
  have p1 : (part 32 (S r) 8).run Tryd.prog w = .ok (.agg ((S r).extract 8 136)) w := by simp [part, a32]
  have p2 : (part 3 (S r) 136).run Tryd.prog w = .ok (.int .i64 (gz r 136)) w := by simp [part, a3, g 136 (by omega)]
  have p3 : (part 3 (S r) 137).run Tryd.prog w = .ok (.int .i64 (gz r 137)) w := by simp [part, a3, g 137 (by omega)]
  have e0 : (Op.equalIn 9999 31 (.agg ((S r).extract 0 8)) (.agg ((S r).extract 0 8))).run Tryd.prog w = .ok true w := eqArr 9997 Tryd.underlying31 _ (fun i hi => ⟨gz r i, by
    rw [Array.getElem?_extract, if_pos (by simp [S_size, hl]; omega), Nat.zero_add]; exact g i (by omega)⟩) w
  have e1 : (Op.equalIn 9999 32 (.agg ((S r).extract 8 136)) (.agg ((S r).extract 8 136))).run Tryd.prog w = .ok true w := eqArr 9997 Tryd.underlying32 _ (fun i hi => ⟨gz r (8 + i), by
    rw [Array.getElem?_extract, if_pos (by simp [S_size, hl]; omega)]; exact g (8 + i) (by omega)⟩) w
  have e2 : (Op.equalIn 9999 3 (.int .i64 (gz r 136)) (.int .i64 (gz r 136))).run Tryd.prog w = .ok true w := by rw [run_equalIn_int w 9998 3 .i64 .i64 _ _ Tryd.underlying3]; simp
  have e3 : (Op.equalIn 9999 3 (.int .i64 (gz r 137)) (.int .i64 (gz r 137))).run Tryd.prog w = .ok true w := by rw [run_equalIn_int w 9998 3 .i64 .i64 _ _ Tryd.underlying3]; simp
  simp [Program.fieldsOf, Tryd.underlying34, Op.eqFields, Sem.run_bind, p0, p1, p2, p3, e0, e1, e2, e3, Result.andThen]

/-! ### the two steps -/
theorem wordZ_eq {z : List Int} {P : Nat} (hP : gz z 136 = P) : wordZ z = gz z (8 + P) := by unfold wordZ; rw [hP, Int.toNat_natCast]
theorem stp_bad {z : List Int} (hs : stB z = false) : stp z = (zeroZ, 8) := by simp [stp, hs]
theorem stp_stop {z : List Int} (hs : stB z = true) (hp : gz z 137 ≠ 0) : stp z = (zeroZ, 9) := by simp [stp, hs, hp]
theorem stp_trap {z : List Int} (hs : stB z = true) (hp : gz z 137 = 0) (hk : knZ z = false) : stp z = (z.set 137 2, 0) := by simp [stp, hs, hp, hk]
theorem stp_go {z : List Int} (hs : stB z = true) (hp : gz z 137 = 0) (hk : knZ z = true) :
    stp z = (nxt z (fop (wordZ z)) (fa (wordZ z)) (fb (wordZ z)) (fc (wordZ z)) (fk (wordZ z)), 0) := by simp [stp, hs, hp, hk]
theorem stp_len (z : List Int) (hl : z.length = 138) : (stp z).1.length = 138 := by
  unfold stp
  repeat' split
  all_goals first | (simp [zeroZ]; done) | (simp [hl]; done) | exact nxt_len _ _ _ _ _ _ hl

theorem mstep_any (z : List Int) (w : World) (hl : z.length = 138) (ht : Tab w) :
    Calls Tryd.prog 76 #[.agg (S z)] w fun e' w' => e' = .returned (.tuple #[.agg (S (stp z).1), .int .i64 (stp z).2]) ∧ Below w.heap.size w w' := by
  cases hs : stB z
  · rw [stp_bad hs]; exact mstep_bad z w hl hs
  · by_cases hp : gz z 137 = 0
    · obtain ⟨p0, p1, _, _⟩ := stB_pc hs
      obtain ⟨P, hP⟩ := Int.eq_ofNat_of_zero_le p0
      have hv := stB_reg hs (8 + P) (by omega)
      cases hk : knZ z
      · rw [stp_trap hs hp hk]
        refine mstep_trap z w hl hs hp P hP (by omega) (gz z (8 + P)) rfl hv.1 hv.2 ?_ ht
        rw [← wordZ_eq hP]; exact hk
      · rw [stp_go hs hp hk, wordZ_eq hP]
        refine mstep_go z w hl hs hp P hP (by omega) (gz z (8 + P)) rfl hv.1 hv.2 ?_ ht
        rw [← wordZ_eq hP]; exact hk
    · rw [stp_stop hs hp]; exact mstep_stop z w hl hs hp

theorem rstep_any (z : List Int) (w : World) (hl : z.length = 138) :
    Calls Tryd.prog 46 #[.agg (S z)] w fun e' w' => e' = .returned (.tuple #[.agg (S (stp z).1), .int .i64 (stp z).2]) ∧ Below w.heap.size w w' := by
  cases hs : stB z
  · rw [stp_bad hs]; exact rstep_bad z w hl hs
  · by_cases hp : gz z 137 = 0
    · obtain ⟨p0, p1, _, _⟩ := stB_pc hs
      obtain ⟨P, hP⟩ := Int.eq_ofNat_of_zero_le p0
      have hv := stB_reg hs (8 + P) (by omega)
      cases hk : knZ z
      · rw [stp_trap hs hp hk]
        refine rstep_trap z w hl hs hp P hP (by omega) (gz z (8 + P)) rfl hv.1 hv.2 ?_
        rw [← wordZ_eq hP]; exact hk
      · rw [stp_go hs hp hk, wordZ_eq hP]
        have hkn : knB (fop (gz z (8 + P))) (fa (gz z (8 + P))) (fb (gz z (8 + P))) (fc (gz z (8 + P))) = true := by rw [← wordZ_eq hP]; exact hk
        clear hk
        have hr := fun i hi => stB_reg hs i hi
        generalize hv' : gz z (8 + P) = v at *
        obtain ⟨A, ea⟩ := Int.eq_ofNat_of_zero_le (fa_bd v).1
        obtain ⟨B, eb⟩ := Int.eq_ofNat_of_zero_le (fb_bd v).1
        obtain ⟨C, ec⟩ := Int.eq_ofNat_of_zero_le (fc_bd v).1
        obtain ⟨K, ek⟩ := Int.eq_ofNat_of_zero_le (fk_bd v).1
        have k1 : K < 4096 := by have := (fk_bd v).2; omega
        have hop := kn_op hkn (fop_bd v).1
        have hop0 := (fop_bd v).1
        have q : ∀ op, fop v = op → knB op A B C = true := fun op h => by rw [← h, ← ea, ← eb, ← ec]; exact hkn
        rw [ea, eb, ec, ek]
        have hm0 : ∀ x : Int, 0 ≤ x % 128 ∧ x % 128 < 128 := fun x => by omega
        obtain ⟨m, hm⟩ := Int.eq_ofNat_of_zero_le (hm0 (gz z B + (K : Int))).1
        have hm1 : m < 128 := by have := (hm0 (gz z B + (K : Int))).2; omega
        have h : fop v = 0 ∨ fop v = 1 ∨ (2 ≤ fop v ∧ fop v ≤ 5) ∨ fop v = 6 ∨ fop v = 7 ∨ fop v = 8 ∨ fop v = 9 ∨ fop v = 10 := by omega
        rcases h with h | h | ⟨h2, h5⟩ | h | h | h | h | h
        · rw [h]; exact rstep_halt z w hl hs hp P hP (by omega) v hv' hv.1 hv.2 hkn A B C K ea eb ec ek k1 h
        · have ha := kn_a (q _ h) (by decide) (by decide)
          rw [h]; exact rstep_set z w hl hs hp P hP (by omega) v hv' hv.1 hv.2 hkn A B C K ea eb ec ek k1 h (by omega)
        · have ha := kn_a (q _ rfl) (by omega) (by omega); have hb := kn_b (q _ rfl) h2 (by omega); have hc := kn_c (q _ rfl) h2 h5
          exact rstep_work z w hl hs hp P hP (by omega) v hv' hv.1 hv.2 hkn A B C K ea eb ec ek k1 (fop v) h2 h5 rfl (by omega) (by omega) (by omega) (hr B (by omega)).1 (hr B (by omega)).2 (hr C (by omega)).1 (hr C (by omega)).2 _ rfl
        · have ha := kn_a (q _ h) (by decide) (by decide); have hb := kn_b (q _ h) (by decide) (by decide)
          rw [h]; exact rstep_load z w hl hs hp P hP (by omega) v hv' hv.1 hv.2 hkn A B C K ea eb ec ek k1 h (by omega) (by omega) m hm hm1 (hr B (by omega)).1 (hr B (by omega)).2
        · have ha := kn_a (q _ h) (by decide) (by decide); have hb := kn_b (q _ h) (by decide) (by decide)
          rw [h]; exact rstep_store z w hl hs hp P hP (by omega) v hv' hv.1 hv.2 hkn A B C K ea eb ec ek k1 h (by omega) (by omega) m hm hm1 (hr B (by omega)).1 (hr B (by omega)).2
        · have ha := kn_a (q _ h) (by decide) (by decide); have hb := kn_b (q _ h) (by decide) (by decide)
          rw [h]
          by_cases hq : gz z A = gz z B
          · exact rstep_same_yes z w hl hs hp P hP (by omega) v hv' hv.1 hv.2 hkn A B C K ea eb ec ek k1 h (by omega) (by omega) hq
          · exact rstep_same_no z w hl hs hp P hP (by omega) v hv' hv.1 hv.2 hkn A B C K ea eb ec ek k1 h (by omega) (by omega) hq
        · rw [h]; exact rstep_jump z w hl hs hp P hP (by omega) v hv' hv.1 hv.2 hkn A B C K ea eb ec ek k1 h
        · have ha := kn_a (q _ h) (by decide) (by decide)
          rw [h]; exact rstep_turn z w hl hs hp P hP (by omega) v hv' hv.1 hv.2 hkn A B C K ea eb ec ek k1 h (by omega) (hr A (by omega)).1 (hr A (by omega)).2
    · rw [stp_stop hs hp]; exact rstep_stop z w hl hs hp

set_option maxRecDepth 100000 in
set_option maxHeartbeats 1000000 in
/-- crib.Step hands machine.Step's answer on. -/
theorem cstep_any (z r : List Int) (e : Int) (w : World) (hl : z.length = 138) (hr : r.length = 138)
    (h : ∀ w', Below w.heap.size w w' → Calls Tryd.prog 76 #[.agg (S z)] w' fun e' w'' => e' = .returned (.tuple #[.agg (S r), .int .i64 e]) ∧ Below w'.heap.size w' w'') :
    Calls Tryd.prog 45 #[.agg (S z)] w fun e' w' => e' = .returned (.tuple #[.agg (S r), .int .i64 e]) ∧ Below w.heap.size w w' := by
  have zz := zero34
  have HI := hide (h (W2 z w) (W2_below z w))
  clear h
  have R0 := W2_row0 z w hl
  have D0 := W2_rowD0 z w
  go_enter Tryd.func45, Tryd.ntmps45
  go_wp2_with (refine wpList_load_S rfl _ rfl _ rfl R0 _ D0 ?_)
  refine (unhide HI).mono ?_
  rintro e w1 ⟨rfl, hb⟩
  rw [W2_size] at hb
  have R1 : isRowB w1 (w.heap.size + 1) 138 = true := by rw [isRowB_below hb (by omega)]; exact W2_row1 z w
  have HB : Hid (Below w.heap.size w w1) := (W2_below z w).trans (hb.mono (by omega))
  obtain ⟨t, hg⟩ := heap_setRow_S R1 (S r)
  have HG := hide hg
  clear hb hg R0 D0
  go_wp2_with (refine wpList_store_S rfl _ _ rfl _ rfl _ rfl hr R1 _ rfl ?_)
  exact bodyPost_ret (v := .tuple #[.agg (S r), .int .i64 e]) (res_S Tryd.results45 _ _ _ t r hr rfl HG.out e rfl) rfl ⟨rfl, below_setRow HB.out (by omega) _⟩

set_option maxRecDepth 100000 in
set_option maxHeartbeats 1000000 in
theorem steps_any (z r : List Int) (e : Int) (w : World) (hl : z.length = 138) (hr : r.length = 138)
    (h1 : ∀ w', Below w.heap.size w w' → Calls Tryd.prog 45 #[.agg (S z)] w' fun e' w'' => e' = .returned (.tuple #[.agg (S r), .int .i64 e]) ∧ Below w'.heap.size w' w'')
    (h2 : ∀ w', Below w.heap.size w w' → Calls Tryd.prog 46 #[.agg (S z)] w' fun e' w'' => e' = .returned (.tuple #[.agg (S r), .int .i64 e]) ∧ Below w'.heap.size w' w'') :
    Calls Tryd.prog 14 #[.agg (S z)] w fun e' w' => e' = .returned (.bool true) ∧ Below w.heap.size w w' := by
  have zz := zero34
  have eqs := eqS r hr
  have hnum := num_any e
  have HNum := hide hnum
  clear hnum
  have H1 := hide (h1 (w.alloc (.cells (S z) 34)) (below_alloc _))
  have H2 := hide h2
  clear h1 h2
  have R0 : isRowB (w.alloc (.cells (S z) 34)) w.heap.size 138 = true := by rw [isRowB_alloc_at _ _ _ _ _ rfl]; simp [S_size, hl]
  have D0 : rowD (w.alloc (.cells (S z) 34)) w.heap.size = S z := rowD_alloc_at _ _ _ _ rfl
  go_enter Tryd.func14, Tryd.ntmps14
  go_wp2_with (refine wpList_load_S rfl _ rfl _ rfl R0 _ D0 ?_)
  refine (unhide H1).mono ?_
  rintro e1 w1 ⟨rfl, hb⟩
  rw [size_alloc1] at hb
  have HB1 : Hid (Below w.heap.size w (w1.alloc (.cells (S r) 34))) := ((below_alloc _).trans (hb.mono (by omega))).alloc (by have := hb.size; simp at this; omega) _
  have hz : w.heap.size < w1.heap.size := by have := hb.size; simp at this; omega
  have R1 : isRowB (w1.alloc (.cells (S zeroZ) 34)) w1.heap.size 138 = true := by rw [isRowB_alloc_at _ _ _ _ _ rfl]; simp [S_size, zeroZ]
  have q1 : isRowB (w1.alloc (.cells (S r) 34)) w.heap.size 138 = true := by rw [isRowB_alloc_past _ _ _ _ hz, isRowB_below hb (by omega)]; exact R0
  have d1 : rowD (w1.alloc (.cells (S r) 34)) w.heap.size = S z := by rw [rowD_alloc_past _ _ _ hz, rowD_below hb (by omega)]; exact D0
  clear hb R0 D0
  go_wp2_with (first | (refine wpList_store_S rfl _ _ rfl _ rfl _ rfl hr R1 _ (setRow_alloc_at _ _ _ _ _ rfl) ?_) | (refine wpList_load_S rfl _ rfl _ rfl q1 _ d1 ?_))
  refine (unhide H2 _ HB1.out).mono ?_
  rintro e2 w2 ⟨rfl, hb⟩
  rw [size_alloc1] at hb
  have hz2 : w1.heap.size < w2.heap.size := by have := hb.size; simp at this; omega
  have HB2 : Hid (Below w.heap.size w (w2.alloc (.cells (S r) 34))) := (HB1.out.trans (hb.mono (by omega))).alloc (by omega) _
  have R2 : isRowB (w2.alloc (.cells (S zeroZ) 34)) w2.heap.size 138 = true := by rw [isRowB_alloc_at _ _ _ _ _ rfl]; simp [S_size, zeroZ]
  have q2 : isRowB (w2.alloc (.cells (S r) 34)) w1.heap.size 138 = true := by rw [isRowB_alloc_past _ _ _ _ hz2, isRowB_below hb (by omega), isRowB_alloc_at _ _ _ _ _ rfl]; simp [S_size, hr]
  have d2 : rowD (w2.alloc (.cells (S r) 34)) w1.heap.size = S r := by rw [rowD_alloc_past _ _ _ hz2, rowD_below hb (by omega)]; exact rowD_alloc_at _ _ _ _ rfl
  have q3 : isRowB (w2.alloc (.cells (S r) 34)) w2.heap.size 138 = true := by rw [isRowB_alloc_at _ _ _ _ _ rfl]; simp [S_size, hr]
  have d3 : rowD (w2.alloc (.cells (S r) 34)) w2.heap.size = S r := rowD_alloc_at _ _ _ _ rfl
  clear hb q1 d1 R1
  go_wp2_with (first | (refine wpList_store_S rfl _ _ rfl _ rfl _ rfl hr R2 _ (setRow_alloc_at _ _ _ _ _ rfl) ?_) | (refine wpList_load_S rfl _ rfl _ rfl q2 _ d2 ?_) | (refine wpList_load_S rfl _ rfl _ rfl q3 _ d3 ?_))
  refine (unhide HNum _).mono ?_
  rintro e3 w3 ⟨rfl, hw⟩
  obtain rfl := hw.symm
  go_wp2
  go_ret
  exact ⟨ret_bool (by simp), HB2.out⟩

set_option maxRecDepth 100000 in
set_option maxHeartbeats 1000000 in
/-- The law: true, whatever the 138 numbers are. -/
theorem Steps_walk (z : List Int) (w : World) (hl : z.length = 138) (ht : Tab w) :
    Calls Tryd.prog 4 #[.agg (S z)] w fun e' w' => e' = .returned (.bool true) ∧ Below w.heap.size w w' := by
  have R0 : isRowB (w.alloc (.cells (S z) 34)) w.heap.size 138 = true := by rw [isRowB_alloc_at _ _ _ _ _ rfl]; simp [S_size, hl]
  have D0 : rowD (w.alloc (.cells (S z) 34)) w.heap.size = S z := rowD_alloc_at _ _ _ _ rfl
  have tb : ∀ w', Below w.heap.size w w' → Tab w' := fun w' hb => ht.below ht.pos hb
  have H := hide (steps_any z (stp z).1 (stp z).2 (w.alloc (.cells (S z) 34)) hl (stp_len z hl)
    (fun w' hb => cstep_any z _ _ w' hl (stp_len z hl) (fun w'' hb2 => mstep_any z w'' hl ((tb w' ((below_alloc _).trans (hb.mono (by simp)))).below (tb w' ((below_alloc _).trans (hb.mono (by simp)))).pos hb2)))
    (fun w' _ => rstep_any z w' hl))
  clear tb ht
  go_enter Tryd.func4, Tryd.ntmps4
  go_wp2_with (refine wpList_load_S rfl _ rfl _ rfl R0 _ D0 ?_)
  refine (unhide H).mono ?_
  rintro e w1 ⟨rfl, hb⟩
  go_wp2
  go_ret
  exact ⟨rfl, (below_alloc _).trans (hb.mono (by simp))⟩
end Go.Proofs.YtmmflekajbeamaaDoor
