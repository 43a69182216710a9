/-
  Sound: a state made right (fit).
  The document's own step (package cribref): what it makes of a state that is none, of one that has stopped, of one whose word is no instruction, and of each instruction.
-/
import Derived.Test.YtmmflekajbeamaaDoorR24
import Derived.Test.YtmmflekajbeamaaDoorR25
import Derived.Test.YtmmflekajbeamaaDoorR04
namespace Go.Proofs.YtmmflekajbeamaaDoor
open Go.RowKit

theorem isRowB_heap {w w' : World} {n k : Nat} (h : w'.heap[n]? = w.heap[n]?) : isRowB w' n k = isRowB w n k := by unfold isRowB; rw [h]
def pk (v : Int) : Int := pickI v 4294967296
/-- A state whose first k numbers are made words. -/
def fit1 (z : List Int) (k : Nat) : List Int := (z.take k).map pk ++ z.drop k
theorem fit1_zero (z : List Int) : fit1 z 0 = z := by simp [fit1]
theorem fit1_len (z : List Int) (k : Nat) : (fit1 z k).length = z.length := by simp [fit1]; omega
theorem fit1_get {z : List Int} {k : Nat} (hk : k ≤ z.length) {i : Nat} (h : k ≤ i) : gz (fit1 z k) i = gz z i := by
  unfold gz fit1
  have hl : ((z.take k).map pk).length = k := by simp; omega
  rw [List.getD_eq_getElem?_getD, List.getD_eq_getElem?_getD, List.getElem?_append_right (by omega), hl, List.getElem?_drop, show k + (i - k) = i by omega]
theorem fit1_set {z : List Int} {k : Nat} (h : k < z.length) : (fit1 z k).set k (pk (gz z k)) = fit1 z (k + 1) := by
  have hl : ((z.take k).map pk).length = k := by simp; omega
  have hg : gz z k = z[k] := by unfold gz; rw [List.getD_eq_getElem?_getD, List.getElem?_eq_getElem h]; rfl
  unfold fit1
  rw [List.drop_eq_getElem_cons h, List.set_append_right _ _ (by omega), hl, Nat.sub_self, List.set_cons_zero, hg, ← List.take_append_getElem h, List.map_append]
  simp
theorem pk_bd (v : Int) : 0 ≤ pk v ∧ pk v < 4294967296 := pickI_bd v 4294967296 (by decide)
def fitZ (z : List Int) : List Int := ((fit1 z 136).set 136 (pickI (gz z 136) 128)).set 137 0
theorem fitZ_form {z : List Int} (hz : z.length = 138) : ∃ (regs mem : List Int) (pc : Nat), fitZ z = mkZ regs mem pc 0 ∧ WL 8 regs ∧ WL 128 mem ∧ pc < 128 := by
  have hp := pickI_bd (gz z 136) 128 (by decide)
  obtain ⟨pc, hpc⟩ := Int.eq_ofNat_of_zero_le hp.1
  have hw : ∀ l : List Int, ∀ x ∈ l.map pk, 0 ≤ x ∧ x < 4294967296 := fun l x hx => by
    obtain ⟨y, _, rfl⟩ := List.mem_map.1 hx
    exact pk_bd y
  have h8 : ((z.take 8).map pk).length = 8 := by simp [hz]
  have h128 : (((z.drop 8).take 128).map pk).length = 128 := by simp [hz]
  refine ⟨(z.take 8).map pk, ((z.drop 8).take 128).map pk, pc, ?_, ⟨h8, hw _⟩, ⟨h128, hw _⟩, by omega⟩
  have e1 : fit1 z 136 = mkZ ((z.take 8).map pk) (((z.drop 8).take 128).map pk) (gz z 136) (gz z 137) := by
    unfold fit1 mkZ
    have d : z.drop 136 = [gz z 136, gz z 137] := by
      have a : 136 < z.length := by omega
      have b : 137 < z.length := by omega
      rw [List.drop_eq_getElem_cons a, List.drop_eq_getElem_cons b, List.drop_of_length_le (by omega)]
      unfold gz
      rw [List.getD_eq_getElem?_getD, List.getD_eq_getElem?_getD, List.getElem?_eq_getElem a, List.getElem?_eq_getElem b]
      rfl
    rw [d, ← List.append_assoc, ← List.map_append]
    congr 2
    rw [show (136 : Nat) = 8 + 128 from rfl, List.take_add]
  unfold fitZ
  rw [e1, mkZ_set_pc h8 h128, mkZ_set_st h8 h128, hpc]

set_option maxRecDepth 100000 in
set_option maxHeartbeats 4000000 in
theorem fit_any (z : List Int) (w : World) (hz : z.length = 138) (hb : ∀ x ∈ z, -9223372036854775808 ≤ x ∧ x ≤ 9223372036854775807) :
    Calls Tryd.prog 24 #[.agg (S z)] w fun e' w' => e' = .returned (.agg (S (fitZ z))) ∧ Below w.heap.size w w' := by
  have zz := zero34
  have hgb : ∀ i, i < 138 → -9223372036854775808 ≤ gz z i ∧ gz z i ≤ 9223372036854775807 := fun i hi => hb _ (by
    unfold gz; rw [List.getD_eq_getElem?_getD, List.getElem?_eq_getElem (by omega)]; exact List.getElem_mem _)
  have HG := hide hgb
  have HPk : Hid (∀ i w', i < 138 → Calls Tryd.prog 15 #[.int .i64 (gz z i), .int .i64 4294967296] w' fun e' w'' => e' = .returned (.int .i64 (pk (gz z i))) ∧ w'' = w') := fun i w' hi => pick_any (gz z i) 4294967296 w' (hgb i hi).1 (hgb i hi).2 (by decide) (by decide)
  have HPp := hide (fun w' => pick_any (gz z 136) 128 w' (hgb 136 (by decide)).1 (hgb 136 (by decide)).2 (by decide) (by decide))
  have HR0 : Hid (RowI (W2 z w) w.heap.size 34 z ∧ isRowB (W2 z w) (w.heap.size + 1) 138 = true ∧ Below w.heap.size w (W2 z w)) := by
    refine ⟨?_, W2_row1 z w, W2_below z w⟩
    unfold RowI W2
    rw [Below.heap_alloc _ _ _ (by rw [size_alloc1]; omega), _root_.Go.heap_alloc_new]
  have HSt := hide (fun k (h : k < 138) => fit1_set (z := z) (k := k) (by omega))
  have HGt := hide (fun k i (h : k ≤ 138) (hi : k ≤ i) => fit1_get (z := z) (k := k) (by omega) hi)
  have HLn := hide (fun k => (fit1_len z k).trans hz)
  clear hgb hb
  go_enter Tryd.func24, Tryd.ntmps24
  go_wp2_with fail
  go_loopw [3] (fun i wr => ∃ k : Nat, k ≤ 8 ∧ i = .int .i64 k ∧ Hid (RowI wr w.heap.size 34 (fit1 z k) ∧ isRowB wr (w.heap.size + 1) 138 = true ∧ Below w.heap.size w wr)) (fun i _ => 8 - (intOf i).toNat)
  case atStart => exact ⟨0, Nat.zero_le _, rfl, by rw [fit1_zero]; exact HR0.out⟩
  case round =>
    obtain ⟨k, hk, rfl, HR⟩ := hrel
    by_cases hlt : k < 8
    · have hlt' : (k : Int) < 8 := by omega
      have ck := HR.out.1.cell k (by rw [HLn.out]; omega)
      rw [HGt.out k k (by omega) (Nat.le_refl _)] at ck
      have fk := HR.out.1.frozen k
      have HP := hide (fun w' => HPk.out k w' (by omega))
      have HN : Hid (RowI (wr.setCell ⟨w.heap.size, k, none⟩ (.int .i64 (pk (gz z k)))) w.heap.size 34 (fit1 z (k + 1)) ∧ isRowB (wr.setCell ⟨w.heap.size, k, none⟩ (.int .i64 (pk (gz z k)))) (w.heap.size + 1) 138 = true ∧ Below w.heap.size w (wr.setCell ⟨w.heap.size, k, none⟩ (.int .i64 (pk (gz z k))))) := by
        refine ⟨?_, ?_, HR.out.2.2.setCell (p := ⟨w.heap.size, k, none⟩) (Nat.le_refl _) _⟩
        · have := HR.out.1.set k (pk (gz z k))
          rw [HSt.out k (by omega)] at this
          exact this
        · rw [isRowB_heap (heap_set_other _ _ (by omega))]
          exact HR.out.2.1
      generalize pk (gz z k) = v at *
      generalize gz z k = x at *
      go_wp2_with fail
      refine (unhide HP _).mono ?_
      rintro e w' ⟨rfl, hw⟩
      obtain rfl := hw.symm
      go_wp2_with fail
      exact ⟨⟨k + 1, by omega, by go_num, HN.out⟩, by simp [intOf]; omega⟩
    · have hlt' : ¬ (k : Int) < 8 := by omega
      have hke : k = 8 := by omega
      subst hke
      obtain ⟨wo, hwo⟩ : ∃ wo, wo = wr := ⟨_, rfl⟩
      subst hwo
      go_wp2_with fail
      go_loopw [4] (fun i wr => ∃ k : Nat, k ≤ 128 ∧ i = .int .i64 k ∧ Hid (RowI wr w.heap.size 34 (fit1 z (8 + k)) ∧ isRowB wr (w.heap.size + 1) 138 = true ∧ Below w.heap.size w wr)) (fun i _ => 128 - (intOf i).toNat)
      case atStart => exact ⟨0, Nat.zero_le _, rfl, HR.out⟩
      case round =>
        obtain ⟨k, hk, rfl, HR2⟩ := hrel
        by_cases hlt : k < 128
        · have hlt' : (k : Int) < 128 := by omega
          have ck := HR2.out.1.cell (8 + k) (by rw [HLn.out]; omega)
          rw [HGt.out (8 + k) (8 + k) (by omega) (Nat.le_refl _)] at ck
          have fk := HR2.out.1.frozen (8 + k)
          have HP := hide (fun w' => HPk.out (8 + k) w' (by omega))
          have HN : Hid (RowI (wr.setCell ⟨w.heap.size, 8 + k, none⟩ (.int .i64 (pk (gz z (8 + k))))) w.heap.size 34 (fit1 z (8 + (k + 1))) ∧ isRowB (wr.setCell ⟨w.heap.size, 8 + k, none⟩ (.int .i64 (pk (gz z (8 + k))))) (w.heap.size + 1) 138 = true ∧ Below w.heap.size w (wr.setCell ⟨w.heap.size, 8 + k, none⟩ (.int .i64 (pk (gz z (8 + k)))))) := by
            refine ⟨?_, ?_, HR2.out.2.2.setCell (p := ⟨w.heap.size, 8 + k, none⟩) (Nat.le_refl _) _⟩
            · have := HR2.out.1.set (8 + k) (pk (gz z (8 + k)))
              rw [HSt.out (8 + k) (by omega)] at this
              exact this
            · rw [isRowB_heap (heap_set_other _ _ (by omega))]
              exact HR2.out.2.1
          generalize pk (gz z (8 + k)) = v at *
          generalize gz z (8 + k) = x at *
          go_wp2_with fail
          refine (unhide HP _).mono ?_
          rintro e w' ⟨rfl, hw⟩
          obtain rfl := hw.symm
          go_wp2_with fail
          exact ⟨⟨k + 1, by omega, by go_num, HN.out⟩, by simp [intOf]; omega⟩
        · have hlt' : ¬ (k : Int) < 128 := by omega
          have hke : k = 128 := by omega
          subst hke
          have ck := HR2.out.1.cell 136 (by rw [HLn.out]; omega)
          rw [HGt.out (8 + 128) 136 (by omega) (by omega)] at ck
          have fk := HR2.out.1.frozen 136
          have cs := HR2.out.1.cell 137 (by rw [HLn.out]; omega)
          have fs := HR2.out.1.frozen 137
          obtain ⟨WF, hWF⟩ : ∃ WF, WF = (wr.setCell ⟨w.heap.size, 136, none⟩ (.int .i64 (pickI (gz z 136) 128))).setCell ⟨w.heap.size, 137, none⟩ (.int .i64 0) := ⟨_, rfl⟩
          have HWF := hide hWF
          have rF : RowI WF w.heap.size 34 (fitZ z) := by
            rw [hWF]
            exact (HR2.out.1.set 136 _).set 137 _
          have bF : Below w.heap.size w WF := by
            rw [hWF]
            exact (HR2.out.2.2.setCell (p := ⟨w.heap.size, 136, none⟩) (Nat.le_refl _) _).setCell (p := ⟨w.heap.size, 137, none⟩) (Nat.le_refl _) _
          have iF : isRowB WF (w.heap.size + 1) 138 = true := by
            rw [hWF, isRowB_heap (heap_set_other _ _ (by omega)), isRowB_heap (heap_set_other _ _ (by omega))]
            exact HR2.out.2.1
          have hzl : (fitZ z).length = 138 := by unfold fitZ; rw [List.length_set, List.length_set, HLn.out]
          have rI := rF.isRow 138 hzl
          have rD := rF.rowD
          obtain ⟨t, hg⟩ := heap_setRow_S iF (S (fitZ z))
          have HGf := hide hg
          have HBf := hide (below_setRow bF (by omega : w.heap.size ≤ w.heap.size + 1) (S (fitZ z)))
          clear hWF rF bF hg
          generalize pickI (gz z 136) 128 = v at *
          generalize gz z 136 = x at *
          generalize gz (fit1 z (8 + 128)) 137 = y at *
          go_wp2_with fail
          refine (unhide HPp _).mono ?_
          rintro e w' ⟨rfl, hw⟩
          obtain rfl := hw.symm
          go_wp2_with (first | (refine wpList_load_S rfl _ rfl w.heap.size rfl (by rw [← HWF.out]; exact rI) (S (fitZ z)) (by rw [← HWF.out]; exact rD) ?_) | (refine wpList_store_S rfl _ _ rfl (w.heap.size + 1) rfl (fitZ z) rfl hzl (by rw [← HWF.out]; exact iF) (WF.setRow (w.heap.size + 1) (S (fitZ z))) (by rw [← HWF.out]) ?_))
          exact bodyPost_ret (v := .agg (S (fitZ z))) (results_cell_row Tryd.results24 _ _ (w.heap.size + 1) t _ _ _ rfl HGf.out Tryd.underlying34 rfl (by rw [size34, S_size, hzl])) rfl ⟨rfl, HBf.out⟩
end Go.Proofs.YtmmflekajbeamaaDoor

namespace Go.Proofs.YtmmflekajbeamaaDoor
open Go.RowKit
set_option linter.unusedVariables false

theorem below_cell {B : Nat} {W w1 : World} (hb : Below B W w1) (n i : Nat) (hn : n < B) : w1.cell? ⟨n, i, none⟩ = W.cell? ⟨n, i, none⟩ := hb.cell (p := ⟨n, i, none⟩) hn
theorem below_frozen {B : Nat} {W w1 : World} (hb : Below B W w1) (n i : Nat) (hn : n < B) : w1.frozen? ⟨n, i, none⟩ = W.frozen? ⟨n, i, none⟩ := hb.frozen (p := ⟨n, i, none⟩) hn
theorem frozen_setCell (w : World) (a b : Addr) (v : Value) : (w.setCell a v).frozen? b = w.frozen? b := by simp
/-- A cell of a row behind a store into that row. -/
theorem cell_set {w : World} {n k : Nat} (h : isRowB w n k = true) (i j : Nat) (v : Value) : (w.setCell ⟨n, i, none⟩ v).cell? ⟨n, j, none⟩ = ((rowD w n).setIfInBounds i v)[j]? := by
  obtain ⟨t, hg, _⟩ := row_of h
  exact cell_of_row _ n j _ t (0, 0) (heap_setCell_same w n i _ t v hg)

set_option maxRecDepth 100000 in
set_option maxHeartbeats 2000000 in
theorem rstep_bad (z : List Int) (w : World) (hl : z.length = 138) (hs : stB z = false) :
    Calls Tryd.prog 46 #[.agg (S z)] w fun e' w' => e' = .returned (.tuple #[.agg (S (zeroZ)), .int .i64 8]) ∧ Below w.heap.size w w' := by
  have zz := zero34
  have bb := build34
  have HI := hide (right_any z (W2 z w) hl)
  rw [hs] at HI
  have R0 := W2_row0 z w hl
  have D0 := W2_rowD0 z w
  go_enter Tryd.func46, Tryd.ntmps46
  go_wp2_with (refine wpList_load_S rfl _ rfl _ rfl R0 _ D0 ?_)
  refine (unhide HI).mono ?_
  rintro e w1 ⟨rfl, hb⟩
  rw [W2_size] at hb
  have R1 : isRowB w1 (w.heap.size + 1) 138 = true := by rw [isRowB_below hb (by omega)]; exact W2_row1 z w
  have HB : Hid (Below w.heap.size w w1) := (W2_below z w).trans (hb.mono (by omega))
  obtain ⟨t, hg⟩ := heap_setRow_S R1 (S zeroZ)
  have HG := hide hg
  clear hb hg R0 D0
  go_wp2_with (refine wpList_store_S rfl _ _ rfl _ rfl _ rfl (by simp [zeroZ]) R1 _ rfl ?_)
  exact bodyPost_ret (v := .tuple #[.agg (S (zeroZ)), .int .i64 8]) (res_S Tryd.results46 _ _ _ t (zeroZ) (by simp [zeroZ]) rfl HG.out 8 rfl) rfl ⟨rfl, below_setRow HB.out (by omega) _⟩

set_option maxRecDepth 100000 in
set_option maxHeartbeats 2000000 in
theorem rstep_stop (z : List Int) (w : World) (hl : z.length = 138) (hs : stB z = true) (hp : gz z 137 ≠ 0) :
    Calls Tryd.prog 46 #[.agg (S z)] w fun e' w' => e' = .returned (.tuple #[.agg (S (zeroZ)), .int .i64 9]) ∧ Below w.heap.size w w' := by
  have zz := zero34
  have bb := build34
  have HI := hide (right_any z (W2 z w) hl)
  rw [hs] at HI
  have R0 := W2_row0 z w hl
  have D0 := W2_rowD0 z w
  have hp' : (gz z 137 != 0) = true := by simpa using hp
  go_enter Tryd.func46, Tryd.ntmps46
  go_wp2_with (refine wpList_load_S rfl _ rfl _ rfl R0 _ D0 ?_)
  refine (unhide HI).mono ?_
  rintro e w1 ⟨rfl, hb⟩
  rw [W2_size] at hb
  have R1 : isRowB w1 (w.heap.size + 1) 138 = true := by rw [isRowB_below hb (by omega)]; exact W2_row1 z w
  have HB : Hid (Below w.heap.size w w1) := (W2_below z w).trans (hb.mono (by omega))
  have c137 : w1.cell? ⟨w.heap.size, 137, none⟩ = some (.int .i64 (gz z 137)) := by rw [below_cell hb _ _ (by omega)]; exact W2_cell z w hl 137 (by omega)
  obtain ⟨t, hg⟩ := heap_setRow_S R1 (S zeroZ)
  have HG := hide hg
  clear hb hg R0 D0 hp
  go_wp2_with (refine wpList_store_S rfl _ _ rfl _ rfl _ rfl (by simp [zeroZ]) R1 _ rfl ?_)
  exact bodyPost_ret (v := .tuple #[.agg (S (zeroZ)), .int .i64 9]) (res_S Tryd.results46 _ _ _ t (zeroZ) (by simp [zeroZ]) rfl HG.out 9 rfl) rfl ⟨rfl, below_setRow HB.out (by omega) _⟩

set_option maxRecDepth 100000 in
set_option maxHeartbeats 2000000 in
theorem rstep_trap (z : List Int) (w : World) (hl : z.length = 138) (hs : stB z = true) (hp : gz z 137 = 0) (P : Nat) (hP : gz z 136 = P) (hP1 : P < 128) (v : Int) (hv : gz z (8 + P) = v) (v0 : 0 ≤ v) (v1 : v < 4294967296) (hkn : knB (fop v) (fa v) (fb v) (fc v) = false) :
    Calls Tryd.prog 46 #[.agg (S z)] w fun e' w' => e' = .returned (.tuple #[.agg (S (z.set 137 2)), .int .i64 0]) ∧ Below w.heap.size w w' := by
  have zz := zero34
  have bb := build34
  have HI := hide (right_any z (W2 z w) hl)
  rw [hs] at HI
  have R0 := W2_row0 z w hl
  have D0 := W2_rowD0 z w
  have hP' : (P : Int) < 128 := by omega
  have HKn := hide (fun w => known_any v w v0 v1)
  rw [hkn] at HKn
  go_enter Tryd.func46, Tryd.ntmps46
  go_wp2_with (refine wpList_load_S rfl _ rfl _ rfl R0 _ D0 ?_)
  refine (unhide HI).mono ?_
  rintro e w1 ⟨rfl, hb⟩
  rw [W2_size] at hb
  have R1 : isRowB w1 (w.heap.size + 1) 138 = true := by rw [isRowB_below hb (by omega)]; exact W2_row1 z w
  have HB : Hid (Below w.heap.size w w1) := (W2_below z w).trans (hb.mono (by omega))
  have hc1 : ∀ i, i < 138 → w1.cell? ⟨w.heap.size, i, none⟩ = some (.int .i64 (gz z i)) := fun i hi => by rw [below_cell hb _ _ (by omega)]; exact W2_cell z w hl i hi
  have q0 : isRowB w1 w.heap.size 138 = true := by rw [isRowB_below hb (by omega)]; exact R0
  have d0 : rowD w1 w.heap.size = S z := by rw [rowD_below hb (by omega)]; exact D0
  have hz1 : w.heap.size + 1 < w1.heap.size := by have := hb.size; rw [W2_size] at this; omega
  have fz1 : ∀ i, w1.frozen? ⟨w.heap.size, i, none⟩ = false := fun i => by rw [below_frozen hb _ _ (by omega)]; exact W2_frozen z w i
  have c137 := hc1 137 (by omega)
  have c136 := hc1 136 (by omega)
  have cw : w1.cell? ⟨w.heap.size, 8 + P, none⟩ = some (.int .i64 v) := by rw [← hv]; exact hc1 (8 + P) (by omega)
  have HC := hide hc1
  clear hb R0 D0 hc1
  go_wp2_with fail
  refine (unhide HKn _).mono ?_
  rintro e w' ⟨rfl, hw⟩
  obtain rfl := hw.symm
  have HB : Hid (Below w.heap.size w (w1.setCell ⟨w.heap.size, 137, none⟩ (.int .i64 2))) := HB.out.setCell (Nat.le_refl _) _
  have R2 : isRowB (w1.setCell ⟨w.heap.size, 137, none⟩ (.int .i64 2)) (w.heap.size + 1) 138 = true := isRowB_setCell_other R1 _ _ (by omega) _
  have q2 : isRowB (w1.setCell ⟨w.heap.size, 137, none⟩ (.int .i64 2)) w.heap.size 138 = true := isRowB_setCell q0 _ _
  have d2 : rowD (w1.setCell ⟨w.heap.size, 137, none⟩ (.int .i64 2)) w.heap.size = S (z.set 137 2) := by rw [rowD_setCell q0, d0, S_set]
  obtain ⟨t, hg⟩ := heap_setRow_S R2 (S (z.set 137 2))
  have HG := hide hg
  clear hg
  go_wp2_with (first | (refine wpList_load_S rfl _ rfl _ rfl q2 _ d2 ?_) | (refine wpList_store_S rfl _ _ rfl _ rfl _ rfl (by simp [hl]) R2 _ rfl ?_))
  exact bodyPost_ret (v := .tuple #[.agg (S (z.set 137 2)), .int .i64 0]) (res_S Tryd.results46 _ _ _ t (z.set 137 2) (by simp [hl]) rfl HG.out 0 rfl) rfl ⟨rfl, below_setRow HB.out (by omega) _⟩

set_option maxRecDepth 100000 in
set_option maxHeartbeats 2000000 in
theorem rstep_halt (z : List Int) (w : World) (hl : z.length = 138) (hs : stB z = true) (hp : gz z 137 = 0) (P : Nat) (hP : gz z 136 = P) (hP1 : P < 128) (v : Int) (hv : gz z (8 + P) = v) (v0 : 0 ≤ v) (v1 : v < 4294967296) (hkn : knB (fop v) (fa v) (fb v) (fc v) = true) (A B C K : Nat) (ea : fa v = A) (eb : fb v = B) (ec : fc v = C) (ek : fk v = K) (k1 : K < 4096) (eo : fop v = 0)  :
    Calls Tryd.prog 46 #[.agg (S z)] w fun e' w' => e' = .returned (.tuple #[.agg (S (nxt z 0 A B C K)), .int .i64 0]) ∧ Below w.heap.size w w' := by
  have zz := zero34
  have bb := build34
  have HI := hide (right_any z (W2 z w) hl)
  rw [hs] at HI
  have R0 := W2_row0 z w hl
  have D0 := W2_rowD0 z w
  have HN : Hid (Ending.returned (.tuple #[.agg (S (z.set 137 1)), .int .i64 0]) = .returned (.tuple #[.agg (S (nxt z 0 A B C K)), .int .i64 0])) := by simp [Hid, nxt]
  have hP' : (P : Int) < 128 := by omega
  have HKn := hide (fun w => known_any v w v0 v1)
  have HO := hide (fun w => op_any v w v0 v1)
  have HA := hide (fun w => a_any v w v0 v1)
  have HBb := hide (fun w => b_any v w v0 v1)
  have HK := hide (fun w => k_any v w v0 v1)
  have HCc := hide (fun w => c_any v w v0 v1)
  rw [hkn] at HKn
  rw [eo] at HO
  rw [ea] at HA
  rw [eb] at HBb
  rw [ec] at HCc
  rw [ek] at HK
  clear eo ea eb ec ek hkn
  go_enter Tryd.func46, Tryd.ntmps46
  go_wp2_with (refine wpList_load_S rfl _ rfl _ rfl R0 _ D0 ?_)
  refine (unhide HI).mono ?_
  rintro e w1 ⟨rfl, hb⟩
  rw [W2_size] at hb
  have R1 : isRowB w1 (w.heap.size + 1) 138 = true := by rw [isRowB_below hb (by omega)]; exact W2_row1 z w
  have HB : Hid (Below w.heap.size w w1) := (W2_below z w).trans (hb.mono (by omega))
  have hc1 : ∀ i, i < 138 → w1.cell? ⟨w.heap.size, i, none⟩ = some (.int .i64 (gz z i)) := fun i hi => by rw [below_cell hb _ _ (by omega)]; exact W2_cell z w hl i hi
  have q0 : isRowB w1 w.heap.size 138 = true := by rw [isRowB_below hb (by omega)]; exact R0
  have d0 : rowD w1 w.heap.size = S z := by rw [rowD_below hb (by omega)]; exact D0
  have hz1 : w.heap.size + 1 < w1.heap.size := by have := hb.size; rw [W2_size] at this; omega
  have fz1 : ∀ i, w1.frozen? ⟨w.heap.size, i, none⟩ = false := fun i => by rw [below_frozen hb _ _ (by omega)]; exact W2_frozen z w i
  have c137 := hc1 137 (by omega)
  have c136 := hc1 136 (by omega)
  have cw : w1.cell? ⟨w.heap.size, 8 + P, none⟩ = some (.int .i64 v) := by rw [← hv]; exact hc1 (8 + P) (by omega)
  have HC := hide hc1
  clear hb R0 D0 hc1
  go_wp2_with fail
  refine (unhide HKn _).mono ?_
  rintro e w' ⟨rfl, hw⟩
  obtain rfl := hw.symm
  go_wp2_with fail
  refine (unhide HO _).mono ?_
  rintro e w' ⟨rfl, hw⟩
  obtain rfl := hw.symm
  go_wp2_with fail
  refine (unhide HA _).mono ?_
  rintro e w' ⟨rfl, hw⟩
  obtain rfl := hw.symm
  go_wp2_with fail
  refine (unhide HBb _).mono ?_
  rintro e w' ⟨rfl, hw⟩
  obtain rfl := hw.symm
  go_wp2_with fail
  refine (unhide HK _).mono ?_
  rintro e w' ⟨rfl, hw⟩
  obtain rfl := hw.symm
  have HB : Hid (Below w.heap.size w (w1.setCell ⟨w.heap.size, 137, none⟩ (.int .i64 1))) := HB.out.setCell (Nat.le_refl _) _
  have R2 : isRowB (w1.setCell ⟨w.heap.size, 137, none⟩ (.int .i64 1)) (w.heap.size + 1) 138 = true := isRowB_setCell_other R1 _ _ (by omega) _
  have q2 : isRowB (w1.setCell ⟨w.heap.size, 137, none⟩ (.int .i64 1)) w.heap.size 138 = true := isRowB_setCell q0 _ _
  have d2 : rowD (w1.setCell ⟨w.heap.size, 137, none⟩ (.int .i64 1)) w.heap.size = S (z.set 137 1) := by rw [rowD_setCell q0, d0, S_set]
  obtain ⟨t, hg⟩ := heap_setRow_S R2 (S (z.set 137 1))
  have HG := hide hg
  clear hg
  go_wp2_with (first | (refine wpList_load_S rfl _ rfl _ rfl q2 _ d2 ?_) | (refine wpList_store_S rfl _ _ rfl _ rfl _ rfl (by simp [hl]) R2 _ rfl ?_))
  exact bodyPost_ret (v := .tuple #[.agg (S (z.set 137 1)), .int .i64 0]) (res_S Tryd.results46 _ _ _ t (z.set 137 1) (by simp [hl]) rfl HG.out 0 rfl) rfl ⟨HN.out, below_setRow HB.out (by omega) _⟩

set_option maxRecDepth 100000 in
set_option maxHeartbeats 2000000 in
theorem rstep_set (z : List Int) (w : World) (hl : z.length = 138) (hs : stB z = true) (hp : gz z 137 = 0) (P : Nat) (hP : gz z 136 = P) (hP1 : P < 128) (v : Int) (hv : gz z (8 + P) = v) (v0 : 0 ≤ v) (v1 : v < 4294967296) (hkn : knB (fop v) (fa v) (fb v) (fc v) = true) (A B C K : Nat) (ea : fa v = A) (eb : fb v = B) (ec : fc v = C) (ek : fk v = K) (k1 : K < 4096) (eo : fop v = 1) (ha : A < 8) :
    Calls Tryd.prog 46 #[.agg (S z)] w fun e' w' => e' = .returned (.tuple #[.agg (S (nxt z 1 A B C K)), .int .i64 0]) ∧ Below w.heap.size w w' := by
  have zz := zero34
  have bb := build34
  have HI := hide (right_any z (W2 z w) hl)
  rw [hs] at HI
  have R0 := W2_row0 z w hl
  have D0 := W2_rowD0 z w
  have HN : Hid (Ending.returned (.tuple #[.agg (S ((z.set (A) ((K : Int))).set 136 (((P : Int) + 1) % 128))), .int .i64 0]) = .returned (.tuple #[.agg (S (nxt z 1 A B C K)), .int .i64 0])) := by simp [Hid, nxt, hP]
  have hP' : (P : Int) < 128 := by omega
  have HKn := hide (fun w => known_any v w v0 v1)
  have HO := hide (fun w => op_any v w v0 v1)
  have HA := hide (fun w => a_any v w v0 v1)
  have HBb := hide (fun w => b_any v w v0 v1)
  have HK := hide (fun w => k_any v w v0 v1)
  have HCc := hide (fun w => c_any v w v0 v1)
  rw [hkn] at HKn
  rw [eo] at HO
  rw [ea] at HA
  rw [eb] at HBb
  rw [ec] at HCc
  rw [ek] at HK
  clear eo ea eb ec ek hkn
  have ha' : (A : Int) < 8 := by omega
  go_enter Tryd.func46, Tryd.ntmps46
  go_wp2_with (refine wpList_load_S rfl _ rfl _ rfl R0 _ D0 ?_)
  refine (unhide HI).mono ?_
  rintro e w1 ⟨rfl, hb⟩
  rw [W2_size] at hb
  have R1 : isRowB w1 (w.heap.size + 1) 138 = true := by rw [isRowB_below hb (by omega)]; exact W2_row1 z w
  have HB : Hid (Below w.heap.size w w1) := (W2_below z w).trans (hb.mono (by omega))
  have hc1 : ∀ i, i < 138 → w1.cell? ⟨w.heap.size, i, none⟩ = some (.int .i64 (gz z i)) := fun i hi => by rw [below_cell hb _ _ (by omega)]; exact W2_cell z w hl i hi
  have q0 : isRowB w1 w.heap.size 138 = true := by rw [isRowB_below hb (by omega)]; exact R0
  have d0 : rowD w1 w.heap.size = S z := by rw [rowD_below hb (by omega)]; exact D0
  have hz1 : w.heap.size + 1 < w1.heap.size := by have := hb.size; rw [W2_size] at this; omega
  have fz1 : ∀ i, w1.frozen? ⟨w.heap.size, i, none⟩ = false := fun i => by rw [below_frozen hb _ _ (by omega)]; exact W2_frozen z w i
  have c137 := hc1 137 (by omega)
  have c136 := hc1 136 (by omega)
  have cw : w1.cell? ⟨w.heap.size, 8 + P, none⟩ = some (.int .i64 v) := by rw [← hv]; exact hc1 (8 + P) (by omega)
  have c_a := hc1 (A) (by omega)
  have HC := hide hc1
  clear hb R0 D0 hc1
  go_wp2_with fail
  refine (unhide HKn _).mono ?_
  rintro e w' ⟨rfl, hw⟩
  obtain rfl := hw.symm
  go_wp2_with fail
  refine (unhide HO _).mono ?_
  rintro e w' ⟨rfl, hw⟩
  obtain rfl := hw.symm
  go_wp2_with fail
  refine (unhide HA _).mono ?_
  rintro e w' ⟨rfl, hw⟩
  obtain rfl := hw.symm
  go_wp2_with fail
  refine (unhide HBb _).mono ?_
  rintro e w' ⟨rfl, hw⟩
  obtain rfl := hw.symm
  go_wp2_with fail
  refine (unhide HK _).mono ?_
  rintro e w' ⟨rfl, hw⟩
  obtain rfl := hw.symm
  have r2 : isRowB (w1.setCell ⟨w.heap.size, A, none⟩ (.int .i64 ((K : Int)))) (w.heap.size + 1) 138 = true := isRowB_setCell_other R1 _ _ (by omega) _
  have p2 : isRowB (w1.setCell ⟨w.heap.size, A, none⟩ (.int .i64 ((K : Int)))) w.heap.size 138 = true := isRowB_setCell q0 _ _
  have e2 : rowD (w1.setCell ⟨w.heap.size, A, none⟩ (.int .i64 ((K : Int)))) w.heap.size = S (z.set (A) ((K : Int))) := by rw [rowD_setCell q0, d0, S_set]
  have c2 : (w1.setCell ⟨w.heap.size, A, none⟩ (.int .i64 ((K : Int)))).cell? ⟨w.heap.size, 136, none⟩ = some (.int .i64 (gz (z.set (A) ((K : Int))) 136)) := by rw [cell_set q0, d0, S_set, S_get _ _ (by simp [hl])]
  have HX : Hid (Below w.heap.size w (w1.setCell ⟨w.heap.size, A, none⟩ (.int .i64 ((K : Int))))) := HB.out.setCell (Nat.le_refl _) _
  have HB : Hid (Below w.heap.size w ((w1.setCell ⟨w.heap.size, A, none⟩ (.int .i64 ((K : Int)))).setCell ⟨w.heap.size, 136, none⟩ (.int .i64 (((P : Int) + 1) % 128)))) := (HX.out.setCell (Nat.le_refl _) _)
  have R2 : isRowB ((w1.setCell ⟨w.heap.size, A, none⟩ (.int .i64 ((K : Int)))).setCell ⟨w.heap.size, 136, none⟩ (.int .i64 (((P : Int) + 1) % 128))) (w.heap.size + 1) 138 = true := isRowB_setCell_other r2 _ _ (by omega) _
  have q2 : isRowB ((w1.setCell ⟨w.heap.size, A, none⟩ (.int .i64 ((K : Int)))).setCell ⟨w.heap.size, 136, none⟩ (.int .i64 (((P : Int) + 1) % 128))) w.heap.size 138 = true := isRowB_setCell p2 _ _
  have d2 : rowD ((w1.setCell ⟨w.heap.size, A, none⟩ (.int .i64 ((K : Int)))).setCell ⟨w.heap.size, 136, none⟩ (.int .i64 (((P : Int) + 1) % 128))) w.heap.size = S ((z.set (A) ((K : Int))).set 136 (((P : Int) + 1) % 128)) := by rw [rowD_setCell p2, e2, S_set]
  obtain ⟨t, hg⟩ := heap_setRow_S R2 (S ((z.set (A) ((K : Int))).set 136 (((P : Int) + 1) % 128)))
  have HG := hide hg
  clear hg
  go_wp2_with (first | (refine wpList_load_S rfl _ rfl _ rfl q2 _ d2 ?_) | (refine wpList_store_S rfl _ _ rfl _ rfl _ rfl (by simp [hl]) R2 _ rfl ?_))
  exact bodyPost_ret (v := .tuple #[.agg (S ((z.set (A) ((K : Int))).set 136 (((P : Int) + 1) % 128))), .int .i64 0]) (res_S Tryd.results46 _ _ _ t ((z.set (A) ((K : Int))).set 136 (((P : Int) + 1) % 128)) (by simp [hl]) rfl HG.out 0 rfl) rfl ⟨HN.out, below_setRow HB.out (by omega) _⟩

set_option maxRecDepth 100000 in
set_option maxHeartbeats 2000000 in
theorem rstep_load (z : List Int) (w : World) (hl : z.length = 138) (hs : stB z = true) (hp : gz z 137 = 0) (P : Nat) (hP : gz z 136 = P) (hP1 : P < 128) (v : Int) (hv : gz z (8 + P) = v) (v0 : 0 ≤ v) (v1 : v < 4294967296) (hkn : knB (fop v) (fa v) (fb v) (fc v) = true) (A B C K : Nat) (ea : fa v = A) (eb : fb v = B) (ec : fc v = C) (ek : fk v = K) (k1 : K < 4096) (eo : fop v = 6) (ha : A < 8) (hb8 : B < 8) (m : Nat) (hm : (gz z B + (K : Int)) % 128 = m) (hm1 : m < 128) (r0 : 0 ≤ gz z B) (r1 : gz z B < 4294967296) :
    Calls Tryd.prog 46 #[.agg (S z)] w fun e' w' => e' = .returned (.tuple #[.agg (S (nxt z 6 A B C K)), .int .i64 0]) ∧ Below w.heap.size w w' := by
  have zz := zero34
  have bb := build34
  have HI := hide (right_any z (W2 z w) hl)
  rw [hs] at HI
  have R0 := W2_row0 z w hl
  have D0 := W2_rowD0 z w
  have HN : Hid (Ending.returned (.tuple #[.agg (S ((z.set (A) (gz z (8 + m))).set 136 (((P : Int) + 1) % 128))), .int .i64 0]) = .returned (.tuple #[.agg (S (nxt z 6 A B C K)), .int .i64 0])) := by simp [Hid, nxt, hP, hm]
  have hP' : (P : Int) < 128 := by omega
  have HKn := hide (fun w => known_any v w v0 v1)
  have HO := hide (fun w => op_any v w v0 v1)
  have HA := hide (fun w => a_any v w v0 v1)
  have HBb := hide (fun w => b_any v w v0 v1)
  have HK := hide (fun w => k_any v w v0 v1)
  have HCc := hide (fun w => c_any v w v0 v1)
  rw [hkn] at HKn
  rw [eo] at HO
  rw [ea] at HA
  rw [eb] at HBb
  rw [ec] at HCc
  rw [ek] at HK
  clear eo ea eb ec ek hkn
  have ha' : (A : Int) < 8 := by omega
  have hb' : (B : Int) < 8 := by omega
  have hm' : (m : Int) < 128 := by omega
  go_enter Tryd.func46, Tryd.ntmps46
  go_wp2_with (refine wpList_load_S rfl _ rfl _ rfl R0 _ D0 ?_)
  refine (unhide HI).mono ?_
  rintro e w1 ⟨rfl, hb⟩
  rw [W2_size] at hb
  have R1 : isRowB w1 (w.heap.size + 1) 138 = true := by rw [isRowB_below hb (by omega)]; exact W2_row1 z w
  have HB : Hid (Below w.heap.size w w1) := (W2_below z w).trans (hb.mono (by omega))
  have hc1 : ∀ i, i < 138 → w1.cell? ⟨w.heap.size, i, none⟩ = some (.int .i64 (gz z i)) := fun i hi => by rw [below_cell hb _ _ (by omega)]; exact W2_cell z w hl i hi
  have q0 : isRowB w1 w.heap.size 138 = true := by rw [isRowB_below hb (by omega)]; exact R0
  have d0 : rowD w1 w.heap.size = S z := by rw [rowD_below hb (by omega)]; exact D0
  have hz1 : w.heap.size + 1 < w1.heap.size := by have := hb.size; rw [W2_size] at this; omega
  have fz1 : ∀ i, w1.frozen? ⟨w.heap.size, i, none⟩ = false := fun i => by rw [below_frozen hb _ _ (by omega)]; exact W2_frozen z w i
  have c137 := hc1 137 (by omega)
  have c136 := hc1 136 (by omega)
  have cw : w1.cell? ⟨w.heap.size, 8 + P, none⟩ = some (.int .i64 v) := by rw [← hv]; exact hc1 (8 + P) (by omega)
  have c_a := hc1 (A) (by omega)
  have c_b := hc1 (B) (by omega)
  have c_m := hc1 (8 + m) (by omega)
  have HC := hide hc1
  clear hb R0 D0 hc1
  go_wp2_with fail
  refine (unhide HKn _).mono ?_
  rintro e w' ⟨rfl, hw⟩
  obtain rfl := hw.symm
  go_wp2_with fail
  refine (unhide HO _).mono ?_
  rintro e w' ⟨rfl, hw⟩
  obtain rfl := hw.symm
  go_wp2_with fail
  refine (unhide HA _).mono ?_
  rintro e w' ⟨rfl, hw⟩
  obtain rfl := hw.symm
  go_wp2_with fail
  refine (unhide HBb _).mono ?_
  rintro e w' ⟨rfl, hw⟩
  obtain rfl := hw.symm
  go_wp2_with fail
  refine (unhide HK _).mono ?_
  rintro e w' ⟨rfl, hw⟩
  obtain rfl := hw.symm
  have r2 : isRowB (w1.setCell ⟨w.heap.size, A, none⟩ (.int .i64 (gz z (8 + m)))) (w.heap.size + 1) 138 = true := isRowB_setCell_other R1 _ _ (by omega) _
  have p2 : isRowB (w1.setCell ⟨w.heap.size, A, none⟩ (.int .i64 (gz z (8 + m)))) w.heap.size 138 = true := isRowB_setCell q0 _ _
  have e2 : rowD (w1.setCell ⟨w.heap.size, A, none⟩ (.int .i64 (gz z (8 + m)))) w.heap.size = S (z.set (A) (gz z (8 + m))) := by rw [rowD_setCell q0, d0, S_set]
  have c2 : (w1.setCell ⟨w.heap.size, A, none⟩ (.int .i64 (gz z (8 + m)))).cell? ⟨w.heap.size, 136, none⟩ = some (.int .i64 (gz (z.set (A) (gz z (8 + m))) 136)) := by rw [cell_set q0, d0, S_set, S_get _ _ (by simp [hl])]
  have HX : Hid (Below w.heap.size w (w1.setCell ⟨w.heap.size, A, none⟩ (.int .i64 (gz z (8 + m))))) := HB.out.setCell (Nat.le_refl _) _
  have HB : Hid (Below w.heap.size w ((w1.setCell ⟨w.heap.size, A, none⟩ (.int .i64 (gz z (8 + m)))).setCell ⟨w.heap.size, 136, none⟩ (.int .i64 (((P : Int) + 1) % 128)))) := (HX.out.setCell (Nat.le_refl _) _)
  have R2 : isRowB ((w1.setCell ⟨w.heap.size, A, none⟩ (.int .i64 (gz z (8 + m)))).setCell ⟨w.heap.size, 136, none⟩ (.int .i64 (((P : Int) + 1) % 128))) (w.heap.size + 1) 138 = true := isRowB_setCell_other r2 _ _ (by omega) _
  have q2 : isRowB ((w1.setCell ⟨w.heap.size, A, none⟩ (.int .i64 (gz z (8 + m)))).setCell ⟨w.heap.size, 136, none⟩ (.int .i64 (((P : Int) + 1) % 128))) w.heap.size 138 = true := isRowB_setCell p2 _ _
  have d2 : rowD ((w1.setCell ⟨w.heap.size, A, none⟩ (.int .i64 (gz z (8 + m)))).setCell ⟨w.heap.size, 136, none⟩ (.int .i64 (((P : Int) + 1) % 128))) w.heap.size = S ((z.set (A) (gz z (8 + m))).set 136 (((P : Int) + 1) % 128)) := by rw [rowD_setCell p2, e2, S_set]
  obtain ⟨t, hg⟩ := heap_setRow_S R2 (S ((z.set (A) (gz z (8 + m))).set 136 (((P : Int) + 1) % 128)))
  have HG := hide hg
  clear hg
  go_wp2_with (first | (refine wpList_load_S rfl _ rfl _ rfl q2 _ d2 ?_) | (refine wpList_store_S rfl _ _ rfl _ rfl _ rfl (by simp [hl]) R2 _ rfl ?_))
  exact bodyPost_ret (v := .tuple #[.agg (S ((z.set (A) (gz z (8 + m))).set 136 (((P : Int) + 1) % 128))), .int .i64 0]) (res_S Tryd.results46 _ _ _ t ((z.set (A) (gz z (8 + m))).set 136 (((P : Int) + 1) % 128)) (by simp [hl]) rfl HG.out 0 rfl) rfl ⟨HN.out, below_setRow HB.out (by omega) _⟩

set_option maxRecDepth 100000 in
set_option maxHeartbeats 2000000 in
theorem rstep_jump (z : List Int) (w : World) (hl : z.length = 138) (hs : stB z = true) (hp : gz z 137 = 0) (P : Nat) (hP : gz z 136 = P) (hP1 : P < 128) (v : Int) (hv : gz z (8 + P) = v) (v0 : 0 ≤ v) (v1 : v < 4294967296) (hkn : knB (fop v) (fa v) (fb v) (fc v) = true) (A B C K : Nat) (ea : fa v = A) (eb : fb v = B) (ec : fc v = C) (ek : fk v = K) (k1 : K < 4096) (eo : fop v = 9)  :
    Calls Tryd.prog 46 #[.agg (S z)] w fun e' w' => e' = .returned (.tuple #[.agg (S (nxt z 9 A B C K)), .int .i64 0]) ∧ Below w.heap.size w w' := by
  have zz := zero34
  have bb := build34
  have HI := hide (right_any z (W2 z w) hl)
  rw [hs] at HI
  have R0 := W2_row0 z w hl
  have D0 := W2_rowD0 z w
  have HN : Hid (Ending.returned (.tuple #[.agg (S (z.set 136 ((K : Int) % 128))), .int .i64 0]) = .returned (.tuple #[.agg (S (nxt z 9 A B C K)), .int .i64 0])) := by simp [Hid, nxt]
  have hP' : (P : Int) < 128 := by omega
  have HKn := hide (fun w => known_any v w v0 v1)
  have HO := hide (fun w => op_any v w v0 v1)
  have HA := hide (fun w => a_any v w v0 v1)
  have HBb := hide (fun w => b_any v w v0 v1)
  have HK := hide (fun w => k_any v w v0 v1)
  have HCc := hide (fun w => c_any v w v0 v1)
  rw [hkn] at HKn
  rw [eo] at HO
  rw [ea] at HA
  rw [eb] at HBb
  rw [ec] at HCc
  rw [ek] at HK
  clear eo ea eb ec ek hkn
  go_enter Tryd.func46, Tryd.ntmps46
  go_wp2_with (refine wpList_load_S rfl _ rfl _ rfl R0 _ D0 ?_)
  refine (unhide HI).mono ?_
  rintro e w1 ⟨rfl, hb⟩
  rw [W2_size] at hb
  have R1 : isRowB w1 (w.heap.size + 1) 138 = true := by rw [isRowB_below hb (by omega)]; exact W2_row1 z w
  have HB : Hid (Below w.heap.size w w1) := (W2_below z w).trans (hb.mono (by omega))
  have hc1 : ∀ i, i < 138 → w1.cell? ⟨w.heap.size, i, none⟩ = some (.int .i64 (gz z i)) := fun i hi => by rw [below_cell hb _ _ (by omega)]; exact W2_cell z w hl i hi
  have q0 : isRowB w1 w.heap.size 138 = true := by rw [isRowB_below hb (by omega)]; exact R0
  have d0 : rowD w1 w.heap.size = S z := by rw [rowD_below hb (by omega)]; exact D0
  have hz1 : w.heap.size + 1 < w1.heap.size := by have := hb.size; rw [W2_size] at this; omega
  have fz1 : ∀ i, w1.frozen? ⟨w.heap.size, i, none⟩ = false := fun i => by rw [below_frozen hb _ _ (by omega)]; exact W2_frozen z w i
  have c137 := hc1 137 (by omega)
  have c136 := hc1 136 (by omega)
  have cw : w1.cell? ⟨w.heap.size, 8 + P, none⟩ = some (.int .i64 v) := by rw [← hv]; exact hc1 (8 + P) (by omega)
  have HC := hide hc1
  clear hb R0 D0 hc1
  go_wp2_with fail
  refine (unhide HKn _).mono ?_
  rintro e w' ⟨rfl, hw⟩
  obtain rfl := hw.symm
  go_wp2_with fail
  refine (unhide HO _).mono ?_
  rintro e w' ⟨rfl, hw⟩
  obtain rfl := hw.symm
  go_wp2_with fail
  refine (unhide HA _).mono ?_
  rintro e w' ⟨rfl, hw⟩
  obtain rfl := hw.symm
  go_wp2_with fail
  refine (unhide HBb _).mono ?_
  rintro e w' ⟨rfl, hw⟩
  obtain rfl := hw.symm
  go_wp2_with fail
  refine (unhide HK _).mono ?_
  rintro e w' ⟨rfl, hw⟩
  obtain rfl := hw.symm
  have HB : Hid (Below w.heap.size w (w1.setCell ⟨w.heap.size, 136, none⟩ (.int .i64 ((K : Int) % 128)))) := (HB.out.setCell (Nat.le_refl _) _)
  have R2 : isRowB (w1.setCell ⟨w.heap.size, 136, none⟩ (.int .i64 ((K : Int) % 128))) (w.heap.size + 1) 138 = true := isRowB_setCell_other R1 _ _ (by omega) _
  have q2 : isRowB (w1.setCell ⟨w.heap.size, 136, none⟩ (.int .i64 ((K : Int) % 128))) w.heap.size 138 = true := isRowB_setCell q0 _ _
  have d2 : rowD (w1.setCell ⟨w.heap.size, 136, none⟩ (.int .i64 ((K : Int) % 128))) w.heap.size = S (z.set 136 ((K : Int) % 128)) := by rw [rowD_setCell q0, d0, S_set]
  obtain ⟨t, hg⟩ := heap_setRow_S R2 (S (z.set 136 ((K : Int) % 128)))
  have HG := hide hg
  clear hg
  go_wp2_with (first | (refine wpList_load_S rfl _ rfl _ rfl q2 _ d2 ?_) | (refine wpList_store_S rfl _ _ rfl _ rfl _ rfl (by simp [hl]) R2 _ rfl ?_))
  exact bodyPost_ret (v := .tuple #[.agg (S (z.set 136 ((K : Int) % 128))), .int .i64 0]) (res_S Tryd.results46 _ _ _ t (z.set 136 ((K : Int) % 128)) (by simp [hl]) rfl HG.out 0 rfl) rfl ⟨HN.out, below_setRow HB.out (by omega) _⟩

set_option maxRecDepth 100000 in
set_option maxHeartbeats 2000000 in
theorem rstep_turn (z : List Int) (w : World) (hl : z.length = 138) (hs : stB z = true) (hp : gz z 137 = 0) (P : Nat) (hP : gz z 136 = P) (hP1 : P < 128) (v : Int) (hv : gz z (8 + P) = v) (v0 : 0 ≤ v) (v1 : v < 4294967296) (hkn : knB (fop v) (fa v) (fb v) (fc v) = true) (A B C K : Nat) (ea : fa v = A) (eb : fb v = B) (ec : fc v = C) (ek : fk v = K) (k1 : K < 4096) (eo : fop v = 10) (ha : A < 8) (r0 : 0 ≤ gz z A) (r1 : gz z A < 4294967296) :
    Calls Tryd.prog 46 #[.agg (S z)] w fun e' w' => e' = .returned (.tuple #[.agg (S (nxt z 10 A B C K)), .int .i64 0]) ∧ Below w.heap.size w w' := by
  have zz := zero34
  have bb := build34
  have HI := hide (right_any z (W2 z w) hl)
  rw [hs] at HI
  have R0 := W2_row0 z w hl
  have D0 := W2_rowD0 z w
  have HN : Hid (Ending.returned (.tuple #[.agg (S (z.set 136 (gz z A % 128))), .int .i64 0]) = .returned (.tuple #[.agg (S (nxt z 10 A B C K)), .int .i64 0])) := by simp [Hid, nxt]
  have hP' : (P : Int) < 128 := by omega
  have HKn := hide (fun w => known_any v w v0 v1)
  have HO := hide (fun w => op_any v w v0 v1)
  have HA := hide (fun w => a_any v w v0 v1)
  have HBb := hide (fun w => b_any v w v0 v1)
  have HK := hide (fun w => k_any v w v0 v1)
  have HCc := hide (fun w => c_any v w v0 v1)
  rw [hkn] at HKn
  rw [eo] at HO
  rw [ea] at HA
  rw [eb] at HBb
  rw [ec] at HCc
  rw [ek] at HK
  clear eo ea eb ec ek hkn
  have ha' : (A : Int) < 8 := by omega
  go_enter Tryd.func46, Tryd.ntmps46
  go_wp2_with (refine wpList_load_S rfl _ rfl _ rfl R0 _ D0 ?_)
  refine (unhide HI).mono ?_
  rintro e w1 ⟨rfl, hb⟩
  rw [W2_size] at hb
  have R1 : isRowB w1 (w.heap.size + 1) 138 = true := by rw [isRowB_below hb (by omega)]; exact W2_row1 z w
  have HB : Hid (Below w.heap.size w w1) := (W2_below z w).trans (hb.mono (by omega))
  have hc1 : ∀ i, i < 138 → w1.cell? ⟨w.heap.size, i, none⟩ = some (.int .i64 (gz z i)) := fun i hi => by rw [below_cell hb _ _ (by omega)]; exact W2_cell z w hl i hi
  have q0 : isRowB w1 w.heap.size 138 = true := by rw [isRowB_below hb (by omega)]; exact R0
  have d0 : rowD w1 w.heap.size = S z := by rw [rowD_below hb (by omega)]; exact D0
  have hz1 : w.heap.size + 1 < w1.heap.size := by have := hb.size; rw [W2_size] at this; omega
  have fz1 : ∀ i, w1.frozen? ⟨w.heap.size, i, none⟩ = false := fun i => by rw [below_frozen hb _ _ (by omega)]; exact W2_frozen z w i
  have c137 := hc1 137 (by omega)
  have c136 := hc1 136 (by omega)
  have cw : w1.cell? ⟨w.heap.size, 8 + P, none⟩ = some (.int .i64 v) := by rw [← hv]; exact hc1 (8 + P) (by omega)
  have c_a := hc1 (A) (by omega)
  have HC := hide hc1
  clear hb R0 D0 hc1
  go_wp2_with fail
  refine (unhide HKn _).mono ?_
  rintro e w' ⟨rfl, hw⟩
  obtain rfl := hw.symm
  go_wp2_with fail
  refine (unhide HO _).mono ?_
  rintro e w' ⟨rfl, hw⟩
  obtain rfl := hw.symm
  go_wp2_with fail
  refine (unhide HA _).mono ?_
  rintro e w' ⟨rfl, hw⟩
  obtain rfl := hw.symm
  go_wp2_with fail
  refine (unhide HBb _).mono ?_
  rintro e w' ⟨rfl, hw⟩
  obtain rfl := hw.symm
  go_wp2_with fail
  refine (unhide HK _).mono ?_
  rintro e w' ⟨rfl, hw⟩
  obtain rfl := hw.symm
  have HB : Hid (Below w.heap.size w (w1.setCell ⟨w.heap.size, 136, none⟩ (.int .i64 (gz z A % 128)))) := (HB.out.setCell (Nat.le_refl _) _)
  have R2 : isRowB (w1.setCell ⟨w.heap.size, 136, none⟩ (.int .i64 (gz z A % 128))) (w.heap.size + 1) 138 = true := isRowB_setCell_other R1 _ _ (by omega) _
  have q2 : isRowB (w1.setCell ⟨w.heap.size, 136, none⟩ (.int .i64 (gz z A % 128))) w.heap.size 138 = true := isRowB_setCell q0 _ _
  have d2 : rowD (w1.setCell ⟨w.heap.size, 136, none⟩ (.int .i64 (gz z A % 128))) w.heap.size = S (z.set 136 (gz z A % 128)) := by rw [rowD_setCell q0, d0, S_set]
  obtain ⟨t, hg⟩ := heap_setRow_S R2 (S (z.set 136 (gz z A % 128)))
  have HG := hide hg
  clear hg
  go_wp2_with (first | (refine wpList_load_S rfl _ rfl _ rfl q2 _ d2 ?_) | (refine wpList_store_S rfl _ _ rfl _ rfl _ rfl (by simp [hl]) R2 _ rfl ?_))
  exact bodyPost_ret (v := .tuple #[.agg (S (z.set 136 (gz z A % 128))), .int .i64 0]) (res_S Tryd.results46 _ _ _ t (z.set 136 (gz z A % 128)) (by simp [hl]) rfl HG.out 0 rfl) rfl ⟨HN.out, below_setRow HB.out (by omega) _⟩

end Go.Proofs.YtmmflekajbeamaaDoor
