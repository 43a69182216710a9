/-
  Sound: a state made right (fit).
  The document's own step (package cribref): what it makes of a state that is none, of one that has stopped, of one whose word is no instruction, and of each instruction.
  The document's own step (package cribref): the instructions whose statements leave an order open: store, same, and the ops.
  Both steps of any state come to one answer; two states of the same numbers are the same to Go; the law Steps returns true.
  Plans: two rows of numbers held against each other; Accept.
  Sound: the steps over a block's plain words (stepped).
-/
import Derived.Test.YtmmflekajbeamabGreatDoorW11
import Derived.Test.YtmmflekajbeamabGreatDoorW05
import Derived.Test.YtmmflekajbeamabGreatDoorW14
import Derived.Test.YtmmflekajbeamabGreatDoorW03
import Derived.ChangeKeysEq
import Derived.Test.YtmmflekajbeamabGreatDoorW08
import Derived.Test.YtmmflekajbeamabGreatDoorW02
import Derived.Deep.MidRow
namespace Go.Proofs.YtmmflekajbeamabGreatDoor
open Go.RowKit

theorem isRowB_heap {w w' : World} {n k : Nat} (h : w'.heap[n]? = w.heap[n]?) : isRowB w' n k = isRowB w n k := by unfold isRowB; rw [h]
def pk (v : Int) : Int := pickI v 4294967296
/-- A state whose first k numbers are made words. -/
def fit1 (z : List Int) (k : Nat) : List Int := (z.take k).map pk ++ z.drop k
theorem fit1_zero (z : List Int) : fit1 z 0 = z := by simp [fit1]
theorem fit1_len (z : List Int) (k : Nat) : (fit1 z k).length = z.length := by simp [fit1]; omega
theorem fit1_get {z : List Int} {k : Nat} (hk : k ≤ z.length) {i : Nat} (h : k ≤ i) : gz (fit1 z k) i = gz z i := by
  unfold gz fit1
  have hl : ((z.take k).map pk).length = k := by simp; omega
  rw [List.getD_eq_getElem?_getD, List.getD_eq_getElem?_getD, List.getElem?_append_right (by omega), hl, List.getElem?_drop, show k + (i - k) = i by omega]
theorem fit1_set {z : List Int} {k : Nat} (h : k < z.length) : (fit1 z k).set k (pk (gz z k)) = fit1 z (k + 1) := by
  have hl : ((z.take k).map pk).length = k := by simp; omega
  have hg : gz z k = z[k] := by unfold gz; rw [List.getD_eq_getElem?_getD, List.getElem?_eq_getElem h]; rfl
  unfold fit1
  rw [List.drop_eq_getElem_cons h, List.set_append_right _ _ (by omega), hl, Nat.sub_self, List.set_cons_zero, hg, ← List.take_append_getElem h, List.map_append]
  simp
theorem pk_bd (v : Int) : 0 ≤ pk v ∧ pk v < 4294967296 := pickI_bd v 4294967296 (by decide)
def fitZ (z : List Int) : List Int := ((fit1 z 136).set 136 (pickI (gz z 136) 128)).set 137 0
theorem fitZ_form {z : List Int} (hz : z.length = 138) : ∃ (regs mem : List Int) (pc : Nat), fitZ z = mkZ regs mem pc 0 ∧ WL 8 regs ∧ WL 128 mem ∧ pc < 128 := by
  have hp := pickI_bd (gz z 136) 128 (by decide)
  obtain ⟨pc, hpc⟩ := Int.eq_ofNat_of_zero_le hp.1
  have hw : ∀ l : List Int, ∀ x ∈ l.map pk, 0 ≤ x ∧ x < 4294967296 := fun l x hx => by
    obtain ⟨y, _, rfl⟩ := List.mem_map.1 hx
    exact pk_bd y
  have h8 : ((z.take 8).map pk).length = 8 := by simp [hz]
  have h128 : (((z.drop 8).take 128).map pk).length = 128 := by simp [hz]
  refine ⟨(z.take 8).map pk, ((z.drop 8).take 128).map pk, pc, ?_, ⟨h8, hw _⟩, ⟨h128, hw _⟩, by omega⟩
  have e1 : fit1 z 136 = mkZ ((z.take 8).map pk) (((z.drop 8).take 128).map pk) (gz z 136) (gz z 137) := by
    unfold fit1 mkZ
    have d : z.drop 136 = [gz z 136, gz z 137] := by
      have a : 136 < z.length := by omega
      have b : 137 < z.length := by omega
      rw [List.drop_eq_getElem_cons a, List.drop_eq_getElem_cons b, List.drop_of_length_le (by omega)]
      unfold gz
      rw [List.getD_eq_getElem?_getD, List.getD_eq_getElem?_getD, List.getElem?_eq_getElem a, List.getElem?_eq_getElem b]
      rfl
    rw [d, ← List.append_assoc, ← List.map_append]
    congr 2
    rw [show (136 : Nat) = 8 + 128 from rfl, List.take_add]
  unfold fitZ
  rw [e1, mkZ_set_pc h8 h128, mkZ_set_st h8 h128, hpc]

set_option maxRecDepth 100000 in
set_option maxHeartbeats 4000000 in
theorem fit_any (z : List Int) (w : World) (hz : z.length = 138) (hb : ∀ x ∈ z, -9223372036854775808 ≤ x ∧ x ≤ 9223372036854775807) :
    Calls Tryz.prog 8 #[.agg (S z)] w fun e' w' => e' = .returned (.agg (S (fitZ z))) ∧ Below w.heap.size w w' := by
  have zz := zero34
  have hgb : ∀ i, i < 138 → -9223372036854775808 ≤ gz z i ∧ gz z i ≤ 9223372036854775807 := fun i hi => hb _ (by
    unfold gz; rw [List.getD_eq_getElem?_getD, List.getElem?_eq_getElem (by omega)]; exact List.getElem_mem _)
  have HG := hide hgb
  have HPk : Hid (∀ i w', i < 138 → Calls Tryz.prog 14 #[.int .i64 (gz z i), .int .i64 4294967296] w' fun e' w'' => e' = .returned (.int .i64 (pk (gz z i))) ∧ w'' = w') := fun i w' hi => pick_any (gz z i) 4294967296 w' (hgb i hi).1 (hgb i hi).2 (by decide) (by decide)
  have HPp := hide (fun w' => pick_any (gz z 136) 128 w' (hgb 136 (by decide)).1 (hgb 136 (by decide)).2 (by decide) (by decide))
  have HR0 : Hid (RowI (W2 z w) w.heap.size 25 z ∧ isRowB (W2 z w) (w.heap.size + 1) 138 = true ∧ Below w.heap.size w (W2 z w)) := by
    refine ⟨?_, W2_row1 z w, W2_below z w⟩
    unfold RowI W2
    rw [Below.heap_alloc _ _ _ (by rw [size_alloc1]; omega), _root_.Go.heap_alloc_new]
  have HSt := hide (fun k (h : k < 138) => fit1_set (z := z) (k := k) (by omega))
  have HGt := hide (fun k i (h : k ≤ 138) (hi : k ≤ i) => fit1_get (z := z) (k := k) (by omega) hi)
  have HLn := hide (fun k => (fit1_len z k).trans hz)
  clear hgb hb
  go_enter Tryz.func8, Tryz.ntmps8
  go_wp2_with fail
  go_loopw [3] (fun i wr => ∃ k : Nat, k ≤ 8 ∧ i = .int .i64 k ∧ Hid (RowI wr w.heap.size 25 (fit1 z k) ∧ isRowB wr (w.heap.size + 1) 138 = true ∧ Below w.heap.size w wr)) (fun i _ => 8 - (intOf i).toNat)
  case atStart => exact ⟨0, Nat.zero_le _, rfl, by rw [fit1_zero]; exact HR0.out⟩
  case round =>
    obtain ⟨k, hk, rfl, HR⟩ := hrel
    by_cases hlt : k < 8
    · have hlt' : (k : Int) < 8 := by omega
      have ck := HR.out.1.cell k (by rw [HLn.out]; omega)
      rw [HGt.out k k (by omega) (Nat.le_refl _)] at ck
      have fk := HR.out.1.frozen k
      have HP := hide (fun w' => HPk.out k w' (by omega))
      have HN : Hid (RowI (wr.setCell ⟨w.heap.size, k, none⟩ (.int .i64 (pk (gz z k)))) w.heap.size 25 (fit1 z (k + 1)) ∧ isRowB (wr.setCell ⟨w.heap.size, k, none⟩ (.int .i64 (pk (gz z k)))) (w.heap.size + 1) 138 = true ∧ Below w.heap.size w (wr.setCell ⟨w.heap.size, k, none⟩ (.int .i64 (pk (gz z k))))) := by
        refine ⟨?_, ?_, HR.out.2.2.setCell (p := ⟨w.heap.size, k, none⟩) (Nat.le_refl _) _⟩
        · have := HR.out.1.set k (pk (gz z k))
          rw [HSt.out k (by omega)] at this
          exact this
        · rw [isRowB_heap (heap_set_other _ _ (by omega))]
          exact HR.out.2.1
      generalize pk (gz z k) = v at *
      generalize gz z k = x at *
      go_wp2_with fail
      refine (unhide HP _).mono ?_
      rintro e w' ⟨rfl, hw⟩
      obtain rfl := hw.symm
      go_wp2_with fail
      exact ⟨⟨k + 1, by omega, by go_num, HN.out⟩, by simp [intOf]; omega⟩
    · have hlt' : ¬ (k : Int) < 8 := by omega
      have hke : k = 8 := by omega
      subst hke
      obtain ⟨wo, hwo⟩ : ∃ wo, wo = wr := ⟨_, rfl⟩
      subst hwo
      go_wp2_with fail
      go_loopw [4] (fun i wr => ∃ k : Nat, k ≤ 128 ∧ i = .int .i64 k ∧ Hid (RowI wr w.heap.size 25 (fit1 z (8 + k)) ∧ isRowB wr (w.heap.size + 1) 138 = true ∧ Below w.heap.size w wr)) (fun i _ => 128 - (intOf i).toNat)
      case atStart => exact ⟨0, Nat.zero_le _, rfl, HR.out⟩
      case round =>
        obtain ⟨k, hk, rfl, HR2⟩ := hrel
        by_cases hlt : k < 128
        · have hlt' : (k : Int) < 128 := by omega
          have ck := HR2.out.1.cell (8 + k) (by rw [HLn.out]; omega)
          rw [HGt.out (8 + k) (8 + k) (by omega) (Nat.le_refl _)] at ck
          have fk := HR2.out.1.frozen (8 + k)
          have HP := hide (fun w' => HPk.out (8 + k) w' (by omega))
          have HN : Hid (RowI (wr.setCell ⟨w.heap.size, 8 + k, none⟩ (.int .i64 (pk (gz z (8 + k))))) w.heap.size 25 (fit1 z (8 + (k + 1))) ∧ isRowB (wr.setCell ⟨w.heap.size, 8 + k, none⟩ (.int .i64 (pk (gz z (8 + k))))) (w.heap.size + 1) 138 = true ∧ Below w.heap.size w (wr.setCell ⟨w.heap.size, 8 + k, none⟩ (.int .i64 (pk (gz z (8 + k)))))) := by
            refine ⟨?_, ?_, HR2.out.2.2.setCell (p := ⟨w.heap.size, 8 + k, none⟩) (Nat.le_refl _) _⟩
            · have := HR2.out.1.set (8 + k) (pk (gz z (8 + k)))
              rw [HSt.out (8 + k) (by omega)] at this
              exact this
            · rw [isRowB_heap (heap_set_other _ _ (by omega))]
              exact HR2.out.2.1
          generalize pk (gz z (8 + k)) = v at *
          generalize gz z (8 + k) = x at *
          go_wp2_with fail
          refine (unhide HP _).mono ?_
          rintro e w' ⟨rfl, hw⟩
          obtain rfl := hw.symm
          go_wp2_with fail
          exact ⟨⟨k + 1, by omega, by go_num, HN.out⟩, by simp [intOf]; omega⟩
        · have hlt' : ¬ (k : Int) < 128 := by omega
          have hke : k = 128 := by omega
          subst hke
          have ck := HR2.out.1.cell 136 (by rw [HLn.out]; omega)
          rw [HGt.out (8 + 128) 136 (by omega) (by omega)] at ck
          have fk := HR2.out.1.frozen 136
          have cs := HR2.out.1.cell 137 (by rw [HLn.out]; omega)
          have fs := HR2.out.1.frozen 137
          obtain ⟨WF, hWF⟩ : ∃ WF, WF = (wr.setCell ⟨w.heap.size, 136, none⟩ (.int .i64 (pickI (gz z 136) 128))).setCell ⟨w.heap.size, 137, none⟩ (.int .i64 0) := ⟨_, rfl⟩
          have HWF := hide hWF
          have rF : RowI WF w.heap.size 25 (fitZ z) := by
            rw [hWF]
            exact (HR2.out.1.set 136 _).set 137 _
          have bF : Below w.heap.size w WF := by
            rw [hWF]
            exact (HR2.out.2.2.setCell (p := ⟨w.heap.size, 136, none⟩) (Nat.le_refl _) _).setCell (p := ⟨w.heap.size, 137, none⟩) (Nat.le_refl _) _
          have iF : isRowB WF (w.heap.size + 1) 138 = true := by
            rw [hWF, isRowB_heap (heap_set_other _ _ (by omega)), isRowB_heap (heap_set_other _ _ (by omega))]
            exact HR2.out.2.1
          have hzl : (fitZ z).length = 138 := by unfold fitZ; rw [List.length_set, List.length_set, HLn.out]
          have rI := rF.isRow 138 hzl
          have rD := rF.rowD
          obtain ⟨t, hg⟩ := heap_setRow_S iF (S (fitZ z))
          have HGf := hide hg
          have HBf := hide (below_setRow bF (by omega : w.heap.size ≤ w.heap.size + 1) (S (fitZ z)))
          clear hWF rF bF hg
          generalize pickI (gz z 136) 128 = v at *
          generalize gz z 136 = x at *
          generalize gz (fit1 z (8 + 128)) 137 = y at *
          go_wp2_with fail
          refine (unhide HPp _).mono ?_
          rintro e w' ⟨rfl, hw⟩
          obtain rfl := hw.symm
          go_wp2_with (first | (refine wpList_load_S rfl _ rfl w.heap.size rfl (by rw [← HWF.out]; exact rI) (S (fitZ z)) (by rw [← HWF.out]; exact rD) ?_) | (refine wpList_store_S rfl _ _ rfl (w.heap.size + 1) rfl (fitZ z) rfl hzl (by rw [← HWF.out]; exact iF) (WF.setRow (w.heap.size + 1) (S (fitZ z))) (by rw [← HWF.out]) ?_))
          exact bodyPost_ret (v := .agg (S (fitZ z))) (results_cell_row Tryz.results8 _ _ (w.heap.size + 1) t _ _ _ rfl HGf.out Tryz.underlying25 rfl (by rw [size34, S_size, hzl])) rfl ⟨rfl, HBf.out⟩
end Go.Proofs.YtmmflekajbeamabGreatDoor

namespace Go.Proofs.YtmmflekajbeamabGreatDoor
open Go.RowKit
set_option linter.unusedVariables false

end Go.Proofs.YtmmflekajbeamabGreatDoor

namespace Go.Proofs.YtmmflekajbeamabGreatDoor
open Go.RowKit
set_option linter.unusedVariables false

end Go.Proofs.YtmmflekajbeamabGreatDoor

namespace Go.Proofs.YtmmflekajbeamabGreatDoor
open Go.RowKit

/-! ### equality of a state with itself -/
theorem eqItems_refl {P : Program} (d : Nat) {e : TypeId} (he : P.underlying e = some (.int .i64)) (xs : Array Value) (w : World) : ∀ (is : List Nat), (∀ i ∈ is, ∃ n, xs[i * 1]? = some (.int .i64 n)) →
    (Op.eqItems (d + 1) e 1 xs xs is).run P w = .ok true w
  | [], _ => by simp [Op.eqItems]
  | i :: is, h => by
    obtain ⟨n, hn⟩ := h i (by simp)
    have px : (part e xs (i * 1)).run P w = .ok (.int .i64 n) w := by
      rw [Nat.mul_one] at hn ⊢
      simp [part, isAgg, run_underlying he, hn]
    have pe : (Op.equalIn (d + 1) e (.int .i64 n) (.int .i64 n)).run P w = .ok true w := by
      rw [run_equalIn_int w d e .i64 .i64 n n he]; simp
    simp only [Op.eqItems, Sem.run_bind, px, pe, Result.andThen_ok]
    simpa using eqItems_refl d he xs w is (fun j hj => h j (by simp [hj]))

theorem cells3 : Tryz.prog.cellsOf 3 = 1 := by kernel_rfl
theorem info3 : ∃ i, Tryz.prog.info? 3 = some i := by
  cases h : Tryz.prog.info? 3 with
  | none => exact absurd (show (Tryz.prog.info? 3).isSome = true by kernel_rfl) (by rw [h]; decide)
  | some i => exact ⟨i, rfl⟩

theorem eqArr (d : Nat) {t : TypeId} {n : Nat} (hu : Tryz.prog.underlying t = some (.array n 3)) (xs : Array Value) (hx : ∀ i, i < n → ∃ m, xs[i]? = some (.int .i64 m)) (w : World) :
    (Op.equalIn (d + 2) t (.agg xs) (.agg xs)).run Tryz.prog w = .ok true w := by
  obtain ⟨i, hi⟩ := info3
  rw [run_equalIn_array w (d + 1) xs xs hu hi, cells3]
  refine eqItems_refl d Tryz.underlying3 xs w _ (fun j hj => ?_)
  rw [Nat.mul_one]
  exact hx j (by simpa using hj)

theorem eqS (r : List Int) (hl : r.length = 138) (w : World) : (binOp .eql 25 (.agg (S r)) (.agg (S r))).run Tryz.prog w = .ok (.bool true) w := by
  have g := fun i hi => S_get r i (show i < r.length from hi)
  have hs : Tryz.prog.underlying 25 = some (.struct (Tryz.prog.fieldsOf 25)) := by kernel_rfl
  have hp : Tryz.prog.stoodInHeld 25 = false := by kernel_rfl
  rw [run_eql_struct, run_equalIn_struct w 9999 25 (S r) (S r) hs hp]
  have a31 : (isAgg 22).run Tryz.prog w = .ok true w := by kernel_rfl
  have a32 : (isAgg 23).run Tryz.prog w = .ok true w := by kernel_rfl
  have a3 : (isAgg 3).run Tryz.prog w = .ok false w := by kernel_rfl
  have p0 : (part 22 (S r) 0).run Tryz.prog w = .ok (.agg ((S r).extract 0 8)) w := by simp [part, a31]
  have p1 : (part 23 (S r) 8).run Tryz.prog w = .ok (.agg ((S r).extract 8 136)) w := by simp [part, a32]
  have p2 : (part 3 (S r) 136).run Tryz.prog w = .ok (.int .i64 (gz r 136)) w := by simp [part, a3, g 136 (by omega)]
  have p3 : (part 3 (S r) 137).run Tryz.prog w = .ok (.int .i64 (gz r 137)) w := by simp [part, a3, g 137 (by omega)]
  have e0 : (Op.equalIn 9999 22 (.agg ((S r).extract 0 8)) (.agg ((S r).extract 0 8))).run Tryz.prog w = .ok true w := eqArr 9997 Tryz.underlying22 _ (fun i hi => ⟨gz r i, by
    rw [Array.getElem?_extract, if_pos (by simp [S_size, hl]; omega), Nat.zero_add]; exact g i (by omega)⟩) w
  have e1 : (Op.equalIn 9999 23 (.agg ((S r).extract 8 136)) (.agg ((S r).extract 8 136))).run Tryz.prog w = .ok true w := eqArr 9997 Tryz.underlying23 _ (fun i hi => ⟨gz r (8 + i), by
    rw [Array.getElem?_extract, if_pos (by simp [S_size, hl]; omega)]; exact g (8 + i) (by omega)⟩) w
  have e2 : (Op.equalIn 9999 3 (.int .i64 (gz r 136)) (.int .i64 (gz r 136))).run Tryz.prog w = .ok true w := by rw [run_equalIn_int w 9998 3 .i64 .i64 _ _ Tryz.underlying3]; simp
  have e3 : (Op.equalIn 9999 3 (.int .i64 (gz r 137)) (.int .i64 (gz r 137))).run Tryz.prog w = .ok true w := by rw [run_equalIn_int w 9998 3 .i64 .i64 _ _ Tryz.underlying3]; simp
  simp [Program.fieldsOf, Tryz.underlying25, Op.eqFields, Sem.run_bind, p0, p1, p2, p3, e0, e1, e2, e3, Result.andThen]

/-! ### the two steps -/
theorem wordZ_eq {z : List Int} {P : Nat} (hP : gz z 136 = P) : wordZ z = gz z (8 + P) := by unfold wordZ; rw [hP, Int.toNat_natCast]
theorem stp_bad {z : List Int} (hs : stB z = false) : stp z = (zeroZ, 8) := by simp [stp, hs]
theorem stp_stop {z : List Int} (hs : stB z = true) (hp : gz z 137 ≠ 0) : stp z = (zeroZ, 9) := by simp [stp, hs, hp]
theorem stp_trap {z : List Int} (hs : stB z = true) (hp : gz z 137 = 0) (hk : knZ z = false) : stp z = (z.set 137 2, 0) := by simp [stp, hs, hp, hk]
theorem stp_go {z : List Int} (hs : stB z = true) (hp : gz z 137 = 0) (hk : knZ z = true) :
    stp z = (nxt z (fop (wordZ z)) (fa (wordZ z)) (fb (wordZ z)) (fc (wordZ z)) (fk (wordZ z)), 0) := by simp [stp, hs, hp, hk]
theorem stp_len (z : List Int) (hl : z.length = 138) : (stp z).1.length = 138 := by
  unfold stp
  repeat' split
  all_goals first | (simp [zeroZ]; done) | (simp [hl]; done) | exact nxt_len _ _ _ _ _ _ hl

theorem mstep_any (z : List Int) (w : World) (hl : z.length = 138) (ht : Tab w) :
    Calls Tryz.prog 85 #[.agg (S z)] w fun e' w' => e' = .returned (.tuple #[.agg (S (stp z).1), .int .i64 (stp z).2]) ∧ Below w.heap.size w w' := by
  cases hs : stB z
  · rw [stp_bad hs]; exact mstep_bad z w hl hs
  · by_cases hp : gz z 137 = 0
    · obtain ⟨p0, p1, _, _⟩ := stB_pc hs
      obtain ⟨P, hP⟩ := Int.eq_ofNat_of_zero_le p0
      have hv := stB_reg hs (8 + P) (by omega)
      cases hk : knZ z
      · rw [stp_trap hs hp hk]
        refine mstep_trap z w hl hs hp P hP (by omega) (gz z (8 + P)) rfl hv.1 hv.2 ?_ ht
        rw [← wordZ_eq hP]; exact hk
      · rw [stp_go hs hp hk, wordZ_eq hP]
        refine mstep_go z w hl hs hp P hP (by omega) (gz z (8 + P)) rfl hv.1 hv.2 ?_ ht
        rw [← wordZ_eq hP]; exact hk
    · rw [stp_stop hs hp]; exact mstep_stop z w hl hs hp

set_option maxRecDepth 100000 in
set_option maxHeartbeats 1000000 in
/-- crib.Step hands machine.Step's answer on. -/
theorem cstep_any (z r : List Int) (e : Int) (w : World) (hl : z.length = 138) (hr : r.length = 138)
    (h : ∀ w', Below w.heap.size w w' → Calls Tryz.prog 85 #[.agg (S z)] w' fun e' w'' => e' = .returned (.tuple #[.agg (S r), .int .i64 e]) ∧ Below w'.heap.size w' w'') :
    Calls Tryz.prog 54 #[.agg (S z)] w fun e' w' => e' = .returned (.tuple #[.agg (S r), .int .i64 e]) ∧ Below w.heap.size w w' := by
  have zz := zero34
  have HI := hide (h (W2 z w) (W2_below z w))
  clear h
  have R0 := W2_row0 z w hl
  have D0 := W2_rowD0 z w
  go_enter Tryz.func54, Tryz.ntmps54
  go_wp2_with (refine wpList_load_S rfl _ rfl _ rfl R0 _ D0 ?_)
  refine (unhide HI).mono ?_
  rintro e w1 ⟨rfl, hb⟩
  rw [W2_size] at hb
  have R1 : isRowB w1 (w.heap.size + 1) 138 = true := by rw [isRowB_below hb (by omega)]; exact W2_row1 z w
  have HB : Hid (Below w.heap.size w w1) := (W2_below z w).trans (hb.mono (by omega))
  obtain ⟨t, hg⟩ := heap_setRow_S R1 (S r)
  have HG := hide hg
  clear hb hg R0 D0
  go_wp2_with (refine wpList_store_S rfl _ _ rfl _ rfl _ rfl hr R1 _ rfl ?_)
  exact bodyPost_ret (v := .tuple #[.agg (S r), .int .i64 e]) (res_S Tryz.results54 _ _ _ t r hr rfl HG.out e rfl) rfl ⟨rfl, below_setRow HB.out (by omega) _⟩

end Go.Proofs.YtmmflekajbeamabGreatDoor

namespace Go.Proofs.YtmmflekajbeamabGreatDoor
open Go.RowKit Go.Maps Go.WideMaps

theorem eqItems_gen {P : Program} (d : Nat) {e : TypeId} (he : P.underlying e = some (.int .i64)) (x y : List Int) (w : World) : ∀ (is : List Nat), (∀ i ∈ is, i < x.length ∧ i < y.length) →
    (Op.eqItems (d + 1) e 1 (S x) (S y) is).run P w = .ok (is.all fun i => gz x i == gz y i) w
  | [], _ => by simp [Op.eqItems]
  | i :: is, h => by
    obtain ⟨h1, h2⟩ := h i (by simp)
    have px : (part e (S x) (i * 1)).run P w = .ok (.int .i64 (gz x i)) w := by
      rw [Nat.mul_one]
      simp [part, isAgg, run_underlying he, S_get x i h1]
    have py : (part e (S y) (i * 1)).run P w = .ok (.int .i64 (gz y i)) w := by
      rw [Nat.mul_one]
      simp [part, isAgg, run_underlying he, S_get y i h2]
    have pe : (Op.equalIn (d + 1) e (.int .i64 (gz x i)) (.int .i64 (gz y i))).run P w = .ok (gz x i == gz y i) w := run_equalIn_int w d e .i64 .i64 _ _ he
    simp only [Op.eqItems, Sem.run_bind, px, py, pe, Result.andThen_ok, List.all_cons]
    cases hq : (gz x i == gz y i)
    · simp
    · simpa using eqItems_gen d he x y w is (fun j hj => h j (by simp [hj]))
theorem csI1 : Tryz.prog.cellsOf 3 = 1 := by kernel_rfl
theorem infI1 : ∃ i, Tryz.prog.info? 3 = some i := by
  cases h : Tryz.prog.info? 3 with
  | none => exact absurd (show (Tryz.prog.info? 3).isSome = true by kernel_rfl) (by rw [h]; decide)
  | some i => exact ⟨i, rfl⟩
theorem all_eq {x y : List Int} {n : Nat} (hx : x.length = n) (hy : y.length = n) : ((List.range n).all fun i => gz x i == gz y i) = decide (x = y) := by
  rw [Bool.eq_iff_iff, List.all_eq_true, decide_eq_true_eq]
  constructor
  · intro h
    apply List.ext_getElem?
    intro i
    by_cases hi : i < n
    · have := h i (List.mem_range.2 hi)
      rw [beq_iff_eq] at this
      unfold gz at this
      rw [List.getD_eq_getElem?_getD, List.getD_eq_getElem?_getD, List.getElem?_eq_getElem (by omega), List.getElem?_eq_getElem (by omega)] at this
      rw [List.getElem?_eq_getElem (by omega), List.getElem?_eq_getElem (by omega)]
      simpa using this
    · rw [List.getElem?_eq_none (by omega), List.getElem?_eq_none (by omega)]
  · rintro rfl i _
    exact beq_self_eq_true _
theorem eq8 (x y : List Int) (hx : x.length = 8) (hy : y.length = 8) (w : World) : (binOp .eql 22 (.agg (S x)) (.agg (S y))).run Tryz.prog w = .ok (.bool (decide (x = y))) w := by
  obtain ⟨i, hi⟩ := infI1
  rw [run_eql_struct, run_equalIn_array w 9999 (S x) (S y) Tryz.underlying22 hi, csI1, eqItems_gen 9998 Tryz.underlying3 x y w _ (fun j hj => by have := List.mem_range.1 hj; omega), all_eq hx hy]
  rfl
/-- The document's answer to Accept. -/
def AccIs (s p : ByteArray) (n : Int) : Prop :=
  (¬ blkOK s ∧ n = 10) ∨ (blkOK s ∧ ¬ putsOK p ∧ n = 11) ∨ (blkOK s ∧ putsOK p ∧ (comeS (blkPuts s)).take 8 = (comeS (putL p (p.size / 8))).take 8 ∧ n = 0) ∨ (blkOK s ∧ putsOK p ∧ ¬ (comeS (blkPuts s)).take 8 = (comeS (putL p (p.size / 8))).take 8 ∧ n = 12)
theorem AccIs.one {s p : ByteArray} {n m : Int} (h : AccIs s p n) (k : AccIs s p m) : n = m := by
  unfold AccIs at h k
  rcases h with ⟨h1, h2⟩ | ⟨h1, h2, h3⟩ | ⟨h1, h2, h3, h4⟩ | ⟨h1, h2, h3, h4⟩ <;> rcases k with ⟨k1, k2⟩ | ⟨k1, k2, k3⟩ | ⟨k1, k2, k3, k4⟩ | ⟨k1, k2, k3, k4⟩
  all_goals first | exact absurd h1 k1 | exact absurd k1 h1 | exact absurd h2 k2 | exact absurd k2 h2 | exact absurd h3 k3 | exact absurd k3 h3 | omega
/-- The program's words of a block, against the text's. -/
theorem plN_nPl {s : ByteArray} (h : blkOK s) : plN (blkL s (s.size / 4)) = nPl s := by
  have h4 := h.1
  unfold plN nPl
  rw [blkL_len, blkL_at s (by omega)]
  cases hq : plW (wdAt s (s.size / 4 - 1))
  · rw [if_pos ⟨by omega, rfl⟩, if_neg (by decide)]
  · rw [if_neg (fun h => by cases h.2), if_pos rfl]
theorem blkL_take (s : ByteArray) {k n : Nat} (h : n ≤ k) : (blkL s k).take n = blkL s n := by
  unfold blkL
  rw [← List.map_take, List.take_range, Nat.min_eq_left h]
theorem pwL_blk (s : ByteArray) : pwL (blkL s (nPl s)) = blkPuts s := by
  unfold pwL blkL blkPuts
  rw [List.map_map]
  rfl
theorem tab_new (W : World) : TabAt W.heap.size (W.heap.size + 1) [] W.heap.size (.slice none 0 0) ((W.alloc (.map #[] 0)).alloc (.cells #[.map (some W.heap.size), .slice none 0 0] 140)) := by
  refine ⟨?_, ?_, fun i => ?_, by omega, Nat.le_refl _, (fun g hg => by cases hg), World.ownsRow_nil _ _ _ _, .map [], (World.ownsMap_made W _ _ _).alloc _, fun e _ => ⟨⟨fun h => (by cases h), fun h => (by cases h)⟩, fun n hn => (by simp at hn)⟩⟩
  · rw [World.cell?_alloc_at (hn := by rw [size_alloc1])]; rfl
  · rw [World.cell?_alloc_at (hn := by rw [size_alloc1])]; rfl
  · rw [World.frozen?_alloc_at (hn := by rw [size_alloc1])]
theorem mk137 (w : World) : (Instr.makeMap 137 none).run Tryz.prog w = .ok (.map (some w.heap.size)) (w.alloc (.map #[] 0)) := by kernel_rfl
theorem nI_inj {a b : List Nat} : nI a = nI b ↔ a = b := by
  unfold nI
  constructor
  · intro h
    exact List.map_inj_right (fun x y h => by omega) |>.1 h
  · rintro rfl; rfl
theorem own_take {w : World} {B : Nat} {v : Value} {n m : Nat} {xs : List Value} {e : TypeId} {k : Nat} (h : w.ownsRow B e k v n xs) (hn : n = m) : w.ownsRow B e k v m xs := hn ▸ h

set_option maxRecDepth 100000 in
set_option maxHeartbeats 2000000 in
theorem meanAccept_any (s p : ByteArray) (w : World) (ht : Tab w) (hs : s.size ≤ maxLen) (hp : p.size ≤ maxLen) :
    Calls Tryz.prog 53 #[.string s, .string p] w fun e' w' => Below w.heap.size w w' ∧ ∃ n, e' = .returned (.int .i64 n) ∧ AccIs s p n := by
  have z9 := zero9
  have HRd := hide (blkRead_any s w ht hs)
  have HPt := hide (fun w' => plansPuts_any p w' hp)
  have HTb := hide ht
  have hpos := ht.pos
  clear ht
  go_enter Tryz.func53, Tryz.ntmps53
  go_wp2_with fail
  refine (unhide HRd).mono ?_
  rintro e w1 ⟨hb1, ⟨hok, rfl⟩ | ⟨hno, rfl⟩⟩
  · have HB1 := hide hb1; have HOk := hide hok
    have hz1 := hb1.size
    have h8 : s.size / 4 ≤ 8 := by have := hok.2.1; omega
    have hzl := wdZ_len (ws := blkL s (s.size / 4)) (by rw [blkL_len]; exact h8)
    clear hb1 hok HRd
    go_wp2_with (refine wpList_storeR size9 rfl _ _ rfl w1.heap.size rfl (wdZ (blkL s (s.size / 4))) rfl hzl (by rw [isRowB_alloc_at _ _ _ _ _ rfl]; rfl) _ (setRow_alloc_at _ _ _ _ _ rfl) ?_)
    refine (unhide HPt _).mono ?_
    rintro e w2 ⟨hb2, ⟨hpk, pv, rfl, hpo⟩ | ⟨hpn, rfl⟩⟩
    · have HRw := hide (RowI.keep (w' := w2) (show RowI (w1.alloc (.cells (S (wdZ (blkL s (s.size / 4)))) 131)) w1.heap.size 131 (wdZ (blkL s (s.size / 4))) from _root_.Go.heap_alloc_new w1 _) (hb2.block _ (by rw [size_alloc1]; omega)))
      have HB2 : Hid (Below w.heap.size w w2) := (HB1.out.alloc hz1 _).trans (hb2.mono (by rw [size_alloc1]; omega))
      have hz2 : w1.heap.size < w2.heap.size := HRw.out.lt
      have HPk := hide hpk; have HPo := hide hpo
      have HRl := hide (fun w' => plain_list (blkL s (s.size / 4)) w')
      clear hb2 hpk hpo HPt
      obtain ⟨W3, hW3⟩ : ∃ W3, W3 = ((w2.alloc (.map #[] 0)).alloc (.cells #[.map (some w2.heap.size), .slice none 0 0] 140)) := ⟨_, rfl⟩
      have HW := hide hW3
      have h3b : Below w2.heap.size w2 W3 := by rw [hW3]; exact ((Below.refl _ _).alloc (Nat.le_refl _) _).alloc (by rw [size_alloc1]; omega) _
      have h3z : W3.heap.size = w2.heap.size + 1 + 1 := by rw [hW3, size_alloc1, size_alloc1]
      have H3T : Hid (TabAt w2.heap.size (w2.heap.size + 1) [] w2.heap.size (.slice none 0 0) W3) := by unfold Hid; rw [hW3]; exact tab_new w2
      have H3B := hide h3b
      have r3 := HRw.out.keep (h3b.block _ hz2)
      have rI := r3.isRow 9 hzl
      have rD := r3.rowD
      have HPl := hide (plain_list (blkL s (s.size / 4)) W3 (HTb.out.below hpos (HB2.out.trans (h3b.mono (Nat.le_trans hz1 (Nat.le_of_lt hz2))))) (by rw [blkL_len]; exact h8) (blkL_bd s _))
      have mk := mk137 w2
      clear hW3 h3b r3 HRl
      go_wp2_with (refine wpList_loadR rfl Tryz.underlying131 size9 rfl _ rfl w1.heap.size rfl (by rw [← HW.out]; exact rI) (S (wdZ (blkL s (s.size / 4)))) (by rw [← HW.out]; exact rD) ?_)
      rw [← HW.out]
      refine (unhide HPl).mono ?_
      rintro e w4 ⟨hb4, fv, rfl, hfo⟩
      rw [plN_nPl HOk.out, blkL_take s (nPl_le s)] at hfo
      have HOf := hide (ofWords_any _ fv (blkL s (nPl s)) w4 (own_take hfo (blkL_len s _).symm) (by rw [blkL_len]; exact Nat.le_trans (nPl_le s) h8))
      have HB4 := hide hb4
      have hz4 := hb4.size
      clear hb4 hfo HPl rI rD
      go_wp2_with fail
      refine (unhide HOf).mono ?_
      rintro e w5 ⟨hb5, pv1, rfl, hpo1⟩
      rw [pwL_blk, blkL_len, ← nPl_len] at hpo1
      have hz5 := hb5.size
      have H35 : Hid (Below W3.heap.size W3 w5) := HB4.out.trans (hb5.mono hz4)
      have HCo := hide (comeTo_any w2.heap.size _ (w2.heap.size + 1) [] [] w2.heap.size (.slice none 0 0) pv1 (blkPuts s) w5 (H3T.out.above H35.out) TI.nil hpo1 (blkPuts_ok HOk.out) (by rw [nPl_len]; have := nPl_le s; omega) (by simp) (fun g hg => by have := (row_lt hpo1 g hg).1; omega))
      clear hb5 hpo1 HOf
      go_wp2_with fail
      refine (unhide HCo).mono ?_
      rintro e w6 ⟨T1, ds1, v1, ns1, rfl, c1, c2, c3, c4, c5, c6⟩
      have H25 : Hid (Below w2.heap.size w2 w6) := (H3B.out.trans (H35.out.mono (by omega))).trans c5.below
      have hpo6 : w6.ownsRow (w1.alloc (.cells (S (wdZ (blkL s (s.size / 4)))) 131)).heap.size 174 5 pv (putL p (p.size / 8)).length (putCs (putL p (p.size / 8))) := own_take (own_grow HPo.out H25.out) (putL_len p _).symm
      have HCo2 := hide (comeTo_any w2.heap.size _ (w2.heap.size + 1) T1 ds1 w2.heap.size v1 pv (putL p (p.size / 8)) w6 c1 c2 hpo6 (putL_ok HPk.out) (by rw [putL_len]; have := HPk.out.2.1; omega) (by simp at c6; omega) (fun g hg => by have := (row_lt HPo.out g hg).2; omega))
      have HC4 := hide c4; have HC2 := hide c2
      have hl1 := c4.n16
      clear c1 c2 c3 c4 c5 c6 hpo6 HCo
      go_wp2_with fail
      refine (unhide HCo2).mono ?_
      rintro e w7 ⟨T2, ds2, v2, ns2, rfl, q1, q2, q3, q4, q5, q6⟩
      have HB7 : Hid (Below w.heap.size w w7) := HB2.out.trans ((H25.out.trans q5.below).mono (Nat.le_trans hz1 (Nat.le_of_lt hz2)))
      have HSm : Hid (nI (ns1.take 8) = nI (ns2.take 8) ↔ (comeS (blkPuts s)).take 8 = (comeS (putL p (p.size / 8))).take 8) := by
        unfold Hid
        rw [nI_inj]
        exact Slots.same q2 (HC4.out.more HC2.out.len q3) q4
      have hl2 := q4.n16
      have heq := eq8 (nI (ns1.take 8)) (nI (ns2.take 8)) (by rw [nI_len, List.length_take]; omega) (by rw [nI_len, List.length_take]; omega)
      clear q1 q2 q3 q4 q5 q6 HCo2 HC4
      by_cases hsame : nI (ns1.take 8) = nI (ns2.take 8)
      · rw [decide_eq_true hsame] at heq
        have HY := hide (HSm.out.1 hsame)
        clear hsame HSm
        go_wp2_with fail
        go_ret
        exact ⟨HB7.out, _, rfl, .inr (.inr (.inl ⟨HOk.out, HPk.out, HY.out, rfl⟩))⟩
      · rw [decide_eq_false hsame] at heq
        have HY : Hid (¬ (comeS (blkPuts s)).take 8 = (comeS (putL p (p.size / 8))).take 8) := fun h => hsame (HSm.out.2 h)
        clear hsame HSm
        go_wp2_with fail
        go_ret
        exact ⟨HB7.out, _, rfl, .inr (.inr (.inr ⟨HOk.out, HPk.out, HY.out, rfl⟩))⟩
    · have HB2 : Hid (Below w.heap.size w w2) := (HB1.out.alloc hz1 _).trans (hb2.mono (by rw [size_alloc1]; omega))
      have HN := hide hpn
      clear hb2 hpn
      go_wp2_with fail
      go_ret
      exact ⟨HB2.out, _, rfl, .inr (.inl ⟨HOk.out, HN.out, rfl⟩)⟩
  · have HB1 := hide hb1; have HNo := hide hno
    have hz1 := hb1.size
    clear hb1 hno HRd
    go_wp2_with (refine wpList_storeR size9 rfl _ _ rfl w1.heap.size rfl (wdZ []) rfl rfl (by rw [isRowB_alloc_at _ _ _ _ _ rfl]; rfl) _ (setRow_alloc_at _ _ _ _ _ rfl) ?_)
    go_ret
    exact ⟨HB1.out.alloc hz1 _, _, rfl, .inl ⟨HNo.out, rfl⟩⟩

end Go.Proofs.YtmmflekajbeamabGreatDoor

namespace Go.Proofs.YtmmflekajbeamabGreatDoor
open Go.RowKit

theorem wpList_load_midG {ops : Array Oper} {rest : List Oper} {op : Oper} {a : Act} {w : World} {Q : Exit → Act → World → Prop} (hw : Region.wanted op (yielded ops a.tmps) = true) (ty : TypeId) (x : Operand) (ho : op.op = .load ty x)
    (b o : Nat) (hx : a.eval x = .pointer (some ⟨b, o, none⟩)) (cs : List Value) (d : TypeDesc) (hc : w.rangeAt b o cs)
    (hu : Tryz.prog.underlying ty = some d) (hd : d.isRow = true) (hi : (Tryz.prog.info? ty).map (·.size) = some cs.length)
    (h : wpList Tryz.prog ops Q rest (a.put op.dst (.agg cs.toArray)) w) : wpList Tryz.prog ops Q (op :: rest) a w :=
  wpList_step fun K hK => by
    rw [if_pos hw]
    exact wp_load_mid ty x ho b o hx cs d hc hu hd hi (hK _ _ h)
theorem wpList_load_midZ {ops : Array Oper} {rest : List Oper} {op : Oper} {a : Act} {w : World} {Q : Exit → Act → World → Prop} (hw : Region.wanted op (yielded ops a.tmps) = true) (ty : TypeId) (x : Operand) (ho : op.op = .load ty x)
    (b o : Nat) (hx : a.eval x = .pointer (some ⟨b, o, none⟩)) (z : List Int) (d : TypeDesc) (hc : w.rangeAt b o (z.map (Value.int .i64)))
    (hu : Tryz.prog.underlying ty = some d) (hd : d.isRow = true) (hi : (Tryz.prog.info? ty).map (·.size) = some (z.map (Value.int .i64)).length)
    (h : wpList Tryz.prog ops Q rest (a.put op.dst (.agg (S z))) w) : wpList Tryz.prog ops Q (op :: rest) a w :=
  wpList_load_midG hw ty x ho b o hx _ d hc hu hd hi h
theorem cribStep_any (z : List Int) (w : World) (hl : z.length = 138) (ht : Tab w) :
    Calls Tryz.prog 54 #[.agg (S z)] w fun e' w' => e' = .returned (.tuple #[.agg (S (stp z).1), .int .i64 (stp z).2]) ∧ Below w.heap.size w w' :=
  cstep_any z (stp z).1 (stp z).2 w hl (stp_len z hl) (fun w' hb => mstep_any z w' hl (ht.below ht.pos hb))
theorem results_cell_tmp2 {fn : Func} {p u v : Tmp} {ty : TypeId} (h : fn.results = #[.cell p ty, .tmp u, .tmp v]) (tmps : Array Value) (P : Program) (w : World) :
    (results fn tmps).run P w =
      ((asAddr (tmps.getD p undef)).run P w).andThen fun a w₁ => ((loadVar ty a).run P w₁).andThen fun x w₂ => .ok (.tuple #[x, tmps.getD u undef, tmps.getD v undef]) w₂ := by
  simp only [results, h]
  simp [Sem.run_bind, Result.andThen]
theorem res_S3 {fn : Func} {p u v : Tmp} (h : fn.results = #[.cell p 25, .tmp u, .tmp v]) (tmps : Array Value) (w : World) (g : Nat) (t : TypeId) (z : List Int) (hz : z.length = 138)
    (hp : tmps.getD p undef = .pointer (some ⟨g, 0, none⟩)) (hg : w.heap[g]? = some (.cells (S z) t (0, 0))) (x y : Value) (hu : tmps.getD u undef = x) (hv : tmps.getD v undef = y) :
    (results fn tmps).run Tryz.prog w = .ok (.tuple #[.agg (S z), x, y]) w := by
  rw [results_cell_tmp2 h, hp, hu, hv]
  simp only [asAddr, Sem.run_pure, Result.andThen]
  rw [run_loadVar_row w g t 25 (S z) (0, 0) _ hg Tryz.underlying25 rfl (by rw [size34, S_size, hz])]

end Go.Proofs.YtmmflekajbeamabGreatDoor
