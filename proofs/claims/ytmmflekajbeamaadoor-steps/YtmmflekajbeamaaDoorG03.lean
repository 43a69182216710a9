/-
  The functions that ask whether a state is one: package machine's and the document's.
-/
import Derived.Test.YtmmflekajbeamaaDoorG02
namespace Go.Proofs.YtmmflekajbeamaaDoor
open Go.RowKit

set_option maxHeartbeats 400000 in
theorem areWords_any (b off n : Nat) (f : Nat → Int) (w : World) (hn : n ≤ 128) (hc : ∀ i, i < n → w.cell? ⟨b, off + i, none⟩ = some (.int .i64 (f i))) :
    Calls Tryd.prog 95 #[.slice (some ⟨b, off, none⟩) n n] w fun e' w' => e' = .returned (.bool (allW f n)) ∧ w' = w := by
  have HC := hide hc
  clear hc
  go_enter Tryd.func95, Tryd.ntmps95
  go_wp2
  go_loop [7] (fun i => ∃ j : Nat, j ≤ n ∧ i = .int .i64 j ∧ Hid (allW f j = true)) (fun i => n - (intOf i).toNat)
  case atStart => exact ⟨0, Nat.zero_le _, rfl, allW_zero f⟩
  case round =>
    obtain ⟨j, hj, rfl, HJ⟩ := hrel
    by_cases hlt : j < n
    · have hcj := unhide HC j hlt
      have hw := isWord_any (f j) w
      have HS := hide (allW_succ f j)
      cases hq : isW (f j)
      · have HF := hide (allW_false f n j hlt hq)
        rw [hq] at hw
        have HW := hide hw
        clear hw hq HS
        go_wp2_with (go_at_call 131; refine (unhide HW).mono ?_; rintro e w' ⟨rfl, rfl⟩)
        go_ret
        exact ⟨ret_bool HF.out.symm, rfl⟩
      · rw [hq] at hw HS
        have HW := hide hw
        clear hw hq
        go_wp2_with (go_at_call 131; refine (unhide HW).mono ?_; rintro e w' ⟨rfl, rfl⟩)
        go_round
        case rel => exact ⟨j + 1, by omega, by go_num, by rw [HS.out, HJ.out]; rfl⟩
        case measure => simp [intOf]; omega
    · have hjn : j = n := by omega
      subst hjn
      go_wp2
      go_ret
      exact ⟨ret_bool HJ.out.symm, rfl⟩

theorem st_regs {z : List Int} (h : allW (fun i => gz z i) 8 = false) : stB z = false := by have h' : regsB z = false := h; simp [stB, h']
theorem st_mem {z : List Int} (h : allW (fun i => gz z (8 + i)) 128 = false) : stB z = false := by have h' : memB z = false := h; simp [stB, h']
theorem ofPc {z : List Int} (hr : regsB z = true) (hm : memB z = true) (b : Bool) (h : b = pcB z) : b = stB z := by simp [stB, hr, hm, h]

set_option maxHeartbeats 1000000 in
theorem isState_any (z : List Int) (w : World) (hl : z.length = 138) :
    Calls Tryd.prog 118 #[.agg (S z)] w fun e' w' => e' = .returned (.bool (stB z)) ∧ Below w.heap.size w w' := by
  have hx : ∀ i, i < 138 → (S z)[i]? = some (.int .i64 (gz z i)) := fun i hi => S_get z i (by omega)
  have h136 := hx 136 (by omega)
  have h137 := hx 137 (by omega)
  have hcell : ∀ i, i < 138 → (w.alloc (.cells (S z) 34)).cell? ⟨w.heap.size, i, none⟩ = some (.int .i64 (gz z i)) := fun i hi => by
    rw [World.cell?_alloc_at (hn := rfl)]; exact hx i hi
  have H1 := hide (areWords_any w.heap.size 0 8 (fun i => gz z i) (w.alloc (.cells (S z) 34)) (by omega) (fun i hi => by rw [Nat.zero_add]; exact hcell i (by omega)))
  have H2 := hide (areWords_any w.heap.size 8 128 (fun i => gz z (8 + i)) (w.alloc (.cells (S z) 34)) (by omega) (fun i hi => hcell (8 + i) (by omega)))
  have hb : Below w.heap.size w (w.alloc (.cells (S z) 34)) := (Below.refl _ _).alloc (Nat.le_refl _) _
  have HB := hide hb
  clear hx hcell hb
  cases hr : regsB z
  · have HF : Hid (stB z = false) := by simp [Hid, stB, hr]
    have e1 : allW (fun i => gz z i) 8 = false := hr
    rw [e1] at H1
    clear hr e1 H2
    go_enter Tryd.func118, Tryd.ntmps118
    go_wp2_with fail
    refine (unhide H1).mono ?_
    rintro e w' ⟨rfl, rfl⟩
    go_wp2
    go_ret
    exact ⟨ret_bool HF.out.symm, HB.out⟩
  · have e1 : allW (fun i => gz z i) 8 = true := hr
    rw [e1] at H1
    clear e1
    cases hm : memB z
    · have HF : Hid (stB z = false) := by simp [Hid, stB, hm]
      have e2 : allW (fun i => gz z (8 + i)) 128 = false := hm
      rw [e2] at H2
      clear hm hr e2
      go_enter Tryd.func118, Tryd.ntmps118
      go_wp2_with fail
      refine (unhide H1).mono ?_
      rintro e w' ⟨rfl, rfl⟩
      go_wp2_with fail
      refine (unhide H2).mono ?_
      rintro e w' ⟨rfl, rfl⟩
      go_wp2
      go_ret
      exact ⟨ret_bool HF.out.symm, HB.out⟩
    · have HF := hide (ofPc hr hm)
      have e2 : allW (fun i => gz z (8 + i)) 128 = true := hm
      rw [e2] at H2
      clear hm hr e2
      go_enter Tryd.func118, Tryd.ntmps118
      go_wp2_with fail
      refine (unhide H1).mono ?_
      rintro e w' ⟨rfl, rfl⟩
      go_wp2_with fail
      refine (unhide H2).mono ?_
      rintro e w' ⟨rfl, rfl⟩
      go_wp2
      all_goals
        go_ret
        refine ⟨ret_bool (HF.out _ ?_), HB.out⟩
        go_light
        clear H1 H2 HB HF h136 h137
        unfold pcB
        first | (symm; rw [decide_eq_true_eq]; omega) | (symm; rw [decide_eq_false_iff_not]; omega) | (rw [decide_eq_decide]; omega)

set_option maxRecDepth 100000 in
set_option maxHeartbeats 1000000 in
theorem right_any (z : List Int) (w : World) (hl : z.length = 138) :
    Calls Tryd.prog 77 #[.agg (S z)] w fun e' w' => e' = .returned (.bool (stB z)) ∧ Below w.heap.size w w' := by
  have hx : ∀ i, i < 138 → (S z)[i]? = some (.int .i64 (gz z i)) := fun i hi => S_get z i (by omega)
  have h136 := hx 136 (by omega)
  have h137 := hx 137 (by omega)
  have HX := hide hx
  have HB : Hid (Below w.heap.size w (w.alloc (.cells (S z) 34))) := (Below.refl _ _).alloc (Nat.le_refl _) _
  clear hx
  go_enter Tryd.func77, Tryd.ntmps77
  go_wp2
  go_loop [3] (fun i => ∃ j : Nat, j ≤ 8 ∧ i = .int .i64 j ∧ Hid (allW (fun i => gz z i) j = true)) (fun i => 8 - (intOf i).toNat)
  case atStart => exact ⟨0, Nat.zero_le _, rfl, allW_zero _⟩
  case round =>
    obtain ⟨j, hj, rfl, HJ⟩ := hrel
    by_cases hlt : j < 8
    · have hcj := unhide HX (j) (by omega)
      by_cases hq : isW (gz z (j)) = true
      · obtain ⟨q0, q1⟩ := (isW_iff _).1 hq
        have HN : Hid (allW (fun i => gz z i) (j + 1) = true) := by rw [Hid, allW_succ, HJ.out]; exact hq
        clear hq
        go_wp2
        go_round
        case rel => exact ⟨j + 1, by omega, by go_num, HN⟩
        case measure => simp [intOf]; omega
      · have HF : Hid (stB z = false) := st_regs (allW_false (fun i => gz z i) 8 j hlt (by simpa using hq))
        have hq' : gz z (j) < 0 ∨ 4294967296 ≤ gz z (j) := by
          rw [isW_iff] at hq; omega
        clear hq
        rcases hq' with hq' | hq'
        · go_wp2
          go_ret
          exact ⟨ret_bool HF.out.symm, HB.out⟩
        · have hq2 : 0 ≤ gz z (j) := by omega
          go_wp2
          go_ret
          exact ⟨ret_bool HF.out.symm, HB.out⟩
    · have hjn : j = 8 := by omega
      subst hjn
      have HR : Hid (regsB z = true) := HJ
      clear HJ hlt hj
      go_wp2
      go_loop [4] (fun i => ∃ j : Nat, j ≤ 128 ∧ i = .int .i64 j ∧ Hid (allW (fun i => gz z (8 + i)) j = true)) (fun i => 128 - (intOf i).toNat)
      case atStart => exact ⟨0, Nat.zero_le _, rfl, allW_zero _⟩
      case round =>
        obtain ⟨j, hj, rfl, HJ⟩ := hrel
        by_cases hlt : j < 128
        · have hcj := unhide HX (8 + j) (by omega)
          by_cases hq : isW (gz z (8 + j)) = true
          · obtain ⟨q0, q1⟩ := (isW_iff _).1 hq
            have HN : Hid (allW (fun i => gz z (8 + i)) (j + 1) = true) := by rw [Hid, allW_succ, HJ.out]; exact hq
            clear hq
            go_wp2
            go_round
            case rel => exact ⟨j + 1, by omega, by go_num, HN⟩
            case measure => simp [intOf]; omega
          · have HF : Hid (stB z = false) := st_mem (allW_false (fun i => gz z (8 + i)) 128 j hlt (by simpa using hq))
            have hq' : gz z (8 + j) < 0 ∨ 4294967296 ≤ gz z (8 + j) := by
              rw [isW_iff] at hq; omega
            clear hq
            rcases hq' with hq' | hq'
            · go_wp2
              go_ret
              exact ⟨ret_bool HF.out.symm, HB.out⟩
            · have hq2 : 0 ≤ gz z (8 + j) := by omega
              go_wp2
              go_ret
              exact ⟨ret_bool HF.out.symm, HB.out⟩
        · have hjn : j = 128 := by omega
          subst hjn
          have HM := hide (ofPc HR.out (show memB z = true from HJ.out))
          clear HJ hlt hj HR
          go_wp2
          all_goals
            go_ret
            refine ⟨ret_bool (HM.out _ ?_), HB.out⟩
            go_light
            clear HM HB h136 h137 HX
            unfold pcB
            first | (symm; rw [decide_eq_true_eq]; omega) | (symm; rw [decide_eq_false_iff_not]; omega) | (rw [decide_eq_decide]; omega)
end Go.Proofs.YtmmflekajbeamaaDoor
