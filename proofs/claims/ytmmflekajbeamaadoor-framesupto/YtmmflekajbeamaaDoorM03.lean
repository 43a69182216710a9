/-
  The functions that ask whether a state is one: package machine's and the document's.
  The table of instructions, looked through by OP: ByOp, strings.Count at the letter r, IsInstruction.
-/
import Derived.Test.YtmmflekajbeamaaDoorM02
import Derived.Lib.Bytealg
import Derived.Deep.QuietTactic
import Derived.BigQuiet
namespace Go.Proofs.YtmmflekajbeamaaDoor
open Go.RowKit

set_option maxHeartbeats 400000 in
theorem areWords_any (b off n : Nat) (f : Nat → Int) (w : World) (hn : n ≤ 128) (hc : ∀ i, i < n → w.cell? ⟨b, off + i, none⟩ = some (.int .i64 (f i))) :
    Calls Tryd.prog 95 #[.slice (some ⟨b, off, none⟩) n n] w fun e' w' => e' = .returned (.bool (allW f n)) ∧ w' = w := by
  have HC := hide hc
  clear hc
  go_enter Tryd.func95, Tryd.ntmps95
  go_wp2
  go_loop [7] (fun i => ∃ j : Nat, j ≤ n ∧ i = .int .i64 j ∧ Hid (allW f j = true)) (fun i => n - (intOf i).toNat)
  case atStart => exact ⟨0, Nat.zero_le _, rfl, allW_zero f⟩
  case round =>
    obtain ⟨j, hj, rfl, HJ⟩ := hrel
    by_cases hlt : j < n
    · have hcj := unhide HC j hlt
      have hw := isWord_any (f j) w
      have HS := hide (allW_succ f j)
      cases hq : isW (f j)
      · have HF := hide (allW_false f n j hlt hq)
        rw [hq] at hw
        have HW := hide hw
        clear hw hq HS
        go_wp2_with (go_at_call 131; refine (unhide HW).mono ?_; rintro e w' ⟨rfl, rfl⟩)
        go_ret
        exact ⟨ret_bool HF.out.symm, rfl⟩
      · rw [hq] at hw HS
        have HW := hide hw
        clear hw hq
        go_wp2_with (go_at_call 131; refine (unhide HW).mono ?_; rintro e w' ⟨rfl, rfl⟩)
        go_round
        case rel => exact ⟨j + 1, by omega, by go_num, by rw [HS.out, HJ.out]; rfl⟩
        case measure => simp [intOf]; omega
    · have hjn : j = n := by omega
      subst hjn
      go_wp2
      go_ret
      exact ⟨ret_bool HJ.out.symm, rfl⟩

theorem st_regs {z : List Int} (h : allW (fun i => gz z i) 8 = false) : stB z = false := by have h' : regsB z = false := h; simp [stB, h']
theorem st_mem {z : List Int} (h : allW (fun i => gz z (8 + i)) 128 = false) : stB z = false := by have h' : memB z = false := h; simp [stB, h']
theorem ofPc {z : List Int} (hr : regsB z = true) (hm : memB z = true) (b : Bool) (h : b = pcB z) : b = stB z := by simp [stB, hr, hm, h]

set_option maxHeartbeats 1000000 in
theorem isState_any (z : List Int) (w : World) (hl : z.length = 138) :
    Calls Tryd.prog 118 #[.agg (S z)] w fun e' w' => e' = .returned (.bool (stB z)) ∧ Below w.heap.size w w' := by
  have hx : ∀ i, i < 138 → (S z)[i]? = some (.int .i64 (gz z i)) := fun i hi => S_get z i (by omega)
  have h136 := hx 136 (by omega)
  have h137 := hx 137 (by omega)
  have hcell : ∀ i, i < 138 → (w.alloc (.cells (S z) 34)).cell? ⟨w.heap.size, i, none⟩ = some (.int .i64 (gz z i)) := fun i hi => by
    rw [World.cell?_alloc_at (hn := rfl)]; exact hx i hi
  have H1 := hide (areWords_any w.heap.size 0 8 (fun i => gz z i) (w.alloc (.cells (S z) 34)) (by omega) (fun i hi => by rw [Nat.zero_add]; exact hcell i (by omega)))
  have H2 := hide (areWords_any w.heap.size 8 128 (fun i => gz z (8 + i)) (w.alloc (.cells (S z) 34)) (by omega) (fun i hi => hcell (8 + i) (by omega)))
  have hb : Below w.heap.size w (w.alloc (.cells (S z) 34)) := (Below.refl _ _).alloc (Nat.le_refl _) _
  have HB := hide hb
  clear hx hcell hb
  cases hr : regsB z
  · have HF : Hid (stB z = false) := by simp [Hid, stB, hr]
    have e1 : allW (fun i => gz z i) 8 = false := hr
    rw [e1] at H1
    clear hr e1 H2
    go_enter Tryd.func118, Tryd.ntmps118
    go_wp2_with fail
    refine (unhide H1).mono ?_
    rintro e w' ⟨rfl, rfl⟩
    go_wp2
    go_ret
    exact ⟨ret_bool HF.out.symm, HB.out⟩
  · have e1 : allW (fun i => gz z i) 8 = true := hr
    rw [e1] at H1
    clear e1
    cases hm : memB z
    · have HF : Hid (stB z = false) := by simp [Hid, stB, hm]
      have e2 : allW (fun i => gz z (8 + i)) 128 = false := hm
      rw [e2] at H2
      clear hm hr e2
      go_enter Tryd.func118, Tryd.ntmps118
      go_wp2_with fail
      refine (unhide H1).mono ?_
      rintro e w' ⟨rfl, rfl⟩
      go_wp2_with fail
      refine (unhide H2).mono ?_
      rintro e w' ⟨rfl, rfl⟩
      go_wp2
      go_ret
      exact ⟨ret_bool HF.out.symm, HB.out⟩
    · have HF := hide (ofPc hr hm)
      have e2 : allW (fun i => gz z (8 + i)) 128 = true := hm
      rw [e2] at H2
      clear hm hr e2
      go_enter Tryd.func118, Tryd.ntmps118
      go_wp2_with fail
      refine (unhide H1).mono ?_
      rintro e w' ⟨rfl, rfl⟩
      go_wp2_with fail
      refine (unhide H2).mono ?_
      rintro e w' ⟨rfl, rfl⟩
      go_wp2
      all_goals
        go_ret
        refine ⟨ret_bool (HF.out _ ?_), HB.out⟩
        go_light
        clear H1 H2 HB HF h136 h137
        unfold pcB
        first | (symm; rw [decide_eq_true_eq]; omega) | (symm; rw [decide_eq_false_iff_not]; omega) | (rw [decide_eq_decide]; omega)

set_option maxRecDepth 100000 in
set_option maxHeartbeats 1000000 in
theorem right_any (z : List Int) (w : World) (hl : z.length = 138) :
    Calls Tryd.prog 77 #[.agg (S z)] w fun e' w' => e' = .returned (.bool (stB z)) ∧ Below w.heap.size w w' := by
  have hx : ∀ i, i < 138 → (S z)[i]? = some (.int .i64 (gz z i)) := fun i hi => S_get z i (by omega)
  have h136 := hx 136 (by omega)
  have h137 := hx 137 (by omega)
  have HX := hide hx
  have HB : Hid (Below w.heap.size w (w.alloc (.cells (S z) 34))) := (Below.refl _ _).alloc (Nat.le_refl _) _
  clear hx
  go_enter Tryd.func77, Tryd.ntmps77
  go_wp2
  go_loop [3] (fun i => ∃ j : Nat, j ≤ 8 ∧ i = .int .i64 j ∧ Hid (allW (fun i => gz z i) j = true)) (fun i => 8 - (intOf i).toNat)
  case atStart => exact ⟨0, Nat.zero_le _, rfl, allW_zero _⟩
  case round =>
    obtain ⟨j, hj, rfl, HJ⟩ := hrel
    by_cases hlt : j < 8
    · have hcj := unhide HX (j) (by omega)
      by_cases hq : isW (gz z (j)) = true
      · obtain ⟨q0, q1⟩ := (isW_iff _).1 hq
        have HN : Hid (allW (fun i => gz z i) (j + 1) = true) := by rw [Hid, allW_succ, HJ.out]; exact hq
        clear hq
        go_wp2
        go_round
        case rel => exact ⟨j + 1, by omega, by go_num, HN⟩
        case measure => simp [intOf]; omega
      · have HF : Hid (stB z = false) := st_regs (allW_false (fun i => gz z i) 8 j hlt (by simpa using hq))
        have hq' : gz z (j) < 0 ∨ 4294967296 ≤ gz z (j) := by
          rw [isW_iff] at hq; omega
        clear hq
        rcases hq' with hq' | hq'
        · go_wp2
          go_ret
          exact ⟨ret_bool HF.out.symm, HB.out⟩
        · have hq2 : 0 ≤ gz z (j) := by omega
          go_wp2
          go_ret
          exact ⟨ret_bool HF.out.symm, HB.out⟩
    · have hjn : j = 8 := by omega
      subst hjn
      have HR : Hid (regsB z = true) := HJ
      clear HJ hlt hj
      go_wp2
      go_loop [4] (fun i => ∃ j : Nat, j ≤ 128 ∧ i = .int .i64 j ∧ Hid (allW (fun i => gz z (8 + i)) j = true)) (fun i => 128 - (intOf i).toNat)
      case atStart => exact ⟨0, Nat.zero_le _, rfl, allW_zero _⟩
      case round =>
        obtain ⟨j, hj, rfl, HJ⟩ := hrel
        by_cases hlt : j < 128
        · have hcj := unhide HX (8 + j) (by omega)
          by_cases hq : isW (gz z (8 + j)) = true
          · obtain ⟨q0, q1⟩ := (isW_iff _).1 hq
            have HN : Hid (allW (fun i => gz z (8 + i)) (j + 1) = true) := by rw [Hid, allW_succ, HJ.out]; exact hq
            clear hq
            go_wp2
            go_round
            case rel => exact ⟨j + 1, by omega, by go_num, HN⟩
            case measure => simp [intOf]; omega
          · have HF : Hid (stB z = false) := st_mem (allW_false (fun i => gz z (8 + i)) 128 j hlt (by simpa using hq))
            have hq' : gz z (8 + j) < 0 ∨ 4294967296 ≤ gz z (8 + j) := by
              rw [isW_iff] at hq; omega
            clear hq
            rcases hq' with hq' | hq'
            · go_wp2
              go_ret
              exact ⟨ret_bool HF.out.symm, HB.out⟩
            · have hq2 : 0 ≤ gz z (8 + j) := by omega
              go_wp2
              go_ret
              exact ⟨ret_bool HF.out.symm, HB.out⟩
        · have hjn : j = 128 := by omega
          subst hjn
          have HM := hide (ofPc HR.out (show memB z = true from HJ.out))
          clear HJ hlt hj HR
          go_wp2
          all_goals
            go_ret
            refine ⟨ret_bool (HM.out _ ?_), HB.out⟩
            go_light
            clear HM HB h136 h137 HX
            unfold pcB
            first | (symm; rw [decide_eq_true_eq]; omega) | (symm; rw [decide_eq_false_iff_not]; omega) | (rw [decide_eq_decide]; omega)
end Go.Proofs.YtmmflekajbeamaaDoor

namespace Go.Proofs.YtmmflekajbeamaaDoor
open Go.RowKit

/-- A row of the table of instructions: its name's bytes, its OP, its parts' bytes. -/
def rowNm : Nat → List UInt8
  | 0 => [104, 97, 108, 116] | 1 => [115, 101, 116] | 2 => [97, 100, 100] | 3 => [115, 117, 98] | 4 => [120, 111, 114] | 5 => [109, 117, 108]
  | 6 => [108, 111, 97, 100] | 7 => [115, 116, 111, 114, 101] | 8 => [115, 97, 109, 101] | 9 => [106, 117, 109, 112] | 10 => [116, 117, 114, 110] | 11 => [119, 111, 114, 100]
  | _ => []
def rowOp : Nat → Int
  | 0 => 0 | 1 => 1 | 2 => 2 | 3 => 3 | 4 => 4 | 5 => 5 | 6 => 6 | 7 => 7 | 8 => 8 | 9 => 9 | 10 => 10 | 11 => -1 | _ => 0
def rowPt : Nat → List UInt8
  | 0 => [] | 1 => [114, 110] | 2 => [114, 114, 114] | 3 => [114, 114, 114] | 4 => [114, 114, 114] | 5 => [114, 114, 114]
  | 6 => [114, 114, 110] | 7 => [114, 114, 110] | 8 => [114, 114, 110] | 9 => [110] | 10 => [114] | 11 => [118] | _ => []
def rowV (j : Nat) : Array Value := #[.string ⟨(rowNm j).toArray⟩, .int .i64 (rowOp j), .string ⟨(rowPt j).toArray⟩]
/-- The table, cell by cell. -/
def tabA : Array Value := ((List.range 12).flatMap fun j => (rowV j).toList).toArray
/-- The variable holds the table. -/
def Tab (w : World) : Prop := ∃ t fr, w.heap[0]? = some (.cells tabA t fr)
theorem Tab.below {w w' : World} (h : Tab w) {B : Nat} (hB : 0 < B) (hb : Below B w w') : Tab w' := by
  obtain ⟨t, fr, h⟩ := h
  exact ⟨t, fr, by rw [hb.block _ hB]; exact h⟩
theorem Tab.pos {w : World} (h : Tab w) : 0 < w.heap.size := by
  obtain ⟨t, fr, h⟩ := h
  exact (Array.getElem?_eq_some_iff.1 h).1

theorem index_tab0 (w : World) : (Instr.index 220 (.agg tabA) (.int .i64 0)).run Tryd.prog w = .ok (.agg (rowV 0)) w := by kernel_rfl
theorem index_tab1 (w : World) : (Instr.index 220 (.agg tabA) (.int .i64 1)).run Tryd.prog w = .ok (.agg (rowV 1)) w := by kernel_rfl
theorem index_tab2 (w : World) : (Instr.index 220 (.agg tabA) (.int .i64 2)).run Tryd.prog w = .ok (.agg (rowV 2)) w := by kernel_rfl
theorem index_tab3 (w : World) : (Instr.index 220 (.agg tabA) (.int .i64 3)).run Tryd.prog w = .ok (.agg (rowV 3)) w := by kernel_rfl
theorem index_tab4 (w : World) : (Instr.index 220 (.agg tabA) (.int .i64 4)).run Tryd.prog w = .ok (.agg (rowV 4)) w := by kernel_rfl
theorem index_tab5 (w : World) : (Instr.index 220 (.agg tabA) (.int .i64 5)).run Tryd.prog w = .ok (.agg (rowV 5)) w := by kernel_rfl
theorem index_tab6 (w : World) : (Instr.index 220 (.agg tabA) (.int .i64 6)).run Tryd.prog w = .ok (.agg (rowV 6)) w := by kernel_rfl
theorem index_tab7 (w : World) : (Instr.index 220 (.agg tabA) (.int .i64 7)).run Tryd.prog w = .ok (.agg (rowV 7)) w := by kernel_rfl
theorem index_tab8 (w : World) : (Instr.index 220 (.agg tabA) (.int .i64 8)).run Tryd.prog w = .ok (.agg (rowV 8)) w := by kernel_rfl
theorem index_tab9 (w : World) : (Instr.index 220 (.agg tabA) (.int .i64 9)).run Tryd.prog w = .ok (.agg (rowV 9)) w := by kernel_rfl
theorem index_tab10 (w : World) : (Instr.index 220 (.agg tabA) (.int .i64 10)).run Tryd.prog w = .ok (.agg (rowV 10)) w := by kernel_rfl
theorem index_tab11 (w : World) : (Instr.index 220 (.agg tabA) (.int .i64 11)).run Tryd.prog w = .ok (.agg (rowV 11)) w := by kernel_rfl
theorem index_tab (j : Nat) (hj : j < 12) (w : World) : (Instr.index 220 (.agg tabA) (.int .i64 j)).run Tryd.prog w = .ok (.agg (rowV j)) w := by
  have h : j = 0 ∨ j = 1 ∨ j = 2 ∨ j = 3 ∨ j = 4 ∨ j = 5 ∨ j = 6 ∨ j = 7 ∨ j = 8 ∨ j = 9 ∨ j = 10 ∨ j = 11 := by omega
  rcases h with rfl | rfl | rfl | rfl | rfl | rfl | rfl | rfl | rfl | rfl | rfl | rfl
  · exact index_tab0 w
  · exact index_tab1 w
  · exact index_tab2 w
  · exact index_tab3 w
  · exact index_tab4 w
  · exact index_tab5 w
  · exact index_tab6 w
  · exact index_tab7 w
  · exact index_tab8 w
  · exact index_tab9 w
  · exact index_tab10 w
  · exact index_tab11 w

set_option maxRecDepth 100000 in
set_option maxHeartbeats 400000 in
theorem count_any (s : ByteArray) (w : World) :
    Calls Tryd.prog 152 #[.string s, .string ⟨#[114]⟩] w fun e' w' => e' = .returned (.int .i64 (Lib.countByte s.data.toList 114)) ∧ w' = w := by
  go_enter Tryd.func152, Tryd.ntmps152
  go_wp2
  rw [run_callFunc_extern Tryd.func169 (by kernel_rfl) (by kernel_rfl) (by kernel_rfl) (e := Extern.BytealgCount.count) (by kernel_rfl), Lib.run_countString]
  simp only [Result.andThen]
  rw [Oper.upon_value]
  go_wp2
  go_ret
  exact ⟨rfl, rfl⟩

def zeroRow : Array Value := #[.string ⟨#[]⟩, .int .i64 0, .string ⟨#[]⟩]

theorem rowOp_lt (j : Nat) (h : j < 11) : rowOp j = j := by
  have h' : j = 0 ∨ j = 1 ∨ j = 2 ∨ j = 3 ∨ j = 4 ∨ j = 5 ∨ j = 6 ∨ j = 7 ∨ j = 8 ∨ j = 9 ∨ j = 10 := by omega
  rcases h' with rfl | rfl | rfl | rfl | rfl | rfl | rfl | rfl | rfl | rfl | rfl <;> rfl

set_option maxRecDepth 100000 in
set_option maxHeartbeats 1000000 in
theorem byOp_yes (n : Nat) (w : World) (h0 : n ≤ 10) (ht : Tab w) :
    Calls Tryd.prog 151 #[.int .i64 n] w fun e' w' => e' = .returned (.tuple #[.agg (rowV n), .bool true]) ∧ Below w.heap.size w w' := by
  have hpos := ht.pos
  obtain ⟨tt, fr, hT⟩ := ht
  have HT : Hid (∀ o, (w.alloc o).heap[0]? = some (.cells tabA tt fr)) := fun o => by rw [Below.heap_alloc w o _ hpos]; exact hT
  clear hT
  go_enter Tryd.func151, Tryd.ntmps151
  go_wp2_with (refine wpList_load_row rfl 220 _ rfl 0 rfl tt _ fr _ (HT.out _) Tryd.underlying220 rfl (by kernel_rfl) ?_)
  have H0 : Hid (Below (w.heap.size + 1) (w.alloc (.cells zeroRow 198)) (w.alloc (.cells zeroRow 198))) := Below.refl _ _
  go_loopw [7] (fun i wr => ∃ j : Nat, j ≤ n ∧ i = .int .i64 j ∧ Below (w.heap.size + 1) (w.alloc (.cells zeroRow 198)) wr) (fun i _ => n - (intOf i).toNat)
  case atStart => exact ⟨0, Nat.zero_le _, rfl, Below.refl _ _⟩
  case round =>
    obtain ⟨j, hj, rfl, hbw⟩ := hrel
    have hix := index_tab j (by omega)
    have e1 : rowOp j = j := rowOp_lt j (by omega)
    have ER : Hid (rowV j = #[.string ⟨(rowNm j).toArray⟩, .int .i64 j, .string ⟨(rowPt j).toArray⟩]) := by rw [Hid, rowV, e1]
    rw [ER.out] at hix
    clear e1
    have c0 : wr.cell? ⟨w.heap.size, 0, none⟩ = some (.string ⟨#[]⟩) := by rw [hbw.cell (p := ⟨w.heap.size, 0, none⟩) (by simp), World.cell?_alloc_at (hn := rfl)]; rfl
    have c1 : wr.cell? ⟨w.heap.size, 1, none⟩ = some (.int .i64 0) := by rw [hbw.cell (p := ⟨w.heap.size, 1, none⟩) (by simp), World.cell?_alloc_at (hn := rfl)]; rfl
    have c2 : wr.cell? ⟨w.heap.size, 2, none⟩ = some (.string ⟨#[]⟩) := by rw [hbw.cell (p := ⟨w.heap.size, 2, none⟩) (by simp), World.cell?_alloc_at (hn := rfl)]; rfl
    have fz : ∀ i, wr.frozen? ⟨w.heap.size, i, none⟩ = false := fun i => by rw [hbw.frozen (p := ⟨w.heap.size, i, none⟩) (by simp), World.frozen?_alloc_at (hn := rfl)]
    have hz : w.heap.size < wr.heap.size := by have := hbw.size; simp at this; omega
    have HB := hide hbw
    clear hbw
    by_cases hjn : j = n
    · subst hjn
      have hlt : (j : Int) < 12 := by omega
      go_wp2
      refine bodyPost_ret (v := .tuple #[.agg #[.string ⟨(rowNm j).toArray⟩, .int .i64 j, .string ⟨(rowPt j).toArray⟩], .bool true]) (by simp [results, Tryd.results151, go_sem, hz, c0, c1, c2]) rfl ⟨by rw [ER.out], ?_⟩
      exact (((((((Below.refl _ _).alloc (Nat.le_refl _) _).trans (HB.out.mono (by omega))).setCell (Nat.le_refl _) _).setCell (Nat.le_refl _) _).setCell (Nat.le_refl _) _).alloc (by simp; omega) _)
    · have hne : ((j : Int) == (n : Int)) = false := by simp; omega
      have hlt : (j : Int) < 12 := by omega
      go_wp2
      go_roundw
      case rel => exact ⟨j + 1, by omega, by go_num, HB.out.alloc (by omega) _⟩
      case measure => simp [intOf]; omega

set_option maxRecDepth 100000 in
set_option maxHeartbeats 1000000 in
theorem byOp_no (n : Int) (w : World) (h0 : 10 < n) (ht : Tab w) :
    Calls Tryd.prog 151 #[.int .i64 n] w fun e' w' => e' = .returned (.tuple #[.agg zeroRow, .bool false]) ∧ Below w.heap.size w w' := by
  have hpos := ht.pos
  obtain ⟨tt, fr, hT⟩ := ht
  have HT : Hid (∀ o, (w.alloc o).heap[0]? = some (.cells tabA tt fr)) := fun o => by rw [Below.heap_alloc w o _ hpos]; exact hT
  clear hT
  go_enter Tryd.func151, Tryd.ntmps151
  go_wp2_with (refine wpList_load_row rfl 220 _ rfl 0 rfl tt _ fr _ (HT.out _) Tryd.underlying220 rfl (by kernel_rfl) ?_)
  go_loopw [7] (fun i wr => ∃ j : Nat, j ≤ 12 ∧ i = .int .i64 j ∧ Below (w.heap.size + 1) (w.alloc (.cells zeroRow 198)) wr) (fun i _ => 12 - (intOf i).toNat)
  case atStart => exact ⟨0, Nat.zero_le _, rfl, Below.refl _ _⟩
  case round =>
    obtain ⟨j, hj, rfl, hbw⟩ := hrel
    have c0 : wr.cell? ⟨w.heap.size, 0, none⟩ = some (.string ⟨#[]⟩) := by rw [hbw.cell (p := ⟨w.heap.size, 0, none⟩) (by simp), World.cell?_alloc_at (hn := rfl)]; rfl
    have c1 : wr.cell? ⟨w.heap.size, 1, none⟩ = some (.int .i64 0) := by rw [hbw.cell (p := ⟨w.heap.size, 1, none⟩) (by simp), World.cell?_alloc_at (hn := rfl)]; rfl
    have c2 : wr.cell? ⟨w.heap.size, 2, none⟩ = some (.string ⟨#[]⟩) := by rw [hbw.cell (p := ⟨w.heap.size, 2, none⟩) (by simp), World.cell?_alloc_at (hn := rfl)]; rfl
    have fz : ∀ i, wr.frozen? ⟨w.heap.size, i, none⟩ = false := fun i => by rw [hbw.frozen (p := ⟨w.heap.size, i, none⟩) (by simp), World.frozen?_alloc_at (hn := rfl)]
    have hz : w.heap.size < wr.heap.size := by have := hbw.size; simp at this; omega
    have HB := hide hbw
    clear hbw
    by_cases hjn : j < 12
    · have hix := index_tab j hjn
      simp only [rowV] at hix
      have hne : (rowOp j == n) = false := by
        by_cases h11 : j = 11
        · subst h11; simp [rowOp]; omega
        · rw [rowOp_lt j (by omega)]; simp; omega
      have hlt : (j : Int) < 12 := by omega
      go_wp2
      go_roundw
      case rel => exact ⟨j + 1, by omega, by go_num, HB.out.alloc (by omega) _⟩
      case measure => simp [intOf]; omega
    · have hj12 : j = 12 := by omega
      subst hj12
      go_wp2
      refine bodyPost_ret (v := .tuple #[.agg #[.string ⟨#[]⟩, .int .i64 0, .string ⟨#[]⟩], .bool false]) (by simp [results, Tryd.results151, go_sem, c0, c1, c2]) rfl ⟨rfl, ?_⟩
      exact ((((((Below.refl _ _).alloc (Nat.le_refl _) _).trans (HB.out.mono (by omega))).setCell (Nat.le_refl _) _).setCell (Nat.le_refl _) _).setCell (Nat.le_refl _) _)

/-- How many registers an instruction uses. -/
def uOf (n : Nat) : Nat := Lib.countByte (rowPt n) 114
theorem uOf_le (n : Nat) (h : n ≤ 10) : uOf n ≤ 3 := by
  have h' : n = 0 ∨ n = 1 ∨ n = 2 ∨ n = 3 ∨ n = 4 ∨ n = 5 ∨ n = 6 ∨ n = 7 ∨ n = 8 ∨ n = 9 ∨ n = 10 := by omega
  rcases h' with rfl | rfl | rfl | rfl | rfl | rfl | rfl | rfl | rfl | rfl | rfl <;> decide
def insB (u : Nat) (a b c : Int) : Bool := decide ((0 < u → a < 8) ∧ (1 < u → b < 8) ∧ (2 < u → c < 8))
theorem insB_kn (n : Nat) (a b c : Int) (h : n ≤ 10) : insB (uOf n) a b c = knB n a b c := by
  have h' : n = 0 ∨ n = 1 ∨ n = 2 ∨ n = 3 ∨ n = 4 ∨ n = 5 ∨ n = 6 ∨ n = 7 ∨ n = 8 ∨ n = 9 ∨ n = 10 := by omega
  rcases h' with rfl | rfl | rfl | rfl | rfl | rfl | rfl | rfl | rfl | rfl | rfl <;> simp [insB, knB, uOf, rowPt, Lib.countByte]
theorem knB_no (op a b c : Int) (h : 10 < op) : knB op a b c = false := by
  simp [knB, show ¬ op = 0 by omega, show ¬ op = 9 by omega, show ¬ op = 1 by omega, show ¬ op = 10 by omega, show ¬ op ≤ 5 by omega, show ¬ op = 6 by omega, show ¬ op = 7 by omega, show ¬ op = 8 by omega]

def Ins3 (u : Nat) (a b c : Int) (j : Nat) : Prop := (0 < j → 0 < u → a < 8) ∧ (1 < j → 1 < u → b < 8) ∧ (2 < j → 2 < u → c < 8)
theorem index3_0 (x y v : Value) (w : World) : (Instr.index 201 (.agg #[x, y, v]) (.int .i64 0)).run Tryd.prog w = .ok x w := by kernel_rfl
theorem index3_1 (x y v : Value) (w : World) : (Instr.index 201 (.agg #[x, y, v]) (.int .i64 1)).run Tryd.prog w = .ok y w := by kernel_rfl
theorem index3_2 (x y v : Value) (w : World) : (Instr.index 201 (.agg #[x, y, v]) (.int .i64 2)).run Tryd.prog w = .ok v w := by kernel_rfl

set_option maxRecDepth 100000 in
set_option maxHeartbeats 1000000 in
theorem isIns_no (op a b c k : Int) (w : World) (h0 : 10 < op) (ht : Tab w) :
    Calls Tryd.prog 120 #[.agg #[.int .i64 op, .int .i64 a, .int .i64 b, .int .i64 c, .int .i64 k]] w fun e' w' => e' = .returned (.bool (knB op a b c)) ∧ Below w.heap.size w w' := by
  have HK := hide (knB_no op a b c h0)
  have hT : ∀ o, Tab (w.alloc o) := fun o => ht.below ht.pos ((Below.refl _ _).alloc (Nat.le_refl _) o)
  have HC := hide (fun o => byOp_no op (w.alloc o) h0 (hT o))
  clear hT
  go_enter Tryd.func120, Tryd.ntmps120
  go_wp2_with fail
  refine (unhide HC _).mono ?_
  rintro e w1 ⟨rfl, hb⟩
  have HB := hide hb
  clear hb
  simp only [zeroRow]
  go_wp2
  go_ret
  exact ⟨ret_bool HK.out.symm, (((Below.refl _ _).alloc (Nat.le_refl _) _).trans (HB.out.mono (by simp))).alloc (by have := HB.out.size; simp at this; omega) _⟩

set_option maxRecDepth 100000 in
set_option maxHeartbeats 1000000 in
theorem isIns_yes (n : Nat) (a b c k : Int) (w : World) (h0 : n ≤ 10) (ht : Tab w) :
    Calls Tryd.prog 120 #[.agg #[.int .i64 n, .int .i64 a, .int .i64 b, .int .i64 c, .int .i64 k]] w fun e' w' => e' = .returned (.bool (knB n a b c)) ∧ Below w.heap.size w w' := by
  have HK := hide (insB_kn n a b c h0)
  have hT : ∀ o, Tab (w.alloc o) := fun o => ht.below ht.pos ((Below.refl _ _).alloc (Nat.le_refl _) o)
  have HC := hide (fun o => byOp_yes n (w.alloc o) h0 (hT o))
  have hu := uOf_le n h0
  have HQ : Hid (∀ w, Calls Tryd.prog 152 #[.string ⟨(rowPt n).toArray⟩, .string ⟨#[114]⟩] w fun e' w' => e' = .returned (.int .i64 (uOf n)) ∧ w' = w) := fun w => count_any _ w
  generalize uOf n = u at *
  have i0 := index3_0; have i1 := index3_1; have i2 := index3_2
  clear hT
  go_enter Tryd.func120, Tryd.ntmps120
  go_wp2_with fail
  refine (unhide HC _).mono ?_
  rintro e w1 ⟨rfl, hb⟩
  have hz : w.heap.size < w1.heap.size := by have := hb.size; simp at this; omega
  have d0 := hb.cell (p := ⟨w.heap.size, 1, none⟩) (by simp)
  have d1 := hb.cell (p := ⟨w.heap.size, 2, none⟩) (by simp)
  have d2 := hb.cell (p := ⟨w.heap.size, 3, none⟩) (by simp)
  rw [World.cell?_alloc_at (hn := rfl)] at d0 d1 d2
  simp at d0 d1 d2
  have HB := hide hb
  clear hb
  simp only [rowV]
  go_wp2_with fail
  refine (unhide HQ _).mono ?_
  rintro e w' ⟨rfl, rfl⟩
  go_wp2_with fail
  have HE : Hid (Below w.heap.size w (w1.alloc (.cells #[.string ⟨(rowNm n).toArray⟩, .int .i64 (rowOp n), .string ⟨(rowPt n).toArray⟩] 198))) := (((Below.refl _ _).alloc (Nat.le_refl _) _).trans (HB.out.mono (by simp))).alloc (by omega) _
  go_loop [26] (fun i => ∃ j : Nat, j ≤ 3 ∧ i = .int .i64 j ∧ Hid (Ins3 u a b c j)) (fun i => 3 - (intOf i).toNat)
  case atStart => exact ⟨0, Nat.zero_le _, rfl, fun h => absurd h (by decide), fun h => absurd h (by decide), fun h => absurd h (by decide)⟩
  case round =>
    obtain ⟨j, hj, rfl, HR⟩ := hrel
    have hj' : j = 0 ∨ j = 1 ∨ j = 2 ∨ j = 3 := by omega
    clear hj
    rcases hj' with rfl | rfl | rfl | rfl
    · by_cases hlu : 0 < u
      · have hlu' : (0 : Int) < (u : Int) := by omega
        by_cases hr : a < 8
        · have HN : Hid (Ins3 u a b c 1) := ⟨fun _ _ => hr, fun _ _ => by omega, fun _ _ => by omega⟩
          go_wp2
          go_round
          case rel => exact ⟨1, by omega, rfl, HN⟩
          case measure => simp [intOf]
        · have hr' : 8 ≤ a := by omega
          have HN : Hid (insB u a b c = false) := by simp only [Hid, insB, decide_eq_false_iff_not]; omega
          clear hr
          go_wp2
          go_ret
          exact ⟨ret_bool (by rw [← HK.out, HN.out]), HE.out⟩
      · have hlu' : decide ((0 : Int) < (u : Int)) = false := by simp; omega
        have HN : Hid (Ins3 u a b c 1) := ⟨fun _ _ => by omega, fun _ _ => by omega, fun _ _ => by omega⟩
        go_wp2
        go_round
        case rel => exact ⟨1, by omega, rfl, HN⟩
        case measure => simp [intOf]
    · by_cases hlu : 1 < u
      · have hlu' : (1 : Int) < (u : Int) := by omega
        by_cases hr : b < 8
        · have HN : Hid (Ins3 u a b c 2) := ⟨fun _ _ => (HR.out).1 (by decide) (by omega), fun _ _ => hr, fun _ _ => by omega⟩
          go_wp2
          go_round
          case rel => exact ⟨2, by omega, rfl, HN⟩
          case measure => simp [intOf]
        · have hr' : 8 ≤ b := by omega
          have HN : Hid (insB u a b c = false) := by simp only [Hid, insB, decide_eq_false_iff_not]; omega
          clear hr
          go_wp2
          go_ret
          exact ⟨ret_bool (by rw [← HK.out, HN.out]), HE.out⟩
      · have hlu' : decide ((1 : Int) < (u : Int)) = false := by simp; omega
        have HN : Hid (Ins3 u a b c 2) := ⟨fun _ _ => (HR.out).1 (by decide) (by omega), fun _ _ => by omega, fun _ _ => by omega⟩
        go_wp2
        go_round
        case rel => exact ⟨2, by omega, rfl, HN⟩
        case measure => simp [intOf]
    · by_cases hlu : 2 < u
      · have hlu' : (2 : Int) < (u : Int) := by omega
        by_cases hr : c < 8
        · have HN : Hid (Ins3 u a b c 3) := ⟨fun _ _ => (HR.out).1 (by decide) (by omega), fun _ _ => (HR.out).2.1 (by decide) (by omega), fun _ _ => hr⟩
          go_wp2
          go_round
          case rel => exact ⟨3, by omega, rfl, HN⟩
          case measure => simp [intOf]
        · have hr' : 8 ≤ c := by omega
          have HN : Hid (insB u a b c = false) := by simp only [Hid, insB, decide_eq_false_iff_not]; omega
          clear hr
          go_wp2
          go_ret
          exact ⟨ret_bool (by rw [← HK.out, HN.out]), HE.out⟩
      · have hlu' : decide ((2 : Int) < (u : Int)) = false := by simp; omega
        have HN : Hid (Ins3 u a b c 3) := ⟨fun _ _ => (HR.out).1 (by decide) (by omega), fun _ _ => (HR.out).2.1 (by decide) (by omega), fun _ _ => by omega⟩
        go_wp2
        go_round
        case rel => exact ⟨3, by omega, rfl, HN⟩
        case measure => simp [intOf]
    · have HN : Hid (insB u a b c = true) := by simp only [Hid, insB, decide_eq_true_eq]; exact ⟨(HR.out).1 (by decide), (HR.out).2.1 (by decide), (HR.out).2.2 (by decide)⟩
      go_wp2
      go_ret
      exact ⟨ret_bool (by rw [← HK.out, HN.out]), HE.out⟩

theorem isIns_any (op a b c k : Int) (w : World) (h0 : 0 ≤ op) (ht : Tab w) :
    Calls Tryd.prog 120 #[.agg #[.int .i64 op, .int .i64 a, .int .i64 b, .int .i64 c, .int .i64 k]] w fun e' w' => e' = .returned (.bool (knB op a b c)) ∧ Below w.heap.size w w' := by
  by_cases h : 10 < op
  · exact isIns_no op a b c k w h ht
  · obtain ⟨n, rfl⟩ := Int.eq_ofNat_of_zero_le h0
    exact isIns_yes n a b c k w (by omega) ht
end Go.Proofs.YtmmflekajbeamaaDoor
