/-
  The table of instructions, looked through by OP: ByOp, strings.Count at the letter r, IsInstruction.
  The small functions of the assembler: registers, numbers, names, and the table of instructions looked through by name.
  THE LAW Written: its small functions: pick, digits.
  Lists of bytes as texts.
  Frames, as plain mathematics: the first frame of a text, and what the frames of an area tell.
  The document's own answer: its small functions on a token's text: a number up to a bound (digits), a register.
  The document's own answer: what an instruction is called, and its parts (form); a register.
  Names, parts of an instruction, and small texts of the library: isName, fits, Join, HasPrefix, CutSuffix.
  Small texts of the library at our arguments (HasPrefix, CutSuffix), and a word put together (Join).
  perform: an instruction done on a machine that runs.
-/
import Derived.Test.YtmmflekajbeamabGreatDoorW02
import Derived.Lib.Bytealg
import Derived.Deep.QuietTactic
import Derived.BigQuiet
import Derived.Lib.RuneCount
import Derived.Laws.IdiomStrings
import Derived.StillTailTactics
namespace Go.Proofs.YtmmflekajbeamabGreatDoor
open Go.RowKit

/-- A row of the table of instructions: its name's bytes, its OP, its parts' bytes. -/
def rowNm : Nat → List UInt8
  | 0 => [104, 97, 108, 116] | 1 => [115, 101, 116] | 2 => [97, 100, 100] | 3 => [115, 117, 98] | 4 => [120, 111, 114] | 5 => [109, 117, 108]
  | 6 => [108, 111, 97, 100] | 7 => [115, 116, 111, 114, 101] | 8 => [115, 97, 109, 101] | 9 => [106, 117, 109, 112] | 10 => [116, 117, 114, 110] | 11 => [119, 111, 114, 100]
  | _ => []
def rowOp : Nat → Int
  | 0 => 0 | 1 => 1 | 2 => 2 | 3 => 3 | 4 => 4 | 5 => 5 | 6 => 6 | 7 => 7 | 8 => 8 | 9 => 9 | 10 => 10 | 11 => -1 | _ => 0
def rowPt : Nat → List UInt8
  | 0 => [] | 1 => [114, 110] | 2 => [114, 114, 114] | 3 => [114, 114, 114] | 4 => [114, 114, 114] | 5 => [114, 114, 114]
  | 6 => [114, 114, 110] | 7 => [114, 114, 110] | 8 => [114, 114, 110] | 9 => [110] | 10 => [114] | 11 => [118] | _ => []
def rowV (j : Nat) : Array Value := #[.string ⟨(rowNm j).toArray⟩, .int .i64 (rowOp j), .string ⟨(rowPt j).toArray⟩]
/-- The table, cell by cell. -/
def tabA : Array Value := ((List.range 12).flatMap fun j => (rowV j).toList).toArray
/-- The variable holds the table. -/
def Tab (w : World) : Prop := ∃ t fr, w.heap[0]? = some (.cells tabA t fr)
theorem Tab.below {w w' : World} (h : Tab w) {B : Nat} (hB : 0 < B) (hb : Below B w w') : Tab w' := by
  obtain ⟨t, fr, h⟩ := h
  exact ⟨t, fr, by rw [hb.block _ hB]; exact h⟩
theorem Tab.pos {w : World} (h : Tab w) : 0 < w.heap.size := by
  obtain ⟨t, fr, h⟩ := h
  exact (Array.getElem?_eq_some_iff.1 h).1

theorem index_tab0 (w : World) : (Instr.index 276 (.agg tabA) (.int .i64 0)).run Tryz.prog w = .ok (.agg (rowV 0)) w := by kernel_rfl
theorem index_tab1 (w : World) : (Instr.index 276 (.agg tabA) (.int .i64 1)).run Tryz.prog w = .ok (.agg (rowV 1)) w := by kernel_rfl
theorem index_tab2 (w : World) : (Instr.index 276 (.agg tabA) (.int .i64 2)).run Tryz.prog w = .ok (.agg (rowV 2)) w := by kernel_rfl
theorem index_tab3 (w : World) : (Instr.index 276 (.agg tabA) (.int .i64 3)).run Tryz.prog w = .ok (.agg (rowV 3)) w := by kernel_rfl
theorem index_tab4 (w : World) : (Instr.index 276 (.agg tabA) (.int .i64 4)).run Tryz.prog w = .ok (.agg (rowV 4)) w := by kernel_rfl
theorem index_tab5 (w : World) : (Instr.index 276 (.agg tabA) (.int .i64 5)).run Tryz.prog w = .ok (.agg (rowV 5)) w := by kernel_rfl
theorem index_tab6 (w : World) : (Instr.index 276 (.agg tabA) (.int .i64 6)).run Tryz.prog w = .ok (.agg (rowV 6)) w := by kernel_rfl
theorem index_tab7 (w : World) : (Instr.index 276 (.agg tabA) (.int .i64 7)).run Tryz.prog w = .ok (.agg (rowV 7)) w := by kernel_rfl
theorem index_tab8 (w : World) : (Instr.index 276 (.agg tabA) (.int .i64 8)).run Tryz.prog w = .ok (.agg (rowV 8)) w := by kernel_rfl
theorem index_tab9 (w : World) : (Instr.index 276 (.agg tabA) (.int .i64 9)).run Tryz.prog w = .ok (.agg (rowV 9)) w := by kernel_rfl
theorem index_tab10 (w : World) : (Instr.index 276 (.agg tabA) (.int .i64 10)).run Tryz.prog w = .ok (.agg (rowV 10)) w := by kernel_rfl
theorem index_tab11 (w : World) : (Instr.index 276 (.agg tabA) (.int .i64 11)).run Tryz.prog w = .ok (.agg (rowV 11)) w := by kernel_rfl
theorem index_tab (j : Nat) (hj : j < 12) (w : World) : (Instr.index 276 (.agg tabA) (.int .i64 j)).run Tryz.prog w = .ok (.agg (rowV j)) w := by
  have h : j = 0 ∨ j = 1 ∨ j = 2 ∨ j = 3 ∨ j = 4 ∨ j = 5 ∨ j = 6 ∨ j = 7 ∨ j = 8 ∨ j = 9 ∨ j = 10 ∨ j = 11 := by omega
  rcases h with rfl | rfl | rfl | rfl | rfl | rfl | rfl | rfl | rfl | rfl | rfl | rfl
  · exact index_tab0 w
  · exact index_tab1 w
  · exact index_tab2 w
  · exact index_tab3 w
  · exact index_tab4 w
  · exact index_tab5 w
  · exact index_tab6 w
  · exact index_tab7 w
  · exact index_tab8 w
  · exact index_tab9 w
  · exact index_tab10 w
  · exact index_tab11 w

set_option maxRecDepth 100000 in
set_option maxHeartbeats 400000 in
theorem count_any (s : ByteArray) (w : World) :
    Calls Tryz.prog 191 #[.string s, .string ⟨#[114]⟩] w fun e' w' => e' = .returned (.int .i64 (Lib.countByte s.data.toList 114)) ∧ w' = w := by
  go_enter Tryz.func191, Tryz.ntmps191
  go_wp2
  rw [run_callFunc_extern Tryz.func225 (by kernel_rfl) (by kernel_rfl) (by kernel_rfl) (e := Extern.BytealgCount.count) (by kernel_rfl), Lib.run_countString]
  simp only [Result.andThen]
  rw [Oper.upon_value]
  go_wp2
  go_ret
  exact ⟨rfl, rfl⟩

def zeroRow : Array Value := #[.string ⟨#[]⟩, .int .i64 0, .string ⟨#[]⟩]

theorem rowOp_lt (j : Nat) (h : j < 11) : rowOp j = j := by
  have h' : j = 0 ∨ j = 1 ∨ j = 2 ∨ j = 3 ∨ j = 4 ∨ j = 5 ∨ j = 6 ∨ j = 7 ∨ j = 8 ∨ j = 9 ∨ j = 10 := by omega
  rcases h' with rfl | rfl | rfl | rfl | rfl | rfl | rfl | rfl | rfl | rfl | rfl <;> rfl

set_option maxRecDepth 100000 in
set_option maxHeartbeats 1000000 in
theorem byOp_yes (n : Nat) (w : World) (h0 : n ≤ 10) (ht : Tab w) :
    Calls Tryz.prog 190 #[.int .i64 n] w fun e' w' => e' = .returned (.tuple #[.agg (rowV n), .bool true]) ∧ Below w.heap.size w w' := by
  have hpos := ht.pos
  obtain ⟨tt, fr, hT⟩ := ht
  have HT : Hid (∀ o, (w.alloc o).heap[0]? = some (.cells tabA tt fr)) := fun o => by rw [Below.heap_alloc w o _ hpos]; exact hT
  clear hT
  go_enter Tryz.func190, Tryz.ntmps190
  go_wp2_with (refine wpList_load_row rfl 276 _ rfl 0 rfl tt _ fr _ (HT.out _) Tryz.underlying276 rfl (by kernel_rfl) ?_)
  have H0 : Hid (Below (w.heap.size + 1) (w.alloc (.cells zeroRow 254)) (w.alloc (.cells zeroRow 254))) := Below.refl _ _
  go_loopw [7] (fun i wr => ∃ j : Nat, j ≤ n ∧ i = .int .i64 j ∧ Below (w.heap.size + 1) (w.alloc (.cells zeroRow 254)) wr) (fun i _ => n - (intOf i).toNat)
  case atStart => exact ⟨0, Nat.zero_le _, rfl, Below.refl _ _⟩
  case round =>
    obtain ⟨j, hj, rfl, hbw⟩ := hrel
    have hix := index_tab j (by omega)
    have e1 : rowOp j = j := rowOp_lt j (by omega)
    have ER : Hid (rowV j = #[.string ⟨(rowNm j).toArray⟩, .int .i64 j, .string ⟨(rowPt j).toArray⟩]) := by rw [Hid, rowV, e1]
    rw [ER.out] at hix
    clear e1
    have c0 : wr.cell? ⟨w.heap.size, 0, none⟩ = some (.string ⟨#[]⟩) := by rw [hbw.cell (p := ⟨w.heap.size, 0, none⟩) (by simp), World.cell?_alloc_at (hn := rfl)]; rfl
    have c1 : wr.cell? ⟨w.heap.size, 1, none⟩ = some (.int .i64 0) := by rw [hbw.cell (p := ⟨w.heap.size, 1, none⟩) (by simp), World.cell?_alloc_at (hn := rfl)]; rfl
    have c2 : wr.cell? ⟨w.heap.size, 2, none⟩ = some (.string ⟨#[]⟩) := by rw [hbw.cell (p := ⟨w.heap.size, 2, none⟩) (by simp), World.cell?_alloc_at (hn := rfl)]; rfl
    have fz : ∀ i, wr.frozen? ⟨w.heap.size, i, none⟩ = false := fun i => by rw [hbw.frozen (p := ⟨w.heap.size, i, none⟩) (by simp), World.frozen?_alloc_at (hn := rfl)]
    have hz : w.heap.size < wr.heap.size := by have := hbw.size; simp at this; omega
    have HB := hide hbw
    clear hbw
    by_cases hjn : j = n
    · subst hjn
      have hlt : (j : Int) < 12 := by omega
      go_wp2
      refine bodyPost_ret (v := .tuple #[.agg #[.string ⟨(rowNm j).toArray⟩, .int .i64 j, .string ⟨(rowPt j).toArray⟩], .bool true]) (by simp [results, Tryz.results190, go_sem, hz, c0, c1, c2]) rfl ⟨by rw [ER.out], ?_⟩
      exact (((((((Below.refl _ _).alloc (Nat.le_refl _) _).trans (HB.out.mono (by omega))).setCell (Nat.le_refl _) _).setCell (Nat.le_refl _) _).setCell (Nat.le_refl _) _).alloc (by simp; omega) _)
    · have hne : ((j : Int) == (n : Int)) = false := by simp; omega
      have hlt : (j : Int) < 12 := by omega
      go_wp2
      go_roundw
      case rel => exact ⟨j + 1, by omega, by go_num, HB.out.alloc (by omega) _⟩
      case measure => simp [intOf]; omega

set_option maxRecDepth 100000 in
set_option maxHeartbeats 1000000 in
theorem byOp_no (n : Int) (w : World) (h0 : 10 < n) (ht : Tab w) :
    Calls Tryz.prog 190 #[.int .i64 n] w fun e' w' => e' = .returned (.tuple #[.agg zeroRow, .bool false]) ∧ Below w.heap.size w w' := by
  have hpos := ht.pos
  obtain ⟨tt, fr, hT⟩ := ht
  have HT : Hid (∀ o, (w.alloc o).heap[0]? = some (.cells tabA tt fr)) := fun o => by rw [Below.heap_alloc w o _ hpos]; exact hT
  clear hT
  go_enter Tryz.func190, Tryz.ntmps190
  go_wp2_with (refine wpList_load_row rfl 276 _ rfl 0 rfl tt _ fr _ (HT.out _) Tryz.underlying276 rfl (by kernel_rfl) ?_)
  go_loopw [7] (fun i wr => ∃ j : Nat, j ≤ 12 ∧ i = .int .i64 j ∧ Below (w.heap.size + 1) (w.alloc (.cells zeroRow 254)) wr) (fun i _ => 12 - (intOf i).toNat)
  case atStart => exact ⟨0, Nat.zero_le _, rfl, Below.refl _ _⟩
  case round =>
    obtain ⟨j, hj, rfl, hbw⟩ := hrel
    have c0 : wr.cell? ⟨w.heap.size, 0, none⟩ = some (.string ⟨#[]⟩) := by rw [hbw.cell (p := ⟨w.heap.size, 0, none⟩) (by simp), World.cell?_alloc_at (hn := rfl)]; rfl
    have c1 : wr.cell? ⟨w.heap.size, 1, none⟩ = some (.int .i64 0) := by rw [hbw.cell (p := ⟨w.heap.size, 1, none⟩) (by simp), World.cell?_alloc_at (hn := rfl)]; rfl
    have c2 : wr.cell? ⟨w.heap.size, 2, none⟩ = some (.string ⟨#[]⟩) := by rw [hbw.cell (p := ⟨w.heap.size, 2, none⟩) (by simp), World.cell?_alloc_at (hn := rfl)]; rfl
    have fz : ∀ i, wr.frozen? ⟨w.heap.size, i, none⟩ = false := fun i => by rw [hbw.frozen (p := ⟨w.heap.size, i, none⟩) (by simp), World.frozen?_alloc_at (hn := rfl)]
    have hz : w.heap.size < wr.heap.size := by have := hbw.size; simp at this; omega
    have HB := hide hbw
    clear hbw
    by_cases hjn : j < 12
    · have hix := index_tab j hjn
      simp only [rowV] at hix
      have hne : (rowOp j == n) = false := by
        by_cases h11 : j = 11
        · subst h11; simp [rowOp]; omega
        · rw [rowOp_lt j (by omega)]; simp; omega
      have hlt : (j : Int) < 12 := by omega
      go_wp2
      go_roundw
      case rel => exact ⟨j + 1, by omega, by go_num, HB.out.alloc (by omega) _⟩
      case measure => simp [intOf]; omega
    · have hj12 : j = 12 := by omega
      subst hj12
      go_wp2
      refine bodyPost_ret (v := .tuple #[.agg #[.string ⟨#[]⟩, .int .i64 0, .string ⟨#[]⟩], .bool false]) (by simp [results, Tryz.results190, go_sem, c0, c1, c2]) rfl ⟨rfl, ?_⟩
      exact ((((((Below.refl _ _).alloc (Nat.le_refl _) _).trans (HB.out.mono (by omega))).setCell (Nat.le_refl _) _).setCell (Nat.le_refl _) _).setCell (Nat.le_refl _) _)

/-- How many registers an instruction uses. -/
def uOf (n : Nat) : Nat := Lib.countByte (rowPt n) 114
theorem uOf_le (n : Nat) (h : n ≤ 10) : uOf n ≤ 3 := by
  have h' : n = 0 ∨ n = 1 ∨ n = 2 ∨ n = 3 ∨ n = 4 ∨ n = 5 ∨ n = 6 ∨ n = 7 ∨ n = 8 ∨ n = 9 ∨ n = 10 := by omega
  rcases h' with rfl | rfl | rfl | rfl | rfl | rfl | rfl | rfl | rfl | rfl | rfl <;> decide
def insB (u : Nat) (a b c : Int) : Bool := decide ((0 < u → a < 8) ∧ (1 < u → b < 8) ∧ (2 < u → c < 8))
theorem insB_kn (n : Nat) (a b c : Int) (h : n ≤ 10) : insB (uOf n) a b c = knB n a b c := by
  have h' : n = 0 ∨ n = 1 ∨ n = 2 ∨ n = 3 ∨ n = 4 ∨ n = 5 ∨ n = 6 ∨ n = 7 ∨ n = 8 ∨ n = 9 ∨ n = 10 := by omega
  rcases h' with rfl | rfl | rfl | rfl | rfl | rfl | rfl | rfl | rfl | rfl | rfl <;> simp [insB, knB, uOf, rowPt, Lib.countByte]
theorem knB_no (op a b c : Int) (h : 10 < op) : knB op a b c = false := by
  simp [knB, show ¬ op = 0 by omega, show ¬ op = 9 by omega, show ¬ op = 1 by omega, show ¬ op = 10 by omega, show ¬ op ≤ 5 by omega, show ¬ op = 6 by omega, show ¬ op = 7 by omega, show ¬ op = 8 by omega]

def Ins3 (u : Nat) (a b c : Int) (j : Nat) : Prop := (0 < j → 0 < u → a < 8) ∧ (1 < j → 1 < u → b < 8) ∧ (2 < j → 2 < u → c < 8)
theorem index3_0 (x y v : Value) (w : World) : (Instr.index 257 (.agg #[x, y, v]) (.int .i64 0)).run Tryz.prog w = .ok x w := by kernel_rfl
theorem index3_1 (x y v : Value) (w : World) : (Instr.index 257 (.agg #[x, y, v]) (.int .i64 1)).run Tryz.prog w = .ok y w := by kernel_rfl
theorem index3_2 (x y v : Value) (w : World) : (Instr.index 257 (.agg #[x, y, v]) (.int .i64 2)).run Tryz.prog w = .ok v w := by kernel_rfl

set_option maxRecDepth 100000 in
set_option maxHeartbeats 1000000 in
theorem isIns_no (op a b c k : Int) (w : World) (h0 : 10 < op) (ht : Tab w) :
    Calls Tryz.prog 143 #[.agg #[.int .i64 op, .int .i64 a, .int .i64 b, .int .i64 c, .int .i64 k]] w fun e' w' => e' = .returned (.bool (knB op a b c)) ∧ Below w.heap.size w w' := by
  have HK := hide (knB_no op a b c h0)
  have hT : ∀ o, Tab (w.alloc o) := fun o => ht.below ht.pos ((Below.refl _ _).alloc (Nat.le_refl _) o)
  have HC := hide (fun o => byOp_no op (w.alloc o) h0 (hT o))
  clear hT
  go_enter Tryz.func143, Tryz.ntmps143
  go_wp2_with fail
  refine (unhide HC _).mono ?_
  rintro e w1 ⟨rfl, hb⟩
  have HB := hide hb
  clear hb
  simp only [zeroRow]
  go_wp2
  go_ret
  exact ⟨ret_bool HK.out.symm, (((Below.refl _ _).alloc (Nat.le_refl _) _).trans (HB.out.mono (by simp))).alloc (by have := HB.out.size; simp at this; omega) _⟩

set_option maxRecDepth 100000 in
set_option maxHeartbeats 1000000 in
theorem isIns_yes (n : Nat) (a b c k : Int) (w : World) (h0 : n ≤ 10) (ht : Tab w) :
    Calls Tryz.prog 143 #[.agg #[.int .i64 n, .int .i64 a, .int .i64 b, .int .i64 c, .int .i64 k]] w fun e' w' => e' = .returned (.bool (knB n a b c)) ∧ Below w.heap.size w w' := by
  have HK := hide (insB_kn n a b c h0)
  have hT : ∀ o, Tab (w.alloc o) := fun o => ht.below ht.pos ((Below.refl _ _).alloc (Nat.le_refl _) o)
  have HC := hide (fun o => byOp_yes n (w.alloc o) h0 (hT o))
  have hu := uOf_le n h0
  have HQ : Hid (∀ w, Calls Tryz.prog 191 #[.string ⟨(rowPt n).toArray⟩, .string ⟨#[114]⟩] w fun e' w' => e' = .returned (.int .i64 (uOf n)) ∧ w' = w) := fun w => count_any _ w
  generalize uOf n = u at *
  have i0 := index3_0; have i1 := index3_1; have i2 := index3_2
  clear hT
  go_enter Tryz.func143, Tryz.ntmps143
  go_wp2_with fail
  refine (unhide HC _).mono ?_
  rintro e w1 ⟨rfl, hb⟩
  have hz : w.heap.size < w1.heap.size := by have := hb.size; simp at this; omega
  have d0 := hb.cell (p := ⟨w.heap.size, 1, none⟩) (by simp)
  have d1 := hb.cell (p := ⟨w.heap.size, 2, none⟩) (by simp)
  have d2 := hb.cell (p := ⟨w.heap.size, 3, none⟩) (by simp)
  rw [World.cell?_alloc_at (hn := rfl)] at d0 d1 d2
  simp at d0 d1 d2
  have HB := hide hb
  clear hb
  simp only [rowV]
  go_wp2_with fail
  refine (unhide HQ _).mono ?_
  rintro e w' ⟨rfl, rfl⟩
  go_wp2_with fail
  have HE : Hid (Below w.heap.size w (w1.alloc (.cells #[.string ⟨(rowNm n).toArray⟩, .int .i64 (rowOp n), .string ⟨(rowPt n).toArray⟩] 254))) := (((Below.refl _ _).alloc (Nat.le_refl _) _).trans (HB.out.mono (by simp))).alloc (by omega) _
  go_loop [26] (fun i => ∃ j : Nat, j ≤ 3 ∧ i = .int .i64 j ∧ Hid (Ins3 u a b c j)) (fun i => 3 - (intOf i).toNat)
  case atStart => exact ⟨0, Nat.zero_le _, rfl, fun h => absurd h (by decide), fun h => absurd h (by decide), fun h => absurd h (by decide)⟩
  case round =>
    obtain ⟨j, hj, rfl, HR⟩ := hrel
    have hj' : j = 0 ∨ j = 1 ∨ j = 2 ∨ j = 3 := by omega
    clear hj
    rcases hj' with rfl | rfl | rfl | rfl
    · by_cases hlu : 0 < u
      · have hlu' : (0 : Int) < (u : Int) := by omega
        by_cases hr : a < 8
        · have HN : Hid (Ins3 u a b c 1) := ⟨fun _ _ => hr, fun _ _ => by omega, fun _ _ => by omega⟩
          go_wp2
          go_round
          case rel => exact ⟨1, by omega, rfl, HN⟩
          case measure => simp [intOf]
        · have hr' : 8 ≤ a := by omega
          have HN : Hid (insB u a b c = false) := by simp only [Hid, insB, decide_eq_false_iff_not]; omega
          clear hr
          go_wp2
          go_ret
          exact ⟨ret_bool (by rw [← HK.out, HN.out]), HE.out⟩
      · have hlu' : decide ((0 : Int) < (u : Int)) = false := by simp; omega
        have HN : Hid (Ins3 u a b c 1) := ⟨fun _ _ => by omega, fun _ _ => by omega, fun _ _ => by omega⟩
        go_wp2
        go_round
        case rel => exact ⟨1, by omega, rfl, HN⟩
        case measure => simp [intOf]
    · by_cases hlu : 1 < u
      · have hlu' : (1 : Int) < (u : Int) := by omega
        by_cases hr : b < 8
        · have HN : Hid (Ins3 u a b c 2) := ⟨fun _ _ => (HR.out).1 (by decide) (by omega), fun _ _ => hr, fun _ _ => by omega⟩
          go_wp2
          go_round
          case rel => exact ⟨2, by omega, rfl, HN⟩
          case measure => simp [intOf]
        · have hr' : 8 ≤ b := by omega
          have HN : Hid (insB u a b c = false) := by simp only [Hid, insB, decide_eq_false_iff_not]; omega
          clear hr
          go_wp2
          go_ret
          exact ⟨ret_bool (by rw [← HK.out, HN.out]), HE.out⟩
      · have hlu' : decide ((1 : Int) < (u : Int)) = false := by simp; omega
        have HN : Hid (Ins3 u a b c 2) := ⟨fun _ _ => (HR.out).1 (by decide) (by omega), fun _ _ => by omega, fun _ _ => by omega⟩
        go_wp2
        go_round
        case rel => exact ⟨2, by omega, rfl, HN⟩
        case measure => simp [intOf]
    · by_cases hlu : 2 < u
      · have hlu' : (2 : Int) < (u : Int) := by omega
        by_cases hr : c < 8
        · have HN : Hid (Ins3 u a b c 3) := ⟨fun _ _ => (HR.out).1 (by decide) (by omega), fun _ _ => (HR.out).2.1 (by decide) (by omega), fun _ _ => hr⟩
          go_wp2
          go_round
          case rel => exact ⟨3, by omega, rfl, HN⟩
          case measure => simp [intOf]
        · have hr' : 8 ≤ c := by omega
          have HN : Hid (insB u a b c = false) := by simp only [Hid, insB, decide_eq_false_iff_not]; omega
          clear hr
          go_wp2
          go_ret
          exact ⟨ret_bool (by rw [← HK.out, HN.out]), HE.out⟩
      · have hlu' : decide ((2 : Int) < (u : Int)) = false := by simp; omega
        have HN : Hid (Ins3 u a b c 3) := ⟨fun _ _ => (HR.out).1 (by decide) (by omega), fun _ _ => (HR.out).2.1 (by decide) (by omega), fun _ _ => by omega⟩
        go_wp2
        go_round
        case rel => exact ⟨3, by omega, rfl, HN⟩
        case measure => simp [intOf]
    · have HN : Hid (insB u a b c = true) := by simp only [Hid, insB, decide_eq_true_eq]; exact ⟨(HR.out).1 (by decide), (HR.out).2.1 (by decide), (HR.out).2.2 (by decide)⟩
      go_wp2
      go_ret
      exact ⟨ret_bool (by rw [← HK.out, HN.out]), HE.out⟩

theorem isIns_any (op a b c k : Int) (w : World) (h0 : 0 ≤ op) (ht : Tab w) :
    Calls Tryz.prog 143 #[.agg #[.int .i64 op, .int .i64 a, .int .i64 b, .int .i64 c, .int .i64 k]] w fun e' w' => e' = .returned (.bool (knB op a b c)) ∧ Below w.heap.size w w' := by
  by_cases h : 10 < op
  · exact isIns_no op a b c k w h ht
  · obtain ⟨n, rfl⟩ := Int.eq_ofNat_of_zero_le h0
    exact isIns_yes n a b c k w (by omega) ht
end Go.Proofs.YtmmflekajbeamabGreatDoor

namespace Go.Proofs.YtmmflekajbeamabGreatDoor
open Go.RowKit

end Go.Proofs.YtmmflekajbeamabGreatDoor

namespace Go.Proofs.YtmmflekajbeamabGreatDoor
open Go.RowKit

/-- Which of n things a number speaks of. -/
def pickI (c n : Int) : Int := if c < 0 then (-(c + 1)) % n else c % n
theorem pickI_bd (c n : Int) (h : 0 < n) : 0 ≤ pickI c n ∧ pickI c n < n := by
  unfold pickI
  split
  · exact ⟨Int.emod_nonneg _ (by omega), Int.emod_lt_of_pos _ h⟩
  · exact ⟨Int.emod_nonneg _ (by omega), Int.emod_lt_of_pos _ h⟩

set_option maxRecDepth 100000 in
set_option maxHeartbeats 1000000 in
theorem pick_any (c n : Int) (w : World) (h0 : -9223372036854775808 ≤ c) (h1 : c ≤ 9223372036854775807) (hn : 0 < n) (hn1 : n ≤ 4294967296) :
    Calls Tryz.prog 14 #[.int .i64 c, .int .i64 n] w fun e' w' => e' = .returned (.int .i64 (pickI c n)) ∧ w' = w := by
  have hb := pickI_bd c n hn
  have hn0 : ¬ n = 0 := by omega
  by_cases hc : c < 0
  · have ht : (-(c + 1)).tmod n = pickI c n := by
      unfold pickI
      rw [if_pos hc, Int.tmod_eq_emod_of_nonneg (by omega)]
    generalize pickI c n = r at *
    go_enter Tryz.func14, Tryz.ntmps14
    go_wp2
    go_ret
    exact ⟨by go_num, rfl⟩
  · have ht : c.tmod n = pickI c n := by
      unfold pickI
      rw [if_neg hc, Int.tmod_eq_emod_of_nonneg (by omega)]
    generalize pickI c n = r at *
    go_enter Tryz.func14, Tryz.ntmps14
    go_wp2
    go_ret
    exact ⟨by go_num, rfl⟩
end Go.Proofs.YtmmflekajbeamabGreatDoor

namespace Go.Proofs.YtmmflekajbeamabGreatDoor
open Go.RowKit

def bya (l : List UInt8) : ByteArray := ⟨l.toArray⟩
theorem bya_size (l : List UInt8) : (bya l).size = l.length := by simp [bya, ByteArray.size]
theorem bya_app (a b : List UInt8) : bya a ++ bya b = bya (a ++ b) := by
  apply ByteArray.ext
  simp [bya]
theorem bya_list (l : List UInt8) : (bya l).data.toList = l := by simp [bya]
end Go.Proofs.YtmmflekajbeamabGreatDoor

namespace Go.Proofs.YtmmflekajbeamabGreatDoor

/-- A text's bytes, as a list. -/
def lst (s : ByteArray) : List UInt8 := s.data.toList
theorem lst_len (s : ByteArray) : (lst s).length = s.size := by unfold lst; rw [Array.length_toList]; rfl
theorem bya_lst (s : ByteArray) : bya (lst s) = s := by simp [bya, lst]
theorem lst_bya (l : List UInt8) : lst (bya l) = l := by simp [bya, lst]
/-- How long the first frame's payload should be. -/
def frN (l : List UInt8) : Nat := (l.getD 2 0).toNat * 256 + (l.getD 3 0).toNat
/-- The first frame of a text: its kind and its payload. -/
def frst (l : List UInt8) : Option (Nat × List UInt8) :=
  if l.length < 8 then none else
  if l.length < frN l + 8 then none else
  if 1 ≤ (l.getD 1 0).toNat ∧ (l.getD 1 0).toNat ≤ 3 ∧ frN l ≤ 200 ∧ l.take (frN l + 8) = frT (l.getD 1 0).toNat ((l.drop 4).take (frN l)) then
    some ((l.getD 1 0).toNat, (l.drop 4).take (frN l))
  else none
theorem frst_some {l : List UInt8} {k : Nat} {p : List UInt8} (h : frst l = some (k, p)) : 1 ≤ k ∧ k ≤ 3 ∧ p.length ≤ 200 ∧ p.length + 8 ≤ l.length ∧ l.take (p.length + 8) = frT k p ∧ k = (l.getD 1 0).toNat ∧ p.length = frN l ∧ p = (l.drop 4).take (frN l) := by
  unfold frst at h
  generalize frN l = n at h ⊢
  generalize (l.getD 1 0).toNat = kk at h ⊢
  by_cases h1 : l.length < 8
  · rw [if_pos h1] at h; cases h
  rw [if_neg h1] at h
  by_cases h2 : l.length < n + 8
  · rw [if_pos h2] at h; cases h
  rw [if_neg h2] at h
  by_cases h3 : 1 ≤ kk ∧ kk ≤ 3 ∧ n ≤ 200 ∧ l.take (n + 8) = frT kk ((l.drop 4).take n)
  · rw [if_pos h3] at h
    obtain ⟨a1, a2, a3, a4⟩ := h3
    cases h
    have hl : ((l.drop 4).take n).length = n := by rw [List.length_take, List.length_drop]; omega
    rw [hl]
    exact ⟨a1, a2, a3, by omega, a4, rfl, rfl, rfl⟩
  · rw [if_neg h3] at h; cases h
/-- Is a text the words of a block? -/
def blkB (s : ByteArray) : Bool := decide (4 ≤ s.size ∧ s.size ≤ 32 ∧ s.size % 4 = 0) && (List.range (s.size / 4 - 1)).all fun j => plW (wdAt s j)
theorem blkB_iff (s : ByteArray) : blkB s = true ↔ blkOK s := by
  unfold blkB blkOK
  rw [Bool.and_eq_true, decide_eq_true_eq, List.all_eq_true]
  constructor
  · rintro ⟨⟨h1, h2, h3⟩, h4⟩
    exact ⟨h1, h2, h3, fun j hj => h4 j (List.mem_range.2 (by omega))⟩
  · rintro ⟨h1, h2, h3, h4⟩
    exact ⟨⟨h1, h2, h3⟩, fun j hj => h4 j (by have := List.mem_range.1 hj; omega)⟩
/-- What an area's frames tell. -/
structure ArN where
  gen : Nat
  whole : Bool
  good : Nat
  list : List (List UInt8 × List UInt8)
def ar0 : ArN := ⟨0, false, 0, []⟩
/-- A frame more, if it may stand there. -/
def arT (a : ArN) (k : Nat) (p : List UInt8) : Option ArN :=
  if a.gen = 0 then (if k = 1 ∧ p.length = 4 ∧ beN (bya p) 0 4 ≠ 0 then some ⟨beN (bya p) 0 4, a.whole, a.good + (p.length + 8), a.list⟩ else none)
  else if k = 2 then (if p ≠ [] ∧ 1 + 4 * (p.getD 0 0).toNat ≤ p.length ∧ blkB (bya ((p.drop 1).take (4 * (p.getD 0 0).toNat))) = true then some ⟨a.gen, a.whole, a.good + (p.length + 8), a.list ++ [((p.drop 1).take (4 * (p.getD 0 0).toNat), p.drop (1 + 4 * (p.getD 0 0).toNat))]⟩ else none)
  else if k = 3 then (if a.whole = false ∧ p = [] then some ⟨a.gen, true, a.good + (p.length + 8), a.list⟩ else none)
  else none
/-- An area's frames, from where one stands. -/
def scn : Nat → ArN → List UInt8 → ArN
  | 0, a, _ => a
  | f + 1, a, l => match frst l with
    | none => a
    | some (k, p) => match arT a k p with
      | none => a
      | some a' => scn f a' (l.drop (p.length + 8))
theorem arT_good {a a' : ArN} {k : Nat} {p : List UInt8} (h : arT a k p = some a') : a'.good = a.good + (p.length + 8) ∧ 0 < a'.gen ∧ a'.list.length ≤ a.list.length + 1 := by
  unfold arT at h
  split at h
  · split at h
    · rename_i h1 h2
      cases h
      exact ⟨rfl, by have := h2.2.2; simp only; omega, Nat.le_succ _⟩
    · cases h
  · rename_i hg
    have hg' : 0 < a.gen := by omega
    split at h
    · split at h
      · cases h
        exact ⟨rfl, hg', by simp⟩
      · cases h
    · split at h
      · split at h
        · cases h
          exact ⟨rfl, hg', Nat.le_succ _⟩
        · cases h
      · cases h
/-- More rounds than there are frames change nothing. -/
theorem scn_more : ∀ (f g : Nat) (a : ArN) (l : List UInt8), l.length < f → f ≤ g → scn g a l = scn f a l := by
  intro f
  induction f with
  | zero => intro g a l h; omega
  | succ f ih =>
    intro g a l hl hg
    obtain ⟨g, rfl⟩ : ∃ g', g = g' + 1 := ⟨g - 1, by omega⟩
    rw [scn, scn]
    cases hf : frst l with
    | none => rfl
    | some kp =>
      obtain ⟨k, p⟩ := kp
      simp only
      cases ht : arT a k p with
      | none => rfl
      | some a' =>
        simp only
        have := (frst_some hf).2.2.2.1
        exact ih g a' _ (by rw [List.length_drop]; omega) (by omega)
/-- What a text tells. -/
def scan (l : List UInt8) : ArN := scn (l.length + 1) ar0 l
end Go.Proofs.YtmmflekajbeamabGreatDoor

namespace Go.Proofs.YtmmflekajbeamabGreatDoor
open Go.RowKit

end Go.Proofs.YtmmflekajbeamabGreatDoor

namespace Go.Proofs.YtmmflekajbeamabGreatDoor
open Go.RowKit

end Go.Proofs.YtmmflekajbeamabGreatDoor

namespace Go.Proofs.YtmmflekajbeamabGreatDoor
open Go.RowKit

end Go.Proofs.YtmmflekajbeamabGreatDoor

namespace Go.Proofs.YtmmflekajbeamabGreatDoor
open Go.RowKit

theorem or_join (x y : Int) (i : Nat) (hx0 : 0 ≤ x) (hx1 : x < 4294967296) (hy0 : 0 ≤ y) (hy1 : y < (2 ^ i : Nat)) (hi : i ≤ 32) (hm : x % (2 ^ i : Nat) = 0) : bits .or .i64 x y = x + y := by
  obtain ⟨a, rfl⟩ := Int.eq_ofNat_of_zero_le hx0
  obtain ⟨b, rfl⟩ := Int.eq_ofNat_of_zero_le hy0
  have hp : 2 ^ i ≤ 2 ^ 32 := Nat.pow_le_pow_right (by decide) hi
  have hb : b < 2 ^ i := by omega
  have hj : a ||| b = a + b := nat_join i a b (by omega) hb
  have h1 : (BitVec.ofInt 64 (a : Int)).toNat = a := by
    rw [BitVec.ofInt_natCast, BitVec.toNat_ofNat]; exact Nat.mod_eq_of_lt (by omega)
  have h2 : (BitVec.ofInt 64 (b : Int)).toNat = b := by
    rw [BitVec.ofInt_natCast, BitVec.toNat_ofNat]; exact Nat.mod_eq_of_lt (by omega)
  show IntKind.i64.wrap ((BitVec.ofInt 64 (a : Int) ||| BitVec.ofInt 64 (b : Int)).toNat : Int) = _
  rw [BitVec.toNat_or, h1, h2, IntKind.wrap_i64, hj]
  omega
end Go.Proofs.YtmmflekajbeamabGreatDoor

namespace Go.Proofs.YtmmflekajbeamabGreatDoor
open Go.RowKit

theorem zero34 (w : World) : (zeroValue 25).run Tryz.prog w = .ok (.agg (S zeroZ)) w := by kernel_rfl
theorem size34 : (Tryz.prog.info? 25).map (·.size) = some 138 := by kernel_rfl

theorem row_of {w : World} {n k : Nat} (h : isRowB w n k = true) : ∃ t, w.heap[n]? = some (.cells (rowD w n) t (0, 0)) ∧ (rowD w n).size = k := by
  unfold isRowB at h
  unfold rowD
  cases hg : w.heap[n]? with
  | none => rw [hg] at h; cases h
  | some o =>
    cases o with
    | cells c t fr =>
      rw [hg] at h
      simp only [Bool.and_eq_true, beq_iff_eq] at h
      obtain ⟨h2, rfl⟩ := h
      exact ⟨t, rfl, h2⟩
    | _ => rw [hg] at h; cases h
theorem wpList_load_S {ops : Array Oper} {rest : List Oper} {o : Oper} {a : Act} {w : World} {Q : Exit → Act → World → Prop} (hgd : o.guard = none) (x : Operand) (ho : o.op = .load 25 x)
    (n : Nat) (hx : a.eval x = .pointer (some ⟨n, 0, none⟩)) (hr : isRowB w n 138 = true) (c : Array Value) (hc : rowD w n = c)
    (h : wpList Tryz.prog ops Q rest (a.put o.dst (.agg c)) w) : wpList Tryz.prog ops Q (o :: rest) a w := by
  subst hc
  obtain ⟨t, hg, hs⟩ := row_of hr
  exact wpList_load_row hgd 25 x ho n hx t _ (0, 0) _ hg Tryz.underlying25 rfl (by rw [size34, hs]) h
theorem wpList_store_S {ops : Array Oper} {rest : List Oper} {o : Oper} {a : Act} {w : World} {Q : Exit → Act → World → Prop} (hgd : o.guard = none) (x y : Operand) (ho : o.op = .store 25 x y)
    (n : Nat) (hx : a.eval x = .pointer (some ⟨n, 0, none⟩)) (z : List Int) (hy : a.eval y = .agg (S z)) (hz : z.length = 138) (hr : isRowB w n 138 = true) (w' : World) (hw : w.setRow n (S z) = w')
    (h : wpList Tryz.prog ops Q rest (a.put o.dst undef) w') : wpList Tryz.prog ops Q (o :: rest) a w := by
  subst hw
  obtain ⟨t, hg, hs⟩ := row_of hr
  exact wpList_store_row hgd 25 x y ho n (S z) hx hy t _ hg (by rw [size34, S_size, hz]) (by rw [hs, S_size, hz]) (S_one z) h

/-! ### three blocks in a row: the state, its instruction's fields, the result -/
section
variable (w : World) (c : Array Value) (t : TypeId) (o1 o2 : Obj)
theorem rowD3 : rowD (((w.alloc (.cells c t)).alloc o1).alloc o2) w.heap.size = c := by
  rw [rowD_alloc_past _ _ _ (by simp; omega), rowD_alloc_past _ _ _ (by simp), rowD_alloc_at _ _ _ _ rfl]
theorem isRowB3 (k : Nat) (h : c.size = k) : isRowB (((w.alloc (.cells c t)).alloc o1).alloc o2) w.heap.size k = true := by
  rw [isRowB_alloc_past _ _ _ _ (by simp; omega), isRowB_alloc_past _ _ _ _ (by simp), isRowB_alloc_at _ _ _ _ _ rfl]; simpa using h
theorem isRowB3' (k : Nat) (h : c.size = k) : isRowB (((w.alloc o1).alloc o2).alloc (.cells c t)) (w.heap.size + 1 + 1) k = true := by
  rw [isRowB_alloc_at _ _ _ _ _ (by simp)]; simpa using h
theorem setRow3 (c' : Array Value) : (((w.alloc o1).alloc o2).alloc (.cells c t)).setRow (w.heap.size + 1 + 1) c' = ((w.alloc o1).alloc o2).alloc (.cells c' t) :=
  setRow_alloc_at _ _ _ _ _ (by simp)
theorem rowD3d : rowD (((w.alloc (.cells c t)).alloc o1).alloc o2).drew w.heap.size = c := rowD3 w c t o1 o2
theorem isRowB3d (k : Nat) (h : c.size = k) : isRowB (((w.alloc (.cells c t)).alloc o1).alloc o2).drew w.heap.size k = true := isRowB3 w c t o1 o2 k h
theorem isRowB3d' (k : Nat) (h : c.size = k) : isRowB (((w.alloc o1).alloc o2).alloc (.cells c t)).drew (w.heap.size + 1 + 1) k = true := isRowB3' w c t o1 o2 k h
theorem setRow3d (c' : Array Value) : (((w.alloc o1).alloc o2).alloc (.cells c t)).drew.setRow (w.heap.size + 1 + 1) c' = (((w.alloc o1).alloc o2).alloc (.cells c' t)).drew := by
  rw [setRow_drew, setRow3]
theorem below3d (o : Obj) : Below w.heap.size w (((w.alloc o1).alloc o2).alloc o).drew :=
  ((((Below.refl _ _).alloc (Nat.le_refl _) _).alloc (by simp) _).alloc (by simp; omega) _).drew
theorem heap3 (o : Obj) : (((w.alloc o1).alloc o2).alloc o).heap[w.heap.size + 1 + 1]? = some o := by
  have := _root_.Go.heap_alloc_new ((w.alloc o1).alloc o2) o
  simpa using this
theorem below3 (o : Obj) : Below w.heap.size w (((w.alloc o1).alloc o2).alloc o) :=
  (((Below.refl _ _).alloc (Nat.le_refl _) _).alloc (by simp) _).alloc (by simp; omega) _
end
theorem still_tail {P : Program} {id : Nat} {Q : Exit → Act → World → Prop} {a : Act} {w : World} {l : List Oper} (n : Nat) (hm : P.follows .mixedOrders = true) (hB : Region.lexTailB .any l.toArray n = true)
    (h : wpStill P l.toArray w.drew (fun a' => wpList P l.toArray Q (l.drop n) a' w.drew) (l.take n) a) : (Code.region id l.toArray true).wp P Q a w :=
  wp_region_still_tail n hm hB h
theorem still_all {P : Program} {id : Nat} {Q : Exit → Act → World → Prop} {a : Act} {w : World} {l : List Oper} (hm : P.follows .mixedOrders = true) (hB : Region.lexB .any l.toArray = true)
    (h : wpStill P l.toArray w.drew (fun a' => Q .normal a' w.drew) l a) : (Code.region id l.toArray true).wp P Q a w :=
  wp_region_still_lit hm hB h
theorem size_alloc1 (w : World) (o : Obj) : (w.alloc o).heap.size = w.heap.size + 1 := by simp
/-! ### a row in a world that is a letter -/
theorem isRowB_below {B : Nat} {W w1 : World} (hb : Below B W w1) {n : Nat} (hn : n < B) (k : Nat) : isRowB w1 n k = isRowB W n k := by
  unfold isRowB; rw [hb.block n hn]
theorem rowD_below {B : Nat} {W w1 : World} (hb : Below B W w1) {n : Nat} (hn : n < B) : rowD w1 n = rowD W n := by
  unfold rowD; rw [hb.block n hn]
theorem rowD_setCell {w : World} {n k : Nat} (h : isRowB w n k = true) (i : Nat) (v : Value) : rowD (w.setCell ⟨n, i, none⟩ v) n = (rowD w n).setIfInBounds i v := by
  obtain ⟨t, hg, _⟩ := row_of h
  unfold rowD
  rw [heap_setCell_same w n i _ t v hg]
  rfl
theorem isRowB_setCell {w : World} {n k : Nat} (h : isRowB w n k = true) (i : Nat) (v : Value) : isRowB (w.setCell ⟨n, i, none⟩ v) n k = true := by
  obtain ⟨t, hg, hs⟩ := row_of h
  unfold isRowB
  rw [heap_setCell_same w n i _ t v hg]
  simp [hs]
theorem isRowB_setCell_other {w : World} {n k : Nat} (h : isRowB w n k = true) (m i : Nat) (hm : n ≠ m) (v : Value) : isRowB (w.setCell ⟨m, i, none⟩ v) n k = true := by
  unfold isRowB
  rw [heap_setCell_other w ⟨m, i, none⟩ n v hm]
  exact h
theorem heap_setRow_S {w : World} {n : Nat} (h : isRowB w n 138 = true) (c : Array Value) : ∃ t, (w.setRow n c).heap[n]? = some (.cells c t (0, 0)) := by
  obtain ⟨t, hg, _⟩ := row_of h
  exact ⟨t, setRow_heap w n _ c t (0, 0) hg⟩
theorem below_setRow {B : Nat} {W w1 : World} (hb : Below B W w1) {n : Nat} (hn : B ≤ n) (c : Array Value) : Below B W (w1.setRow n c) :=
  ⟨hb.os, hb.tape, hb.output, by rw [size_setRow]; exact hb.size, fun k hk => (setRow_other w1 n k c (by omega)).trans (hb.block k hk)⟩
theorem below_alloc {w : World} (o : Obj) : Below w.heap.size w (w.alloc o) := (Below.refl _ _).alloc (Nat.le_refl _) _

/-- The result of a function that gives a state and a number: read out of its cell. -/
theorem res_S {fn : Func} {p u : Tmp} (h : fn.results = #[.cell p 25, .tmp u]) (tmps : Array Value) (w : World) (g : Nat) (t : TypeId) (z : List Int) (hz : z.length = 138)
    (hp : tmps.getD p undef = .pointer (some ⟨g, 0, none⟩)) (hg : w.heap[g]? = some (.cells (S z) t (0, 0))) (e : Int) (hu : tmps.getD u undef = .int .i64 e) :
    (results fn tmps).run Tryz.prog w = .ok (.tuple #[.agg (S z), .int .i64 e]) w := by
  rw [results_cell_tmp h, hp, hu]
  simp only [asAddr, Sem.run_pure, Result.andThen]
  rw [run_loadVar_row w g t 25 (S z) (0, 0) _ hg Tryz.underlying25 rfl (by rw [size34, S_size, hz])]
end Go.Proofs.YtmmflekajbeamabGreatDoor
