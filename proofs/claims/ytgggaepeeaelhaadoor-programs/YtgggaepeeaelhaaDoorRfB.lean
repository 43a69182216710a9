/-
  The document's own answer: what an instruction is called, and its parts (form); a register.
-/
import Derived.Test.YtgggaepeeaelhaaDoorRfA
namespace Go.Proofs.YtgggaepeeaelhaaDoor
open Go.RowKit

/-- The number of an instruction's name, and its parts as the document's answer letters them. -/
def fmOp : Nat → Int
  | 0 => 0 | 1 => 1 | 2 => 2 | 3 => 3 | 4 => 4 | 5 => 5 | 6 => 6 | 7 => 7 | 8 => 8 | 9 => 9 | 10 => 10 | 11 => 11 | _ => -1
def fmPt : Nat → List UInt8
  | 0 => [] | 1 => [97, 110] | 2 => [97, 98, 99] | 3 => [97, 98, 99] | 4 => [97, 98, 99] | 5 => [97, 98, 99]
  | 6 => [97, 98, 110] | 7 => [97, 98, 110] | 8 => [97, 98, 110] | 9 => [110] | 10 => [97] | 11 => [118] | _ => []

set_option maxRecDepth 100000 in
set_option maxHeartbeats 2000000 in
theorem form_no (s : ByteArray) (w : World) (h : instB s.data.toList = false) :
    Calls Tryd.prog 148 #[.string s] w fun e' w' => e' = .returned (.tuple #[.int .i64 (-1), .string ⟨#[]⟩]) ∧ w' = w := by
  have q : ∀ j, j < 12 → (s.toList == rowNm j) = false := fun j hj => by
    rw [ByteArray.toList_eq]
    have := instB_no h j hj
    rw [beq_eq_false_iff_ne] at this ⊢
    exact fun e => this e.symm
  have q0 : (s.toList == [104, 97, 108, 116]) = false := q 0 (by decide)
  have q1 : (s.toList == [115, 101, 116]) = false := q 1 (by decide)
  have q2 : (s.toList == [97, 100, 100]) = false := q 2 (by decide)
  have q3 : (s.toList == [115, 117, 98]) = false := q 3 (by decide)
  have q4 : (s.toList == [120, 111, 114]) = false := q 4 (by decide)
  have q5 : (s.toList == [109, 117, 108]) = false := q 5 (by decide)
  have q6 : (s.toList == [108, 111, 97, 100]) = false := q 6 (by decide)
  have q7 : (s.toList == [115, 116, 111, 114, 101]) = false := q 7 (by decide)
  have q8 : (s.toList == [115, 97, 109, 101]) = false := q 8 (by decide)
  have q9 : (s.toList == [106, 117, 109, 112]) = false := q 9 (by decide)
  have q10 : (s.toList == [116, 117, 114, 110]) = false := q 10 (by decide)
  have q11 : (s.toList == [119, 111, 114, 100]) = false := q 11 (by decide)
  clear q h
  go_enter Tryd.func148, Tryd.ntmps148
  go_wp2
  go_ret2
  exact ⟨rfl, rfl⟩

set_option maxRecDepth 100000 in
set_option maxHeartbeats 4000000 in
theorem form_yes (n : Nat) (w : World) (h : n < 12) :
    Calls Tryd.prog 148 #[.string ⟨(rowNm n).toArray⟩] w fun e' w' => e' = .returned (.tuple #[.int .i64 (fmOp n), .string ⟨(fmPt n).toArray⟩]) ∧ w' = w := by
  have h' : n = 0 ∨ n = 1 ∨ n = 2 ∨ n = 3 ∨ n = 4 ∨ n = 5 ∨ n = 6 ∨ n = 7 ∨ n = 8 ∨ n = 9 ∨ n = 10 ∨ n = 11 := by omega
  clear h
  rcases h' with rfl | rfl | rfl | rfl | rfl | rfl | rfl | rfl | rfl | rfl | rfl | rfl
  all_goals
    simp only [rowNm, fmOp, fmPt]
    go_enter Tryd.func148, Tryd.ntmps148
    go_wp2
    go_ret2
    exact ⟨rfl, rfl⟩
end Go.Proofs.YtgggaepeeaelhaaDoor
