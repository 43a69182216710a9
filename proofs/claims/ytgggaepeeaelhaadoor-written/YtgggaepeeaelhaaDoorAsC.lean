/-
  Small texts of the library at our arguments (HasPrefix, CutSuffix), and a word put together (Join).
-/
import Derived.Test.YtgggaepeeaelhaaDoorAsB
namespace Go.Proofs.YtgggaepeeaelhaaDoor
open Go.RowKit

def preB (l : List UInt8) : Bool := l.take 3 == [239, 191, 189]
set_option maxRecDepth 100000 in
set_option maxHeartbeats 400000 in
theorem hasPrefix_any (s : ByteArray) (w : World) (hs : s.size ≤ maxLen) :
    Calls Tryd.prog 144 #[.string s, .string ⟨#[239, 191, 189]⟩] w fun e' w' => e' = .returned (.bool (preB s.data.toList)) ∧ w' = w := by
  unfold maxLen at hs
  by_cases h3 : 3 ≤ s.size
  · have h3' : (3 : Int) ≤ (s.size : Int) := by omega
    have HP : Hid (((s.extract 0 3).toList == [239, 191, 189]) = preB s.data.toList) := by
      rw [Hid, ByteArray.toList_eq, Lib.extract_data]; simp [preB]
    go_enter Tryd.func144, Tryd.ntmps144
    go_wp2
    go_ret
    exact ⟨ret_bool HP.out, rfl⟩
  · have h3' : decide ((3 : Int) ≤ (s.size : Int)) = false := by simp; omega
    have HP : Hid (preB s.data.toList = false) := by
      rw [Hid, preB, beq_eq_false_iff_ne]
      intro e
      have := congrArg List.length e
      have hsz : s.data.toList.length = s.size := rfl
      simp [List.length_take] at this
      omega
    go_enter Tryd.func144, Tryd.ntmps144
    go_wp2
    go_ret
    exact ⟨ret_bool HP.out.symm, rfl⟩

/-- The text ahead of a colon at the end. -/
def colB (l : List UInt8) : Bool := l.getLast? == some 58
theorem col_eq (s : ByteArray) (h1 : 1 ≤ s.size) : ((s.extract (s.size - 1) s.size).toList == [58]) = colB s.data.toList := by
  rw [ByteArray.toList_eq, Lib.extract_data]
  have hl : s.data.toList.length = s.size := rfl
  have hne : s.data.toList ≠ [] := by intro e; rw [e] at hl; simp at hl; omega
  have e1 : (s.data.toList.drop (s.size - 1)).take (s.size - (s.size - 1)) = [s.data.toList.getLast hne] := by
    rw [List.drop_eq_getElem_cons (by omega), List.getLast_eq_getElem]
    have : s.size - (s.size - 1) = 1 := by omega
    rw [this, List.take_succ_cons, List.take_zero]
    rfl
  rw [e1]
  unfold colB
  rw [List.getLast?_eq_some_getLast hne]
  rw [Bool.eq_iff_iff]; simp
set_option maxRecDepth 100000 in
set_option maxHeartbeats 400000 in
theorem cutSuffix_yes (s : ByteArray) (w : World) (hs : s.size ≤ maxLen) (h1 : 1 ≤ s.size) (hc : colB s.data.toList = true) :
    Calls Tryd.prog 156 #[.string s, .string ⟨#[58]⟩] w fun e' w' => e' = .returned (.tuple #[.string (s.extract 0 (s.size - 1)), .bool true]) ∧ w' = w := by
  have hq := col_eq s h1
  rw [hc] at hq
  unfold maxLen at hs
  have h1' : (1 : Int) ≤ (s.size : Int) := by omega
  go_enter Tryd.func156, Tryd.ntmps156
  go_wp2
  go_ret2
  exact ⟨rfl, rfl⟩
set_option maxRecDepth 100000 in
set_option maxHeartbeats 400000 in
theorem cutSuffix_no (s : ByteArray) (w : World) (hs : s.size ≤ maxLen) (h1 : 1 ≤ s.size) (hc : colB s.data.toList = false) :
    Calls Tryd.prog 156 #[.string s, .string ⟨#[58]⟩] w fun e' w' => e' = .returned (.tuple #[.string s, .bool false]) ∧ w' = w := by
  have hq := col_eq s h1
  rw [hc] at hq
  unfold maxLen at hs
  have h1' : (1 : Int) ≤ (s.size : Int) := by omega
  go_enter Tryd.func156, Tryd.ntmps156
  go_wp2
  go_ret2
  exact ⟨rfl, rfl⟩

theorem or_join (x y : Int) (i : Nat) (hx0 : 0 ≤ x) (hx1 : x < 4294967296) (hy0 : 0 ≤ y) (hy1 : y < (2 ^ i : Nat)) (hi : i ≤ 32) (hm : x % (2 ^ i : Nat) = 0) : bits .or .i64 x y = x + y := by
  obtain ⟨a, rfl⟩ := Int.eq_ofNat_of_zero_le hx0
  obtain ⟨b, rfl⟩ := Int.eq_ofNat_of_zero_le hy0
  have hp : 2 ^ i ≤ 2 ^ 32 := Nat.pow_le_pow_right (by decide) hi
  have hb : b < 2 ^ i := by omega
  have hj : a ||| b = a + b := nat_join i a b (by omega) hb
  have h1 : (BitVec.ofInt 64 (a : Int)).toNat = a := by
    rw [BitVec.ofInt_natCast, BitVec.toNat_ofNat]; exact Nat.mod_eq_of_lt (by omega)
  have h2 : (BitVec.ofInt 64 (b : Int)).toNat = b := by
    rw [BitVec.ofInt_natCast, BitVec.toNat_ofNat]; exact Nat.mod_eq_of_lt (by omega)
  show IntKind.i64.wrap ((BitVec.ofInt 64 (a : Int) ||| BitVec.ofInt 64 (b : Int)).toNat : Int) = _
  rw [BitVec.toNat_or, h1, h2, IntKind.wrap_i64, hj]
  omega
set_option maxRecDepth 100000 in
set_option maxHeartbeats 400000 in
theorem join_any (op a b c k : Int) (w : World) (o0 : 0 ≤ op) (o1 : op ≤ 10) (a0 : 0 ≤ a) (a1 : a < 8) (b0 : 0 ≤ b) (b1 : b < 8) (c0 : 0 ≤ c) (c1 : c < 8) (k0 : 0 ≤ k) (k1 : k < 4096) :
    Calls Tryd.prog 186 #[.agg #[.int .i64 op, .int .i64 a, .int .i64 b, .int .i64 c, .int .i64 k]] w fun e' w' => e' = .returned (.int .i64 (op * 16777216 + a * 1048576 + b * 65536 + c * 4096 + k)) ∧ Below w.heap.size w w' := by
  have e1 := or_join (op * 16777216) (a * 1048576) 24 (by omega) (by omega) (by omega) (by omega) (by decide) (by omega)
  have e2 := or_join (op * 16777216 + a * 1048576) (b * 65536) 20 (by omega) (by omega) (by omega) (by omega) (by decide) (by omega)
  have e3 := or_join (op * 16777216 + a * 1048576 + b * 65536) (c * 4096) 16 (by omega) (by omega) (by omega) (by omega) (by decide) (by omega)
  have e4 := or_join (op * 16777216 + a * 1048576 + b * 65536 + c * 4096) k 12 (by omega) (by omega) (by omega) (by omega) (by decide) (by omega)
  go_enter Tryd.func186, Tryd.ntmps186
  go_wp2
  go_ret
  refine ⟨ret_int ?_, (Below.refl _ _).alloc (Nat.le_refl _) _⟩
  rfl
end Go.Proofs.YtgggaepeeaelhaaDoor
