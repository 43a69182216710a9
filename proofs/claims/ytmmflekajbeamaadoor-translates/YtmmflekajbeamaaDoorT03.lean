/-
  The document's own answer: its small functions on a token's text: a number up to a bound (digits), a register.
  The document's own answer: what an instruction is called, and its parts (form); a register.
  Names, parts of an instruction, and small texts of the library: isName, fits, Join, HasPrefix, CutSuffix.
  Small texts of the library at our arguments (HasPrefix, CutSuffix), and a word put together (Join).
  perform: an instruction done on a machine that runs.
-/
import Derived.Test.YtmmflekajbeamaaDoorT02
import Derived.StillTailTactics
namespace Go.Proofs.YtmmflekajbeamaaDoor
open Go.RowKit

def digOK (most : Int) (l : List UInt8) : Bool := numOK l && decide (valD l ≤ most)

set_option maxRecDepth 100000 in
set_option maxHeartbeats 1000000 in
/-- A number of digits alone: that number, if it is not above the bound. -/
theorem rdigits_num (s : ByteArray) (most : Int) (w : World) (hok : numOK s.data.toList = true) :
    Calls Tryd.prog 167 #[.string s, .int .i64 most] w fun e' w' => ((valD s.data.toList ≤ most ∧ e' = .returned (.int .i64 (valD s.data.toList))) ∨ (most < valD s.data.toList ∧ e' = .returned (.int .i64 (-1)))) ∧ w' = w := by
  have hok' := hok
  simp only [numOK, Bool.and_eq_true, decide_eq_true_eq, List.all_eq_true] at hok'
  obtain ⟨⟨hl1, hl2⟩, hall⟩ := hok'
  have hsz : s.data.toList.length = s.size := rfl
  rw [hsz] at hl1 hl2
  have h1' : ¬ (s.size : Int) < 1 := by omega
  have h10' : ¬ (10 : Int) < (s.size : Int) := by omega
  have HA := hide hall
  clear hall hok hsz
  go_enter Tryd.func167, Tryd.ntmps167
  go_wp2
  go_loop [5, 6] (fun n i => ∃ k : Nat, k ≤ s.size ∧ i = .int .i64 k ∧ n = .int .i64 (valD (s.data.toList.take k))) (fun _ i => s.size - (intOf i).toNat)
  case atStart => exact ⟨0, Nat.zero_le _, rfl, rfl⟩
  case round =>
    obtain ⟨k, hk, rfl, rfl⟩ := hrel
    obtain ⟨v0, v1⟩ := valD_bd (s.data.toList.take k) (fun b hb => HA.out b (List.mem_of_mem_take hb)) (by rw [List.length_take]; omega)
    by_cases hlt : k < s.size
    · have hdg : digC s[k] = true := HA.out _ (by rw [ByteArray.getElem_eq_getElem_data]; simp)
      have HV := hide (valD_snoc (s.data.toList.take k) s[k])
      rw [← take_snoc s k hlt] at HV
      have hdd : 48 ≤ s[k].toNat ∧ s[k].toNat ≤ 57 := by simpa [digC] using hdg
      have e0' : (48 : Int) ≤ (s[k].toNat : Int) := by omega
      have e1' : (s[k].toNat : Int) ≤ 57 := by omega
      clear hdg hdd
      go_wp2
      go_round
      case rel => exact ⟨k + 1, by omega, by go_num, by rw [HV.out]⟩
      case measure => simp [intOf]; omega
    · have hkn : k = s.size := by omega
      subst hkn
      have HTk : Hid (s.data.toList.take s.size = s.data.toList) := List.take_of_length_le (Nat.le_refl _)
      rw [HTk.out] at v0 v1 ⊢
      by_cases hm : valD s.data.toList ≤ most
      · have hm' : ¬ most < valD s.data.toList := by omega
        go_wp2
        go_ret
        exact ⟨.inl rfl, rfl⟩
      · have hm' : most < valD s.data.toList := by omega
        go_wp2
        go_ret
        exact ⟨.inr rfl, rfl⟩

set_option maxRecDepth 100000 in
set_option maxHeartbeats 1000000 in
theorem rdigits_no (s : ByteArray) (most : Int) (w : World) (hok : numOK s.data.toList = false) (hs : s.size ≤ maxLen) :
    Calls Tryd.prog 167 #[.string s, .int .i64 most] w fun e' w' => e' = .returned (.int .i64 (-1)) ∧ w' = w := by
  unfold maxLen at hs
  by_cases h0 : s.size = 0
  · have h0' : (s.size : Int) < 1 := by omega
    clear hok
    go_enter Tryd.func167, Tryd.ntmps167
    go_wp2
    go_ret
    exact ⟨rfl, rfl⟩
  have h1' : ¬ (s.size : Int) < 1 := by omega
  by_cases h10 : 10 < s.size
  · have h10' : (10 : Int) < (s.size : Int) := by omega
    clear hok
    go_enter Tryd.func167, Tryd.ntmps167
    go_wp2
    go_ret
    exact ⟨rfl, rfl⟩
  have h10' : ¬ (10 : Int) < (s.size : Int) := by omega
  have HO := hide hok
  clear hok
  go_enter Tryd.func167, Tryd.ntmps167
  go_wp2
  go_loop [5, 6] (fun n i => ∃ k : Nat, k ≤ s.size ∧ i = .int .i64 k ∧ n = .int .i64 (valD (s.data.toList.take k)) ∧ Hid (∀ b ∈ s.data.toList.take k, digC b = true)) (fun _ i => s.size - (intOf i).toNat)
  case atStart => exact ⟨0, Nat.zero_le _, rfl, rfl, fun b hb => by simp at hb⟩
  case round =>
    obtain ⟨k, hk, rfl, rfl, HD⟩ := hrel
    obtain ⟨v0, v1⟩ := valD_bd (s.data.toList.take k) HD.out (by rw [List.length_take]; omega)
    by_cases hlt : k < s.size
    · by_cases hdg : digC s[k] = true
      · have HV := hide (valD_snoc (s.data.toList.take k) s[k])
        rw [← take_snoc s k hlt] at HV
        have HD' : Hid (∀ b ∈ s.data.toList.take (k + 1), digC b = true) := fun b hb => by
          rw [take_snoc s k hlt, List.mem_append] at hb
          rcases hb with hb | hb
          · exact HD.out b hb
          · rw [List.mem_singleton.1 hb]; exact hdg
        have hdd : 48 ≤ s[k].toNat ∧ s[k].toNat ≤ 57 := by simpa [digC] using hdg
        have e0' : (48 : Int) ≤ (s[k].toNat : Int) := by omega
        have e1' : (s[k].toNat : Int) ≤ 57 := by omega
        clear hdg hdd
        go_wp2
        go_round
        case rel => exact ⟨k + 1, by omega, by go_num, by rw [HV.out], HD'⟩
        case measure => simp [intOf]; omega
      · have hnd : s[k].toNat < 48 ∨ 57 < s[k].toNat := by simp [digC] at hdg; omega
        clear hdg
        rcases hnd with hnd | hnd
        · have e0' : (s[k].toNat : Int) < 48 := by omega
          go_wp2
          go_ret
          exact ⟨rfl, rfl⟩
        · have e0' : ¬ (s[k].toNat : Int) < 48 := by omega
          have e1' : (57 : Int) < (s[k].toNat : Int) := by omega
          go_wp2
          go_ret
          exact ⟨rfl, rfl⟩
    · exfalso
      have hkn : k = s.size := by omega
      subst hkn
      have h1 : s.data.toList.take s.size = s.data.toList := List.take_of_length_le (Nat.le_refl _)
      have h2 := HD.out
      rw [h1] at h2
      have h3 : numOK s.data.toList = true := by
        simp only [numOK, Bool.and_eq_true, decide_eq_true_eq, List.all_eq_true]
        have hsz : s.data.toList.length = s.size := rfl
        exact ⟨by omega, h2⟩
      rw [h3] at HO
      cases HO.out
end Go.Proofs.YtmmflekajbeamaaDoor

namespace Go.Proofs.YtmmflekajbeamaaDoor
open Go.RowKit

/-- The number of an instruction's name, and its parts as the document's answer letters them. -/
def fmOp : Nat → Int
  | 0 => 0 | 1 => 1 | 2 => 2 | 3 => 3 | 4 => 4 | 5 => 5 | 6 => 6 | 7 => 7 | 8 => 8 | 9 => 9 | 10 => 10 | 11 => 11 | _ => -1
def fmPt : Nat → List UInt8
  | 0 => [] | 1 => [97, 110] | 2 => [97, 98, 99] | 3 => [97, 98, 99] | 4 => [97, 98, 99] | 5 => [97, 98, 99]
  | 6 => [97, 98, 110] | 7 => [97, 98, 110] | 8 => [97, 98, 110] | 9 => [110] | 10 => [97] | 11 => [118] | _ => []

set_option maxRecDepth 100000 in
set_option maxHeartbeats 2000000 in
theorem form_no (s : ByteArray) (w : World) (h : instB s.data.toList = false) :
    Calls Tryd.prog 148 #[.string s] w fun e' w' => e' = .returned (.tuple #[.int .i64 (-1), .string ⟨#[]⟩]) ∧ w' = w := by
  have q : ∀ j, j < 12 → (s.toList == rowNm j) = false := fun j hj => by
    rw [ByteArray.toList_eq]
    have := instB_no h j hj
    rw [beq_eq_false_iff_ne] at this ⊢
    exact fun e => this e.symm
  have q0 : (s.toList == [104, 97, 108, 116]) = false := q 0 (by decide)
  have q1 : (s.toList == [115, 101, 116]) = false := q 1 (by decide)
  have q2 : (s.toList == [97, 100, 100]) = false := q 2 (by decide)
  have q3 : (s.toList == [115, 117, 98]) = false := q 3 (by decide)
  have q4 : (s.toList == [120, 111, 114]) = false := q 4 (by decide)
  have q5 : (s.toList == [109, 117, 108]) = false := q 5 (by decide)
  have q6 : (s.toList == [108, 111, 97, 100]) = false := q 6 (by decide)
  have q7 : (s.toList == [115, 116, 111, 114, 101]) = false := q 7 (by decide)
  have q8 : (s.toList == [115, 97, 109, 101]) = false := q 8 (by decide)
  have q9 : (s.toList == [106, 117, 109, 112]) = false := q 9 (by decide)
  have q10 : (s.toList == [116, 117, 114, 110]) = false := q 10 (by decide)
  have q11 : (s.toList == [119, 111, 114, 100]) = false := q 11 (by decide)
  clear q h
  go_enter Tryd.func148, Tryd.ntmps148
  go_wp2
  go_ret2
  exact ⟨rfl, rfl⟩

set_option maxRecDepth 100000 in
set_option maxHeartbeats 4000000 in
theorem form_yes (n : Nat) (w : World) (h : n < 12) :
    Calls Tryd.prog 148 #[.string ⟨(rowNm n).toArray⟩] w fun e' w' => e' = .returned (.tuple #[.int .i64 (fmOp n), .string ⟨(fmPt n).toArray⟩]) ∧ w' = w := by
  have h' : n = 0 ∨ n = 1 ∨ n = 2 ∨ n = 3 ∨ n = 4 ∨ n = 5 ∨ n = 6 ∨ n = 7 ∨ n = 8 ∨ n = 9 ∨ n = 10 ∨ n = 11 := by omega
  clear h
  rcases h' with rfl | rfl | rfl | rfl | rfl | rfl | rfl | rfl | rfl | rfl | rfl | rfl
  all_goals
    simp only [rowNm, fmOp, fmPt]
    go_enter Tryd.func148, Tryd.ntmps148
    go_wp2
    go_ret2
    exact ⟨rfl, rfl⟩
end Go.Proofs.YtmmflekajbeamaaDoor

namespace Go.Proofs.YtmmflekajbeamaaDoor
open Go.RowKit

/-- A text's characters from a place on, each a letter, or a digit behind the first: how many there are then; none: one is not so. -/
def nameGo (s : ByteArray) : Nat → Nat → Nat → Option Nat
  | 0, _, c => some c
  | f + 1, p, c => if p < s.size then
      (if letB (Utf8.decode s p).1 || (decide (0 < c) && decide (48 ≤ (Utf8.decode s p).1 ∧ (Utf8.decode s p).1 ≤ 57)) then nameGo s f (p + (Utf8.decode s p).2) (c + 1) else none)
    else some c
def nmI (s : ByteArray) : Bool := match nameGo s s.size 0 0 with | some c => decide (1 ≤ c ∧ c ≤ 12) && !takB s.data.toList | none => false
theorem nameGo_end (s : ByteArray) (f p c : Nat) (h : ¬ p < s.size) : nameGo s f p c = some c := by cases f <;> simp [nameGo, h]
theorem nmI_none {s : ByteArray} (h : nameGo s s.size 0 0 = none) : nmI s = false := by simp [nmI, h]
theorem nmI_some {s : ByteArray} {c : Nat} (h : nameGo s s.size 0 0 = some c) : nmI s = (decide (1 ≤ c ∧ c ≤ 12) && !takB s.data.toList) := by simp [nmI, h]

set_option maxRecDepth 100000 in
set_option maxHeartbeats 1000000 in
theorem isName_any (s : ByteArray) (w : World) (ht : Tab w) (hs : s.size ≤ maxLen) :
    Calls Tryd.prog 157 #[.string s] w fun e' w' => e' = .returned (.bool (nmI s)) ∧ Below w.heap.size w w' := by
  have HTk := hide (fun p => isTaken_any s (w.iter s p) (ht.below ht.pos ((Below.refl _ _).alloc (Nat.le_refl _) _)) hs)
  have HB : Hid (∀ p, Below w.heap.size w (w.iter s p)) := fun p => (Below.refl _ _).alloc (Nat.le_refl _) _
  have nx := @run_next_any Tryd.prog w s
  have ne := @run_next_end Tryd.prog w s
  unfold maxLen at hs
  clear ht
  go_enter Tryd.func157, Tryd.ntmps157
  go_wp2
  go_loopw [3] (fun n wr => ∃ f p c : Nat, wr = w.iter s p ∧ n = .int .i64 c ∧ c ≤ p ∧ s.size ≤ p + f ∧ Hid (nameGo s f p c = nameGo s s.size 0 0)) (fun _ wr => s.size - wr.iterPos w.heap.size)
  case atStart => exact ⟨s.size, 0, 0, rfl, rfl, Nat.le_refl _, by omega, rfl⟩
  case round =>
    obtain ⟨f, p, c, rfl, rfl, hcp, hf, HG⟩ := hrel
    by_cases hlt : p < s.size
    · obtain ⟨f, rfl⟩ : ∃ g, f = g + 1 := ⟨f - 1, by omega⟩
      have hw := Lib.decode_width_pos s p hlt
      have hr0 : (0 : Int) ≤ ((Utf8.decode s p).1 : Int) := by omega
      have nxp := nx p
      have HS : Hid (nameGo s (f + 1) p c = if letB (Utf8.decode s p).1 || (decide (0 < c) && decide (48 ≤ (Utf8.decode s p).1 ∧ (Utf8.decode s p).1 ≤ 57)) then nameGo s f (p + (Utf8.decode s p).2) (c + 1) else none) := by
        simp [Hid, nameGo, hlt]
      have HL := hide (isLetter_any ((Utf8.decode s p).1 : Int))
      have HD := hide (isDigit_any ((Utf8.decode s p).1 : Int))
      generalize hd : Utf8.decode s p = d at *
      obtain ⟨r, n⟩ := d
      simp only at *
      clear hd nx
      cases hl : letB (r : Int)
      · rw [hl] at HL HS
        by_cases hc : 0 < c
        · have hc0 : ((c : Int) == 0) = false := by simp; omega
          have hcd : decide (0 < c) = true := by simpa using hc
          rw [hcd] at HS
          by_cases hdg : 48 ≤ r ∧ r ≤ 57
          · have hd1 : decide ((48 : Int) ≤ (r : Int) ∧ (r : Int) ≤ 57) = true := by rw [decide_eq_true_eq]; omega
            rw [hd1] at HD
            have HG' : Hid (nameGo s f (p + n) (c + 1) = nameGo s s.size 0 0) := by rw [← HG.out, HS.out]; simp [Hid, hdg]
            clear HG HS hl hd1 hdg hcd
            go_wp2_with (first | (go_at_call 173; refine (unhide HL _).mono ?_; rintro e w' ⟨rfl, rfl⟩) | (go_at_call 174; refine (unhide HD _).mono ?_; rintro e w' ⟨rfl, rfl⟩))
            go_roundw
            case rel => exact ⟨f, p + n, c + 1, rfl, by go_num, by omega, by omega, HG'⟩
            case measure => simp; omega
          · have hd1 : decide ((48 : Int) ≤ (r : Int) ∧ (r : Int) ≤ 57) = false := by rw [decide_eq_false_iff_not]; omega
            rw [hd1] at HD
            have HN : Hid (nmI s = false) := nmI_none (by rw [← HG.out, HS.out]; simp [hdg])
            clear HG HS hl hd1 hdg hcd
            go_wp2_with (first | (go_at_call 173; refine (unhide HL _).mono ?_; rintro e w' ⟨rfl, rfl⟩) | (go_at_call 174; refine (unhide HD _).mono ?_; rintro e w' ⟨rfl, rfl⟩))
            go_ret
            exact ⟨ret_bool HN.out.symm, HB.out _⟩
        · obtain rfl : c = 0 := by omega
          have HN : Hid (nmI s = false) := nmI_none (by rw [← HG.out, HS.out]; simp)
          clear HG HS hl HD
          go_wp2_with (go_at_call 173; refine (unhide HL _).mono ?_; rintro e w' ⟨rfl, rfl⟩)
          go_ret
          exact ⟨ret_bool HN.out.symm, HB.out _⟩
      · rw [hl] at HL HS
        have HG' : Hid (nameGo s f (p + n) (c + 1) = nameGo s s.size 0 0) := by rw [← HG.out, HS.out]; rfl
        clear HG HS hl HD
        go_wp2_with (go_at_call 173; refine (unhide HL _).mono ?_; rintro e w' ⟨rfl, rfl⟩)
        go_roundw
        case rel => exact ⟨f, p + n, c + 1, rfl, by go_num, by omega, by omega, HG'⟩
        case measure => simp; omega
    · have hgo : nameGo s s.size 0 0 = some c := by rw [← HG.out]; exact nameGo_end s f p c hlt
      have HN := hide (nmI_some hgo)
      clear hgo HG nx
      have nep := ne p
      have HTp := hide (unhide HTk p)
      clear HTk ne
      by_cases h1 : 1 ≤ c
      · by_cases h12 : c ≤ 12
        · have h1' : (1 : Int) ≤ (c : Int) := by omega
          have h12' : (c : Int) ≤ 12 := by omega
          have HN' : Hid (nmI s = !takB s.data.toList) := by rw [Hid, HN.out]; simp [h1, h12]
          generalize takB s.data.toList = tb at *
          clear HN h1 h12
          go_wp2_with fail
          refine (unhide HTp).mono ?_
          rintro e w1 ⟨rfl, hb⟩
          have HB1 : Hid (Below w.heap.size w w1) := (HB.out p).trans (hb.mono (HB.out p).size)
          clear hb
          go_wp2
          go_ret
          exact ⟨ret_bool HN'.out.symm, HB1.out⟩
        · have h1' : (1 : Int) ≤ (c : Int) := by omega
          have h12' : decide ((c : Int) ≤ 12) = false := by simp; omega
          have HN' : Hid (nmI s = false) := by rw [Hid, HN.out]; simp [h12]
          clear HN h1 h12
          go_wp2
          go_ret
          exact ⟨ret_bool HN'.out.symm, HB.out _⟩
      · have h1' : decide ((1 : Int) ≤ (c : Int)) = false := by simp; omega
        have HN' : Hid (nmI s = false) := by rw [Hid, HN.out]; simp [h1]
        clear HN h1
        go_wp2
        go_ret
        exact ⟨ret_bool HN'.out.symm, HB.out _⟩

/-! ### parts -/
/-- May a token be a part of that kind? -/
def fitB (most : Int) (s : ByteArray) : Bool := (numOK s.data.toList && decide (valD s.data.toList ≤ most)) || nmI s

set_option maxRecDepth 100000 in
set_option maxHeartbeats 1000000 in
theorem fits_reg (s : ByteArray) (w : World) (hs : s.size ≤ maxLen) :
    Calls Tryd.prog 183 #[.int .i32 114, .string s] w fun e' w' => e' = .returned (.bool (regB s.data.toList)) ∧ w' = w := by
  have HR := hide (isReg_any s w hs)
  clear hs
  generalize regB s.data.toList = rb at *
  go_enter Tryd.func183, Tryd.ntmps183
  go_wp2_with fail
  refine (unhide HR).mono ?_
  rintro e w' ⟨rfl, rfl⟩
  go_wp2
  go_ret
  exact ⟨rfl, rfl⟩

set_option maxRecDepth 100000 in
set_option maxHeartbeats 1000000 in
theorem fits_num (kind most : Int) (s : ByteArray) (w : World) (hk : (kind = 110 ∧ most = 4095) ∨ (kind = 118 ∧ most = 4294967295)) (ht : Tab w) (hs : s.size ≤ maxLen) :
    Calls Tryd.prog 183 #[.int .i32 kind, .string s] w fun e' w' => e' = .returned (.bool (fitB most s)) ∧ Below w.heap.size w w' := by
  have HT : Hid (∀ w', Below w.heap.size w w' → Tab w') := fun w' hb => ht.below ht.pos hb
  cases hn : numOK s.data.toList
  · have HN := hide (number_no s w hn hs)
    have HF : Hid (fitB most s = nmI s) := by simp [Hid, fitB, hn]
    have HM := hide (fun w' (h : Below w.heap.size w w') => isName_any s w' (HT.out w' h) hs)
    generalize nmI s = nb at *
    clear hn ht hs
    rcases hk with ⟨rfl, rfl⟩ | ⟨rfl, rfl⟩
    all_goals
      go_enter Tryd.func183, Tryd.ntmps183
      go_wp2_with fail
      refine (unhide HN).mono ?_
      rintro e w1 ⟨rfl, hb⟩
      have HB := hide hb
      clear hb
      go_wp2_with fail
      refine (unhide HM _ HB.out).mono ?_
      rintro e w2 ⟨rfl, hb⟩
      have HB2 : Hid (Below w.heap.size w w2) := HB.out.trans (hb.mono HB.out.size)
      clear hb
      go_wp2
      go_ret
      exact ⟨ret_bool HF.out.symm, HB2.out⟩
  · have HN := hide (number_yes s w hn hs)
    by_cases hv : valD s.data.toList ≤ most
    · have HF : Hid (fitB most s = true) := by simp [Hid, fitB, hn, hv]
      generalize valD s.data.toList = v at *
      clear hn ht hs HT
      rcases hk with ⟨rfl, rfl⟩ | ⟨rfl, rfl⟩
      all_goals
        go_enter Tryd.func183, Tryd.ntmps183
        go_wp2_with fail
        refine (unhide HN).mono ?_
        rintro e w1 ⟨rfl, hb⟩
        have HB := hide hb
        clear hb
        go_wp2
        go_ret
        exact ⟨ret_bool HF.out.symm, HB.out⟩
    · have HF : Hid (fitB most s = nmI s) := by simp [Hid, fitB, hv]
      have HM := hide (fun w' (h : Below w.heap.size w w') => isName_any s w' (HT.out w' h) hs)
      have hv' : decide (valD s.data.toList ≤ most) = false := by simpa using hv
      generalize valD s.data.toList = v at *
      generalize nmI s = nb at *
      clear hn ht hs hv
      rcases hk with ⟨rfl, rfl⟩ | ⟨rfl, rfl⟩
      all_goals
        go_enter Tryd.func183, Tryd.ntmps183
        go_wp2_with fail
        refine (unhide HN).mono ?_
        rintro e w1 ⟨rfl, hb⟩
        have HB := hide hb
        clear hb
        go_wp2_with fail
        refine (unhide HM _ HB.out).mono ?_
        rintro e w2 ⟨rfl, hb⟩
        have HB2 : Hid (Below w.heap.size w w2) := HB.out.trans (hb.mono HB.out.size)
        clear hb
        go_wp2
        go_ret
        exact ⟨ret_bool HF.out.symm, HB2.out⟩
end Go.Proofs.YtmmflekajbeamaaDoor

namespace Go.Proofs.YtmmflekajbeamaaDoor
open Go.RowKit

def preB (l : List UInt8) : Bool := l.take 3 == [239, 191, 189]
set_option maxRecDepth 100000 in
set_option maxHeartbeats 400000 in
theorem hasPrefix_any (s : ByteArray) (w : World) (hs : s.size ≤ maxLen) :
    Calls Tryd.prog 144 #[.string s, .string ⟨#[239, 191, 189]⟩] w fun e' w' => e' = .returned (.bool (preB s.data.toList)) ∧ w' = w := by
  unfold maxLen at hs
  by_cases h3 : 3 ≤ s.size
  · have h3' : (3 : Int) ≤ (s.size : Int) := by omega
    have HP : Hid (((s.extract 0 3).toList == [239, 191, 189]) = preB s.data.toList) := by
      rw [Hid, ByteArray.toList_eq, Lib.extract_data]; simp [preB]
    go_enter Tryd.func144, Tryd.ntmps144
    go_wp2
    go_ret
    exact ⟨ret_bool HP.out, rfl⟩
  · have h3' : decide ((3 : Int) ≤ (s.size : Int)) = false := by simp; omega
    have HP : Hid (preB s.data.toList = false) := by
      rw [Hid, preB, beq_eq_false_iff_ne]
      intro e
      have := congrArg List.length e
      have hsz : s.data.toList.length = s.size := rfl
      simp [List.length_take] at this
      omega
    go_enter Tryd.func144, Tryd.ntmps144
    go_wp2
    go_ret
    exact ⟨ret_bool HP.out.symm, rfl⟩

/-- The text ahead of a colon at the end. -/
def colB (l : List UInt8) : Bool := l.getLast? == some 58
theorem col_eq (s : ByteArray) (h1 : 1 ≤ s.size) : ((s.extract (s.size - 1) s.size).toList == [58]) = colB s.data.toList := by
  rw [ByteArray.toList_eq, Lib.extract_data]
  have hl : s.data.toList.length = s.size := rfl
  have hne : s.data.toList ≠ [] := by intro e; rw [e] at hl; simp at hl; omega
  have e1 : (s.data.toList.drop (s.size - 1)).take (s.size - (s.size - 1)) = [s.data.toList.getLast hne] := by
    rw [List.drop_eq_getElem_cons (by omega), List.getLast_eq_getElem]
    have : s.size - (s.size - 1) = 1 := by omega
    rw [this, List.take_succ_cons, List.take_zero]
    rfl
  rw [e1]
  unfold colB
  rw [List.getLast?_eq_some_getLast hne]
  rw [Bool.eq_iff_iff]; simp
set_option maxRecDepth 100000 in
set_option maxHeartbeats 400000 in
theorem cutSuffix_yes (s : ByteArray) (w : World) (hs : s.size ≤ maxLen) (h1 : 1 ≤ s.size) (hc : colB s.data.toList = true) :
    Calls Tryd.prog 156 #[.string s, .string ⟨#[58]⟩] w fun e' w' => e' = .returned (.tuple #[.string (s.extract 0 (s.size - 1)), .bool true]) ∧ w' = w := by
  have hq := col_eq s h1
  rw [hc] at hq
  unfold maxLen at hs
  have h1' : (1 : Int) ≤ (s.size : Int) := by omega
  go_enter Tryd.func156, Tryd.ntmps156
  go_wp2
  go_ret2
  exact ⟨rfl, rfl⟩
set_option maxRecDepth 100000 in
set_option maxHeartbeats 400000 in
theorem cutSuffix_no (s : ByteArray) (w : World) (hs : s.size ≤ maxLen) (h1 : 1 ≤ s.size) (hc : colB s.data.toList = false) :
    Calls Tryd.prog 156 #[.string s, .string ⟨#[58]⟩] w fun e' w' => e' = .returned (.tuple #[.string s, .bool false]) ∧ w' = w := by
  have hq := col_eq s h1
  rw [hc] at hq
  unfold maxLen at hs
  have h1' : (1 : Int) ≤ (s.size : Int) := by omega
  go_enter Tryd.func156, Tryd.ntmps156
  go_wp2
  go_ret2
  exact ⟨rfl, rfl⟩

theorem or_join (x y : Int) (i : Nat) (hx0 : 0 ≤ x) (hx1 : x < 4294967296) (hy0 : 0 ≤ y) (hy1 : y < (2 ^ i : Nat)) (hi : i ≤ 32) (hm : x % (2 ^ i : Nat) = 0) : bits .or .i64 x y = x + y := by
  obtain ⟨a, rfl⟩ := Int.eq_ofNat_of_zero_le hx0
  obtain ⟨b, rfl⟩ := Int.eq_ofNat_of_zero_le hy0
  have hp : 2 ^ i ≤ 2 ^ 32 := Nat.pow_le_pow_right (by decide) hi
  have hb : b < 2 ^ i := by omega
  have hj : a ||| b = a + b := nat_join i a b (by omega) hb
  have h1 : (BitVec.ofInt 64 (a : Int)).toNat = a := by
    rw [BitVec.ofInt_natCast, BitVec.toNat_ofNat]; exact Nat.mod_eq_of_lt (by omega)
  have h2 : (BitVec.ofInt 64 (b : Int)).toNat = b := by
    rw [BitVec.ofInt_natCast, BitVec.toNat_ofNat]; exact Nat.mod_eq_of_lt (by omega)
  show IntKind.i64.wrap ((BitVec.ofInt 64 (a : Int) ||| BitVec.ofInt 64 (b : Int)).toNat : Int) = _
  rw [BitVec.toNat_or, h1, h2, IntKind.wrap_i64, hj]
  omega
set_option maxRecDepth 100000 in
set_option maxHeartbeats 400000 in
theorem join_any (op a b c k : Int) (w : World) (o0 : 0 ≤ op) (o1 : op ≤ 10) (a0 : 0 ≤ a) (a1 : a < 8) (b0 : 0 ≤ b) (b1 : b < 8) (c0 : 0 ≤ c) (c1 : c < 8) (k0 : 0 ≤ k) (k1 : k < 4096) :
    Calls Tryd.prog 186 #[.agg #[.int .i64 op, .int .i64 a, .int .i64 b, .int .i64 c, .int .i64 k]] w fun e' w' => e' = .returned (.int .i64 (op * 16777216 + a * 1048576 + b * 65536 + c * 4096 + k)) ∧ Below w.heap.size w w' := by
  have e1 := or_join (op * 16777216) (a * 1048576) 24 (by omega) (by omega) (by omega) (by omega) (by decide) (by omega)
  have e2 := or_join (op * 16777216 + a * 1048576) (b * 65536) 20 (by omega) (by omega) (by omega) (by omega) (by decide) (by omega)
  have e3 := or_join (op * 16777216 + a * 1048576 + b * 65536) (c * 4096) 16 (by omega) (by omega) (by omega) (by omega) (by decide) (by omega)
  have e4 := or_join (op * 16777216 + a * 1048576 + b * 65536 + c * 4096) k 12 (by omega) (by omega) (by omega) (by omega) (by decide) (by omega)
  go_enter Tryd.func186, Tryd.ntmps186
  go_wp2
  go_ret
  refine ⟨ret_int ?_, (Below.refl _ _).alloc (Nat.le_refl _) _⟩
  rfl
end Go.Proofs.YtmmflekajbeamaaDoor

namespace Go.Proofs.YtmmflekajbeamaaDoor
open Go.RowKit

theorem zero34 (w : World) : (zeroValue 34).run Tryd.prog w = .ok (.agg (S zeroZ)) w := by kernel_rfl
theorem size34 : (Tryd.prog.info? 34).map (·.size) = some 138 := by kernel_rfl

theorem row_of {w : World} {n k : Nat} (h : isRowB w n k = true) : ∃ t, w.heap[n]? = some (.cells (rowD w n) t (0, 0)) ∧ (rowD w n).size = k := by
  unfold isRowB at h
  unfold rowD
  cases hg : w.heap[n]? with
  | none => rw [hg] at h; cases h
  | some o =>
    cases o with
    | cells c t fr =>
      rw [hg] at h
      simp only [Bool.and_eq_true, beq_iff_eq] at h
      obtain ⟨h2, rfl⟩ := h
      exact ⟨t, rfl, h2⟩
    | _ => rw [hg] at h; cases h
theorem wpList_load_S {ops : Array Oper} {rest : List Oper} {o : Oper} {a : Act} {w : World} {Q : Exit → Act → World → Prop} (hgd : o.guard = none) (x : Operand) (ho : o.op = .load 34 x)
    (n : Nat) (hx : a.eval x = .pointer (some ⟨n, 0, none⟩)) (hr : isRowB w n 138 = true) (c : Array Value) (hc : rowD w n = c)
    (h : wpList Tryd.prog ops Q rest (a.put o.dst (.agg c)) w) : wpList Tryd.prog ops Q (o :: rest) a w := by
  subst hc
  obtain ⟨t, hg, hs⟩ := row_of hr
  exact wpList_load_row hgd 34 x ho n hx t _ (0, 0) _ hg Tryd.underlying34 rfl (by rw [size34, hs]) h
theorem wpList_store_S {ops : Array Oper} {rest : List Oper} {o : Oper} {a : Act} {w : World} {Q : Exit → Act → World → Prop} (hgd : o.guard = none) (x y : Operand) (ho : o.op = .store 34 x y)
    (n : Nat) (hx : a.eval x = .pointer (some ⟨n, 0, none⟩)) (z : List Int) (hy : a.eval y = .agg (S z)) (hz : z.length = 138) (hr : isRowB w n 138 = true) (w' : World) (hw : w.setRow n (S z) = w')
    (h : wpList Tryd.prog ops Q rest (a.put o.dst undef) w') : wpList Tryd.prog ops Q (o :: rest) a w := by
  subst hw
  obtain ⟨t, hg, hs⟩ := row_of hr
  exact wpList_store_row hgd 34 x y ho n (S z) hx hy t _ hg (by rw [size34, S_size, hz]) (by rw [hs, S_size, hz]) (S_one z) h

/-! ### three blocks in a row: the state, its instruction's fields, the result -/
section
variable (w : World) (c : Array Value) (t : TypeId) (o1 o2 : Obj)
theorem size3 : ((w.alloc (.cells c t)).alloc o1).heap.size = w.heap.size + 1 + 1 := by simp
theorem rowD3 : rowD (((w.alloc (.cells c t)).alloc o1).alloc o2) w.heap.size = c := by
  rw [rowD_alloc_past _ _ _ (by simp; omega), rowD_alloc_past _ _ _ (by simp), rowD_alloc_at _ _ _ _ rfl]
theorem isRowB3 (k : Nat) (h : c.size = k) : isRowB (((w.alloc (.cells c t)).alloc o1).alloc o2) w.heap.size k = true := by
  rw [isRowB_alloc_past _ _ _ _ (by simp; omega), isRowB_alloc_past _ _ _ _ (by simp), isRowB_alloc_at _ _ _ _ _ rfl]; simpa using h
theorem isRowB3' (k : Nat) (h : c.size = k) : isRowB (((w.alloc o1).alloc o2).alloc (.cells c t)) (w.heap.size + 1 + 1) k = true := by
  rw [isRowB_alloc_at _ _ _ _ _ (by simp)]; simpa using h
theorem setRow3 (c' : Array Value) : (((w.alloc o1).alloc o2).alloc (.cells c t)).setRow (w.heap.size + 1 + 1) c' = ((w.alloc o1).alloc o2).alloc (.cells c' t) :=
  setRow_alloc_at _ _ _ _ _ (by simp)
theorem rowD3d : rowD (((w.alloc (.cells c t)).alloc o1).alloc o2).drew w.heap.size = c := rowD3 w c t o1 o2
theorem isRowB3d (k : Nat) (h : c.size = k) : isRowB (((w.alloc (.cells c t)).alloc o1).alloc o2).drew w.heap.size k = true := isRowB3 w c t o1 o2 k h
theorem isRowB3d' (k : Nat) (h : c.size = k) : isRowB (((w.alloc o1).alloc o2).alloc (.cells c t)).drew (w.heap.size + 1 + 1) k = true := isRowB3' w c t o1 o2 k h
theorem setRow3d (c' : Array Value) : (((w.alloc o1).alloc o2).alloc (.cells c t)).drew.setRow (w.heap.size + 1 + 1) c' = (((w.alloc o1).alloc o2).alloc (.cells c' t)).drew := by
  rw [setRow_drew, setRow3]
theorem below3d (o : Obj) : Below w.heap.size w (((w.alloc o1).alloc o2).alloc o).drew :=
  ((((Below.refl _ _).alloc (Nat.le_refl _) _).alloc (by simp) _).alloc (by simp; omega) _).drew
theorem heap3 (o : Obj) : (((w.alloc o1).alloc o2).alloc o).heap[w.heap.size + 1 + 1]? = some o := by
  have := _root_.Go.heap_alloc_new ((w.alloc o1).alloc o2) o
  simpa using this
theorem below3 (o : Obj) : Below w.heap.size w (((w.alloc o1).alloc o2).alloc o) :=
  (((Below.refl _ _).alloc (Nat.le_refl _) _).alloc (by simp) _).alloc (by simp; omega) _
end
theorem still_tail {P : Program} {id : Nat} {Q : Exit → Act → World → Prop} {a : Act} {w : World} {l : List Oper} (n : Nat) (hm : P.follows .mixedOrders = true) (hB : Region.lexTailB .any l.toArray n = true)
    (h : wpStill P l.toArray w.drew (fun a' => wpList P l.toArray Q (l.drop n) a' w.drew) (l.take n) a) : (Code.region id l.toArray true).wp P Q a w :=
  wp_region_still_tail n hm hB h
theorem still_all {P : Program} {id : Nat} {Q : Exit → Act → World → Prop} {a : Act} {w : World} {l : List Oper} (hm : P.follows .mixedOrders = true) (hB : Region.lexB .any l.toArray = true)
    (h : wpStill P l.toArray w.drew (fun a' => Q .normal a' w.drew) l a) : (Code.region id l.toArray true).wp P Q a w :=
  wp_region_still_lit hm hB h
theorem len_set2 {z : List Int} (hl : z.length = 138) (i j : Nat) (x y : Int) : ((z.set i x).set j y).length = 138 := by simp [hl]


theorem size_alloc1 (w : World) (o : Obj) : (w.alloc o).heap.size = w.heap.size + 1 := by simp
/-! ### a row in a world that is a letter -/
theorem isRowB_below {B : Nat} {W w1 : World} (hb : Below B W w1) {n : Nat} (hn : n < B) (k : Nat) : isRowB w1 n k = isRowB W n k := by
  unfold isRowB; rw [hb.block n hn]
theorem rowD_below {B : Nat} {W w1 : World} (hb : Below B W w1) {n : Nat} (hn : n < B) : rowD w1 n = rowD W n := by
  unfold rowD; rw [hb.block n hn]
theorem rowD_setCell {w : World} {n k : Nat} (h : isRowB w n k = true) (i : Nat) (v : Value) : rowD (w.setCell ⟨n, i, none⟩ v) n = (rowD w n).setIfInBounds i v := by
  obtain ⟨t, hg, _⟩ := row_of h
  unfold rowD
  rw [heap_setCell_same w n i _ t v hg]
  rfl
theorem isRowB_setCell {w : World} {n k : Nat} (h : isRowB w n k = true) (i : Nat) (v : Value) : isRowB (w.setCell ⟨n, i, none⟩ v) n k = true := by
  obtain ⟨t, hg, hs⟩ := row_of h
  unfold isRowB
  rw [heap_setCell_same w n i _ t v hg]
  simp [hs]
theorem isRowB_setCell_other {w : World} {n k : Nat} (h : isRowB w n k = true) (m i : Nat) (hm : n ≠ m) (v : Value) : isRowB (w.setCell ⟨m, i, none⟩ v) n k = true := by
  unfold isRowB
  rw [heap_setCell_other w ⟨m, i, none⟩ n v hm]
  exact h
theorem heap_setRow_S {w : World} {n : Nat} (h : isRowB w n 138 = true) (c : Array Value) : ∃ t, (w.setRow n c).heap[n]? = some (.cells c t (0, 0)) := by
  obtain ⟨t, hg, _⟩ := row_of h
  exact ⟨t, setRow_heap w n _ c t (0, 0) hg⟩
theorem below_setRow {B : Nat} {W w1 : World} (hb : Below B W w1) {n : Nat} (hn : B ≤ n) (c : Array Value) : Below B W (w1.setRow n c) :=
  ⟨hb.os, hb.tape, hb.output, by rw [size_setRow]; exact hb.size, fun k hk => (setRow_other w1 n k c (by omega)).trans (hb.block k hk)⟩
theorem below_alloc {w : World} (o : Obj) : Below w.heap.size w (w.alloc o) := (Below.refl _ _).alloc (Nat.le_refl _) _

/-- The result of a function that gives a state and a number: read out of its cell. -/
theorem res_S {fn : Func} {p u : Tmp} (h : fn.results = #[.cell p 34, .tmp u]) (tmps : Array Value) (w : World) (g : Nat) (t : TypeId) (z : List Int) (hz : z.length = 138)
    (hp : tmps.getD p undef = .pointer (some ⟨g, 0, none⟩)) (hg : w.heap[g]? = some (.cells (S z) t (0, 0))) (e : Int) (hu : tmps.getD u undef = .int .i64 e) :
    (results fn tmps).run Tryd.prog w = .ok (.tuple #[.agg (S z), .int .i64 e]) w := by
  rw [results_cell_tmp h, hp, hu]
  simp only [asAddr, Sem.run_pure, Result.andThen]
  rw [run_loadVar_row w g t 34 (S z) (0, 0) _ hg Tryd.underlying34 rfl (by rw [size34, S_size, hz])]
end Go.Proofs.YtmmflekajbeamaaDoor
