/-
  Names, parts of an instruction, and small texts of the library: isName, fits, Join, HasPrefix, CutSuffix.
-/
import Derived.Test.YtgggaepeeaelhaaDoorAsA
namespace Go.Proofs.YtgggaepeeaelhaaDoor
open Go.RowKit

/-- A text's characters from a place on, each a letter, or a digit behind the first: how many there are then; none: one is not so. -/
def nameGo (s : ByteArray) : Nat → Nat → Nat → Option Nat
  | 0, _, c => some c
  | f + 1, p, c => if p < s.size then
      (if letB (Utf8.decode s p).1 || (decide (0 < c) && decide (48 ≤ (Utf8.decode s p).1 ∧ (Utf8.decode s p).1 ≤ 57)) then nameGo s f (p + (Utf8.decode s p).2) (c + 1) else none)
    else some c
def nmI (s : ByteArray) : Bool := match nameGo s s.size 0 0 with | some c => decide (1 ≤ c ∧ c ≤ 12) && !takB s.data.toList | none => false
theorem nameGo_end (s : ByteArray) (f p c : Nat) (h : ¬ p < s.size) : nameGo s f p c = some c := by cases f <;> simp [nameGo, h]
theorem nmI_none {s : ByteArray} (h : nameGo s s.size 0 0 = none) : nmI s = false := by simp [nmI, h]
theorem nmI_some {s : ByteArray} {c : Nat} (h : nameGo s s.size 0 0 = some c) : nmI s = (decide (1 ≤ c ∧ c ≤ 12) && !takB s.data.toList) := by simp [nmI, h]

set_option maxRecDepth 100000 in
set_option maxHeartbeats 1000000 in
theorem isName_any (s : ByteArray) (w : World) (ht : Tab w) (hs : s.size ≤ maxLen) :
    Calls Tryd.prog 157 #[.string s] w fun e' w' => e' = .returned (.bool (nmI s)) ∧ Below w.heap.size w w' := by
  have HTk := hide (fun p => isTaken_any s (w.iter s p) (ht.below ht.pos ((Below.refl _ _).alloc (Nat.le_refl _) _)) hs)
  have HB : Hid (∀ p, Below w.heap.size w (w.iter s p)) := fun p => (Below.refl _ _).alloc (Nat.le_refl _) _
  have nx := @run_next_any Tryd.prog w s
  have ne := @run_next_end Tryd.prog w s
  unfold maxLen at hs
  clear ht
  go_enter Tryd.func157, Tryd.ntmps157
  go_wp2
  go_loopw [3] (fun n wr => ∃ f p c : Nat, wr = w.iter s p ∧ n = .int .i64 c ∧ c ≤ p ∧ s.size ≤ p + f ∧ Hid (nameGo s f p c = nameGo s s.size 0 0)) (fun _ wr => s.size - wr.iterPos w.heap.size)
  case atStart => exact ⟨s.size, 0, 0, rfl, rfl, Nat.le_refl _, by omega, rfl⟩
  case round =>
    obtain ⟨f, p, c, rfl, rfl, hcp, hf, HG⟩ := hrel
    by_cases hlt : p < s.size
    · obtain ⟨f, rfl⟩ : ∃ g, f = g + 1 := ⟨f - 1, by omega⟩
      have hw := Lib.decode_width_pos s p hlt
      have hr0 : (0 : Int) ≤ ((Utf8.decode s p).1 : Int) := by omega
      have nxp := nx p
      have HS : Hid (nameGo s (f + 1) p c = if letB (Utf8.decode s p).1 || (decide (0 < c) && decide (48 ≤ (Utf8.decode s p).1 ∧ (Utf8.decode s p).1 ≤ 57)) then nameGo s f (p + (Utf8.decode s p).2) (c + 1) else none) := by
        simp [Hid, nameGo, hlt]
      have HL := hide (isLetter_any ((Utf8.decode s p).1 : Int))
      have HD := hide (isDigit_any ((Utf8.decode s p).1 : Int))
      generalize hd : Utf8.decode s p = d at *
      obtain ⟨r, n⟩ := d
      simp only at *
      clear hd nx
      cases hl : letB (r : Int)
      · rw [hl] at HL HS
        by_cases hc : 0 < c
        · have hc0 : ((c : Int) == 0) = false := by simp; omega
          have hcd : decide (0 < c) = true := by simpa using hc
          rw [hcd] at HS
          by_cases hdg : 48 ≤ r ∧ r ≤ 57
          · have hd1 : decide ((48 : Int) ≤ (r : Int) ∧ (r : Int) ≤ 57) = true := by rw [decide_eq_true_eq]; omega
            rw [hd1] at HD
            have HG' : Hid (nameGo s f (p + n) (c + 1) = nameGo s s.size 0 0) := by rw [← HG.out, HS.out]; simp [Hid, hdg]
            clear HG HS hl hd1 hdg hcd
            go_wp2_with (first | (go_at_call 173; refine (unhide HL _).mono ?_; rintro e w' ⟨rfl, rfl⟩) | (go_at_call 174; refine (unhide HD _).mono ?_; rintro e w' ⟨rfl, rfl⟩))
            go_roundw
            case rel => exact ⟨f, p + n, c + 1, rfl, by go_num, by omega, by omega, HG'⟩
            case measure => simp; omega
          · have hd1 : decide ((48 : Int) ≤ (r : Int) ∧ (r : Int) ≤ 57) = false := by rw [decide_eq_false_iff_not]; omega
            rw [hd1] at HD
            have HN : Hid (nmI s = false) := nmI_none (by rw [← HG.out, HS.out]; simp [hdg])
            clear HG HS hl hd1 hdg hcd
            go_wp2_with (first | (go_at_call 173; refine (unhide HL _).mono ?_; rintro e w' ⟨rfl, rfl⟩) | (go_at_call 174; refine (unhide HD _).mono ?_; rintro e w' ⟨rfl, rfl⟩))
            go_ret
            exact ⟨ret_bool HN.out.symm, HB.out _⟩
        · obtain rfl : c = 0 := by omega
          have HN : Hid (nmI s = false) := nmI_none (by rw [← HG.out, HS.out]; simp)
          clear HG HS hl HD
          go_wp2_with (go_at_call 173; refine (unhide HL _).mono ?_; rintro e w' ⟨rfl, rfl⟩)
          go_ret
          exact ⟨ret_bool HN.out.symm, HB.out _⟩
      · rw [hl] at HL HS
        have HG' : Hid (nameGo s f (p + n) (c + 1) = nameGo s s.size 0 0) := by rw [← HG.out, HS.out]; rfl
        clear HG HS hl HD
        go_wp2_with (go_at_call 173; refine (unhide HL _).mono ?_; rintro e w' ⟨rfl, rfl⟩)
        go_roundw
        case rel => exact ⟨f, p + n, c + 1, rfl, by go_num, by omega, by omega, HG'⟩
        case measure => simp; omega
    · have hgo : nameGo s s.size 0 0 = some c := by rw [← HG.out]; exact nameGo_end s f p c hlt
      have HN := hide (nmI_some hgo)
      clear hgo HG nx
      have nep := ne p
      have HTp := hide (unhide HTk p)
      clear HTk ne
      by_cases h1 : 1 ≤ c
      · by_cases h12 : c ≤ 12
        · have h1' : (1 : Int) ≤ (c : Int) := by omega
          have h12' : (c : Int) ≤ 12 := by omega
          have HN' : Hid (nmI s = !takB s.data.toList) := by rw [Hid, HN.out]; simp [h1, h12]
          generalize takB s.data.toList = tb at *
          clear HN h1 h12
          go_wp2_with fail
          refine (unhide HTp).mono ?_
          rintro e w1 ⟨rfl, hb⟩
          have HB1 : Hid (Below w.heap.size w w1) := (HB.out p).trans (hb.mono (HB.out p).size)
          clear hb
          go_wp2
          go_ret
          exact ⟨ret_bool HN'.out.symm, HB1.out⟩
        · have h1' : (1 : Int) ≤ (c : Int) := by omega
          have h12' : decide ((c : Int) ≤ 12) = false := by simp; omega
          have HN' : Hid (nmI s = false) := by rw [Hid, HN.out]; simp [h12]
          clear HN h1 h12
          go_wp2
          go_ret
          exact ⟨ret_bool HN'.out.symm, HB.out _⟩
      · have h1' : decide ((1 : Int) ≤ (c : Int)) = false := by simp; omega
        have HN' : Hid (nmI s = false) := by rw [Hid, HN.out]; simp [h1]
        clear HN h1
        go_wp2
        go_ret
        exact ⟨ret_bool HN'.out.symm, HB.out _⟩

/-! ### parts -/
/-- May a token be a part of that kind? -/
def fitB (most : Int) (s : ByteArray) : Bool := (numOK s.data.toList && decide (valD s.data.toList ≤ most)) || nmI s

set_option maxRecDepth 100000 in
set_option maxHeartbeats 1000000 in
theorem fits_reg (s : ByteArray) (w : World) (hs : s.size ≤ maxLen) :
    Calls Tryd.prog 183 #[.int .i32 114, .string s] w fun e' w' => e' = .returned (.bool (regB s.data.toList)) ∧ w' = w := by
  have HR := hide (isReg_any s w hs)
  clear hs
  generalize regB s.data.toList = rb at *
  go_enter Tryd.func183, Tryd.ntmps183
  go_wp2_with fail
  refine (unhide HR).mono ?_
  rintro e w' ⟨rfl, rfl⟩
  go_wp2
  go_ret
  exact ⟨rfl, rfl⟩

set_option maxRecDepth 100000 in
set_option maxHeartbeats 1000000 in
theorem fits_num (kind most : Int) (s : ByteArray) (w : World) (hk : (kind = 110 ∧ most = 4095) ∨ (kind = 118 ∧ most = 4294967295)) (ht : Tab w) (hs : s.size ≤ maxLen) :
    Calls Tryd.prog 183 #[.int .i32 kind, .string s] w fun e' w' => e' = .returned (.bool (fitB most s)) ∧ Below w.heap.size w w' := by
  have HT : Hid (∀ w', Below w.heap.size w w' → Tab w') := fun w' hb => ht.below ht.pos hb
  cases hn : numOK s.data.toList
  · have HN := hide (number_no s w hn hs)
    have HF : Hid (fitB most s = nmI s) := by simp [Hid, fitB, hn]
    have HM := hide (fun w' (h : Below w.heap.size w w') => isName_any s w' (HT.out w' h) hs)
    generalize nmI s = nb at *
    clear hn ht hs
    rcases hk with ⟨rfl, rfl⟩ | ⟨rfl, rfl⟩
    all_goals
      go_enter Tryd.func183, Tryd.ntmps183
      go_wp2_with fail
      refine (unhide HN).mono ?_
      rintro e w1 ⟨rfl, hb⟩
      have HB := hide hb
      clear hb
      go_wp2_with fail
      refine (unhide HM _ HB.out).mono ?_
      rintro e w2 ⟨rfl, hb⟩
      have HB2 : Hid (Below w.heap.size w w2) := HB.out.trans (hb.mono HB.out.size)
      clear hb
      go_wp2
      go_ret
      exact ⟨ret_bool HF.out.symm, HB2.out⟩
  · have HN := hide (number_yes s w hn hs)
    by_cases hv : valD s.data.toList ≤ most
    · have HF : Hid (fitB most s = true) := by simp [Hid, fitB, hn, hv]
      generalize valD s.data.toList = v at *
      clear hn ht hs HT
      rcases hk with ⟨rfl, rfl⟩ | ⟨rfl, rfl⟩
      all_goals
        go_enter Tryd.func183, Tryd.ntmps183
        go_wp2_with fail
        refine (unhide HN).mono ?_
        rintro e w1 ⟨rfl, hb⟩
        have HB := hide hb
        clear hb
        go_wp2
        go_ret
        exact ⟨ret_bool HF.out.symm, HB.out⟩
    · have HF : Hid (fitB most s = nmI s) := by simp [Hid, fitB, hv]
      have HM := hide (fun w' (h : Below w.heap.size w w') => isName_any s w' (HT.out w' h) hs)
      have hv' : decide (valD s.data.toList ≤ most) = false := by simpa using hv
      generalize valD s.data.toList = v at *
      generalize nmI s = nb at *
      clear hn ht hs hv
      rcases hk with ⟨rfl, rfl⟩ | ⟨rfl, rfl⟩
      all_goals
        go_enter Tryd.func183, Tryd.ntmps183
        go_wp2_with fail
        refine (unhide HN).mono ?_
        rintro e w1 ⟨rfl, hb⟩
        have HB := hide hb
        clear hb
        go_wp2_with fail
        refine (unhide HM _ HB.out).mono ?_
        rintro e w2 ⟨rfl, hb⟩
        have HB2 : Hid (Below w.heap.size w w2) := HB.out.trans (hb.mono HB.out.size)
        clear hb
        go_wp2
        go_ret
        exact ⟨ret_bool HF.out.symm, HB2.out⟩
end Go.Proofs.YtgggaepeeaelhaaDoor
