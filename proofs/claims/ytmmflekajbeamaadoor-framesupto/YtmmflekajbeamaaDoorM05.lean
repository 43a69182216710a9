/-
  Frames, as plain mathematics: the first frame of a text, and what the frames of an area tell.
  The document's own answer: its small functions on a token's text: a number up to a bound (digits), a register.
  The document's own answer: what an instruction is called, and its parts (form); a register.
  Names, parts of an instruction, and small texts of the library: isName, fits, Join, HasPrefix, CutSuffix.
  Small texts of the library at our arguments (HasPrefix, CutSuffix), and a word put together (Join).
-/
import Derived.Test.YtmmflekajbeamaaDoorM02
import Derived.Test.YtmmflekajbeamaaDoorM04
namespace Go.Proofs.YtmmflekajbeamaaDoor

/-- A text's bytes, as a list. -/
def lst (s : ByteArray) : List UInt8 := s.data.toList
theorem lst_len (s : ByteArray) : (lst s).length = s.size := by unfold lst; rw [Array.length_toList]; rfl
theorem bya_lst (s : ByteArray) : bya (lst s) = s := by simp [bya, lst]
theorem lst_bya (l : List UInt8) : lst (bya l) = l := by simp [bya, lst]
/-- How long the first frame's payload should be. -/
def frN (l : List UInt8) : Nat := (l.getD 2 0).toNat * 256 + (l.getD 3 0).toNat
/-- The first frame of a text: its kind and its payload. -/
def frst (l : List UInt8) : Option (Nat × List UInt8) :=
  if l.length < 8 then none else
  if l.length < frN l + 8 then none else
  if 1 ≤ (l.getD 1 0).toNat ∧ (l.getD 1 0).toNat ≤ 3 ∧ frN l ≤ 200 ∧ l.take (frN l + 8) = frT (l.getD 1 0).toNat ((l.drop 4).take (frN l)) then
    some ((l.getD 1 0).toNat, (l.drop 4).take (frN l))
  else none
theorem frst_some {l : List UInt8} {k : Nat} {p : List UInt8} (h : frst l = some (k, p)) : 1 ≤ k ∧ k ≤ 3 ∧ p.length ≤ 200 ∧ p.length + 8 ≤ l.length ∧ l.take (p.length + 8) = frT k p ∧ k = (l.getD 1 0).toNat ∧ p.length = frN l ∧ p = (l.drop 4).take (frN l) := by
  unfold frst at h
  generalize frN l = n at h ⊢
  generalize (l.getD 1 0).toNat = kk at h ⊢
  by_cases h1 : l.length < 8
  · rw [if_pos h1] at h; cases h
  rw [if_neg h1] at h
  by_cases h2 : l.length < n + 8
  · rw [if_pos h2] at h; cases h
  rw [if_neg h2] at h
  by_cases h3 : 1 ≤ kk ∧ kk ≤ 3 ∧ n ≤ 200 ∧ l.take (n + 8) = frT kk ((l.drop 4).take n)
  · rw [if_pos h3] at h
    obtain ⟨a1, a2, a3, a4⟩ := h3
    cases h
    have hl : ((l.drop 4).take n).length = n := by rw [List.length_take, List.length_drop]; omega
    rw [hl]
    exact ⟨a1, a2, a3, by omega, a4, rfl, rfl, rfl⟩
  · rw [if_neg h3] at h; cases h
/-- Is a text the words of a block? -/
def blkB (s : ByteArray) : Bool := decide (4 ≤ s.size ∧ s.size ≤ 32 ∧ s.size % 4 = 0) && (List.range (s.size / 4 - 1)).all fun j => plW (wdAt s j)
theorem blkB_iff (s : ByteArray) : blkB s = true ↔ blkOK s := by
  unfold blkB blkOK
  rw [Bool.and_eq_true, decide_eq_true_eq, List.all_eq_true]
  constructor
  · rintro ⟨⟨h1, h2, h3⟩, h4⟩
    exact ⟨h1, h2, h3, fun j hj => h4 j (List.mem_range.2 (by omega))⟩
  · rintro ⟨h1, h2, h3, h4⟩
    exact ⟨⟨h1, h2, h3⟩, fun j hj => h4 j (by have := List.mem_range.1 hj; omega)⟩
/-- What an area's frames tell. -/
structure ArN where
  gen : Nat
  whole : Bool
  good : Nat
  list : List (List UInt8 × List UInt8)
def ar0 : ArN := ⟨0, false, 0, []⟩
/-- A frame more, if it may stand there. -/
def arT (a : ArN) (k : Nat) (p : List UInt8) : Option ArN :=
  if a.gen = 0 then (if k = 1 ∧ p.length = 4 ∧ beN (bya p) 0 4 ≠ 0 then some ⟨beN (bya p) 0 4, a.whole, a.good + (p.length + 8), a.list⟩ else none)
  else if k = 2 then (if p ≠ [] ∧ 1 + 4 * (p.getD 0 0).toNat ≤ p.length ∧ blkB (bya ((p.drop 1).take (4 * (p.getD 0 0).toNat))) = true then some ⟨a.gen, a.whole, a.good + (p.length + 8), a.list ++ [((p.drop 1).take (4 * (p.getD 0 0).toNat), p.drop (1 + 4 * (p.getD 0 0).toNat))]⟩ else none)
  else if k = 3 then (if a.whole = false ∧ p = [] then some ⟨a.gen, true, a.good + (p.length + 8), a.list⟩ else none)
  else none
/-- An area's frames, from where one stands. -/
def scn : Nat → ArN → List UInt8 → ArN
  | 0, a, _ => a
  | f + 1, a, l => match frst l with
    | none => a
    | some (k, p) => match arT a k p with
      | none => a
      | some a' => scn f a' (l.drop (p.length + 8))
theorem arT_good {a a' : ArN} {k : Nat} {p : List UInt8} (h : arT a k p = some a') : a'.good = a.good + (p.length + 8) ∧ 0 < a'.gen ∧ a'.list.length ≤ a.list.length + 1 := by
  unfold arT at h
  split at h
  · split at h
    · rename_i h1 h2
      cases h
      exact ⟨rfl, by have := h2.2.2; simp only; omega, Nat.le_succ _⟩
    · cases h
  · rename_i hg
    have hg' : 0 < a.gen := by omega
    split at h
    · split at h
      · cases h
        exact ⟨rfl, hg', by simp⟩
      · cases h
    · split at h
      · split at h
        · cases h
          exact ⟨rfl, hg', Nat.le_succ _⟩
        · cases h
      · cases h
/-- More rounds than there are frames change nothing. -/
theorem scn_more : ∀ (f g : Nat) (a : ArN) (l : List UInt8), l.length < f → f ≤ g → scn g a l = scn f a l := by
  intro f
  induction f with
  | zero => intro g a l h; omega
  | succ f ih =>
    intro g a l hl hg
    obtain ⟨g, rfl⟩ : ∃ g', g = g' + 1 := ⟨g - 1, by omega⟩
    rw [scn, scn]
    cases hf : frst l with
    | none => rfl
    | some kp =>
      obtain ⟨k, p⟩ := kp
      simp only
      cases ht : arT a k p with
      | none => rfl
      | some a' =>
        simp only
        have := (frst_some hf).2.2.2.1
        exact ih g a' _ (by rw [List.length_drop]; omega) (by omega)
/-- What a text tells. -/
def scan (l : List UInt8) : ArN := scn (l.length + 1) ar0 l
end Go.Proofs.YtmmflekajbeamaaDoor

namespace Go.Proofs.YtmmflekajbeamaaDoor
open Go.RowKit

def digOK (most : Int) (l : List UInt8) : Bool := numOK l && decide (valD l ≤ most)

set_option maxRecDepth 100000 in
set_option maxHeartbeats 1000000 in
/-- A number of digits alone: that number, if it is not above the bound. -/
theorem rdigits_num (s : ByteArray) (most : Int) (w : World) (hok : numOK s.data.toList = true) :
    Calls Tryd.prog 167 #[.string s, .int .i64 most] w fun e' w' => ((valD s.data.toList ≤ most ∧ e' = .returned (.int .i64 (valD s.data.toList))) ∨ (most < valD s.data.toList ∧ e' = .returned (.int .i64 (-1)))) ∧ w' = w := by
  have hok' := hok
  simp only [numOK, Bool.and_eq_true, decide_eq_true_eq, List.all_eq_true] at hok'
  obtain ⟨⟨hl1, hl2⟩, hall⟩ := hok'
  have hsz : s.data.toList.length = s.size := rfl
  rw [hsz] at hl1 hl2
  have h1' : ¬ (s.size : Int) < 1 := by omega
  have h10' : ¬ (10 : Int) < (s.size : Int) := by omega
  have HA := hide hall
  clear hall hok hsz
  go_enter Tryd.func167, Tryd.ntmps167
  go_wp2
  go_loop [5, 6] (fun n i => ∃ k : Nat, k ≤ s.size ∧ i = .int .i64 k ∧ n = .int .i64 (valD (s.data.toList.take k))) (fun _ i => s.size - (intOf i).toNat)
  case atStart => exact ⟨0, Nat.zero_le _, rfl, rfl⟩
  case round =>
    obtain ⟨k, hk, rfl, rfl⟩ := hrel
    obtain ⟨v0, v1⟩ := valD_bd (s.data.toList.take k) (fun b hb => HA.out b (List.mem_of_mem_take hb)) (by rw [List.length_take]; omega)
    by_cases hlt : k < s.size
    · have hdg : digC s[k] = true := HA.out _ (by rw [ByteArray.getElem_eq_getElem_data]; simp)
      have HV := hide (valD_snoc (s.data.toList.take k) s[k])
      rw [← take_snoc s k hlt] at HV
      have hdd : 48 ≤ s[k].toNat ∧ s[k].toNat ≤ 57 := by simpa [digC] using hdg
      have e0' : (48 : Int) ≤ (s[k].toNat : Int) := by omega
      have e1' : (s[k].toNat : Int) ≤ 57 := by omega
      clear hdg hdd
      go_wp2
      go_round
      case rel => exact ⟨k + 1, by omega, by go_num, by rw [HV.out]⟩
      case measure => simp [intOf]; omega
    · have hkn : k = s.size := by omega
      subst hkn
      have HTk : Hid (s.data.toList.take s.size = s.data.toList) := List.take_of_length_le (Nat.le_refl _)
      rw [HTk.out] at v0 v1 ⊢
      by_cases hm : valD s.data.toList ≤ most
      · have hm' : ¬ most < valD s.data.toList := by omega
        go_wp2
        go_ret
        exact ⟨.inl rfl, rfl⟩
      · have hm' : most < valD s.data.toList := by omega
        go_wp2
        go_ret
        exact ⟨.inr rfl, rfl⟩

set_option maxRecDepth 100000 in
set_option maxHeartbeats 1000000 in
theorem rdigits_no (s : ByteArray) (most : Int) (w : World) (hok : numOK s.data.toList = false) (hs : s.size ≤ maxLen) :
    Calls Tryd.prog 167 #[.string s, .int .i64 most] w fun e' w' => e' = .returned (.int .i64 (-1)) ∧ w' = w := by
  unfold maxLen at hs
  by_cases h0 : s.size = 0
  · have h0' : (s.size : Int) < 1 := by omega
    clear hok
    go_enter Tryd.func167, Tryd.ntmps167
    go_wp2
    go_ret
    exact ⟨rfl, rfl⟩
  have h1' : ¬ (s.size : Int) < 1 := by omega
  by_cases h10 : 10 < s.size
  · have h10' : (10 : Int) < (s.size : Int) := by omega
    clear hok
    go_enter Tryd.func167, Tryd.ntmps167
    go_wp2
    go_ret
    exact ⟨rfl, rfl⟩
  have h10' : ¬ (10 : Int) < (s.size : Int) := by omega
  have HO := hide hok
  clear hok
  go_enter Tryd.func167, Tryd.ntmps167
  go_wp2
  go_loop [5, 6] (fun n i => ∃ k : Nat, k ≤ s.size ∧ i = .int .i64 k ∧ n = .int .i64 (valD (s.data.toList.take k)) ∧ Hid (∀ b ∈ s.data.toList.take k, digC b = true)) (fun _ i => s.size - (intOf i).toNat)
  case atStart => exact ⟨0, Nat.zero_le _, rfl, rfl, fun b hb => by simp at hb⟩
  case round =>
    obtain ⟨k, hk, rfl, rfl, HD⟩ := hrel
    obtain ⟨v0, v1⟩ := valD_bd (s.data.toList.take k) HD.out (by rw [List.length_take]; omega)
    by_cases hlt : k < s.size
    · by_cases hdg : digC s[k] = true
      · have HV := hide (valD_snoc (s.data.toList.take k) s[k])
        rw [← take_snoc s k hlt] at HV
        have HD' : Hid (∀ b ∈ s.data.toList.take (k + 1), digC b = true) := fun b hb => by
          rw [take_snoc s k hlt, List.mem_append] at hb
          rcases hb with hb | hb
          · exact HD.out b hb
          · rw [List.mem_singleton.1 hb]; exact hdg
        have hdd : 48 ≤ s[k].toNat ∧ s[k].toNat ≤ 57 := by simpa [digC] using hdg
        have e0' : (48 : Int) ≤ (s[k].toNat : Int) := by omega
        have e1' : (s[k].toNat : Int) ≤ 57 := by omega
        clear hdg hdd
        go_wp2
        go_round
        case rel => exact ⟨k + 1, by omega, by go_num, by rw [HV.out], HD'⟩
        case measure => simp [intOf]; omega
      · have hnd : s[k].toNat < 48 ∨ 57 < s[k].toNat := by simp [digC] at hdg; omega
        clear hdg
        rcases hnd with hnd | hnd
        · have e0' : (s[k].toNat : Int) < 48 := by omega
          go_wp2
          go_ret
          exact ⟨rfl, rfl⟩
        · have e0' : ¬ (s[k].toNat : Int) < 48 := by omega
          have e1' : (57 : Int) < (s[k].toNat : Int) := by omega
          go_wp2
          go_ret
          exact ⟨rfl, rfl⟩
    · exfalso
      have hkn : k = s.size := by omega
      subst hkn
      have h1 : s.data.toList.take s.size = s.data.toList := List.take_of_length_le (Nat.le_refl _)
      have h2 := HD.out
      rw [h1] at h2
      have h3 : numOK s.data.toList = true := by
        simp only [numOK, Bool.and_eq_true, decide_eq_true_eq, List.all_eq_true]
        have hsz : s.data.toList.length = s.size := rfl
        exact ⟨by omega, h2⟩
      rw [h3] at HO
      cases HO.out
end Go.Proofs.YtmmflekajbeamaaDoor

namespace Go.Proofs.YtmmflekajbeamaaDoor
open Go.RowKit

/-- The number of an instruction's name, and its parts as the document's answer letters them. -/
def fmOp : Nat → Int
  | 0 => 0 | 1 => 1 | 2 => 2 | 3 => 3 | 4 => 4 | 5 => 5 | 6 => 6 | 7 => 7 | 8 => 8 | 9 => 9 | 10 => 10 | 11 => 11 | _ => -1
def fmPt : Nat → List UInt8
  | 0 => [] | 1 => [97, 110] | 2 => [97, 98, 99] | 3 => [97, 98, 99] | 4 => [97, 98, 99] | 5 => [97, 98, 99]
  | 6 => [97, 98, 110] | 7 => [97, 98, 110] | 8 => [97, 98, 110] | 9 => [110] | 10 => [97] | 11 => [118] | _ => []

set_option maxRecDepth 100000 in
set_option maxHeartbeats 2000000 in
theorem form_no (s : ByteArray) (w : World) (h : instB s.data.toList = false) :
    Calls Tryd.prog 148 #[.string s] w fun e' w' => e' = .returned (.tuple #[.int .i64 (-1), .string ⟨#[]⟩]) ∧ w' = w := by
  have q : ∀ j, j < 12 → (s.toList == rowNm j) = false := fun j hj => by
    rw [ByteArray.toList_eq]
    have := instB_no h j hj
    rw [beq_eq_false_iff_ne] at this ⊢
    exact fun e => this e.symm
  have q0 : (s.toList == [104, 97, 108, 116]) = false := q 0 (by decide)
  have q1 : (s.toList == [115, 101, 116]) = false := q 1 (by decide)
  have q2 : (s.toList == [97, 100, 100]) = false := q 2 (by decide)
  have q3 : (s.toList == [115, 117, 98]) = false := q 3 (by decide)
  have q4 : (s.toList == [120, 111, 114]) = false := q 4 (by decide)
  have q5 : (s.toList == [109, 117, 108]) = false := q 5 (by decide)
  have q6 : (s.toList == [108, 111, 97, 100]) = false := q 6 (by decide)
  have q7 : (s.toList == [115, 116, 111, 114, 101]) = false := q 7 (by decide)
  have q8 : (s.toList == [115, 97, 109, 101]) = false := q 8 (by decide)
  have q9 : (s.toList == [106, 117, 109, 112]) = false := q 9 (by decide)
  have q10 : (s.toList == [116, 117, 114, 110]) = false := q 10 (by decide)
  have q11 : (s.toList == [119, 111, 114, 100]) = false := q 11 (by decide)
  clear q h
  go_enter Tryd.func148, Tryd.ntmps148
  go_wp2
  go_ret2
  exact ⟨rfl, rfl⟩

set_option maxRecDepth 100000 in
set_option maxHeartbeats 4000000 in
theorem form_yes (n : Nat) (w : World) (h : n < 12) :
    Calls Tryd.prog 148 #[.string ⟨(rowNm n).toArray⟩] w fun e' w' => e' = .returned (.tuple #[.int .i64 (fmOp n), .string ⟨(fmPt n).toArray⟩]) ∧ w' = w := by
  have h' : n = 0 ∨ n = 1 ∨ n = 2 ∨ n = 3 ∨ n = 4 ∨ n = 5 ∨ n = 6 ∨ n = 7 ∨ n = 8 ∨ n = 9 ∨ n = 10 ∨ n = 11 := by omega
  clear h
  rcases h' with rfl | rfl | rfl | rfl | rfl | rfl | rfl | rfl | rfl | rfl | rfl | rfl
  all_goals
    simp only [rowNm, fmOp, fmPt]
    go_enter Tryd.func148, Tryd.ntmps148
    go_wp2
    go_ret2
    exact ⟨rfl, rfl⟩
end Go.Proofs.YtmmflekajbeamaaDoor

namespace Go.Proofs.YtmmflekajbeamaaDoor
open Go.RowKit

/-- A text's characters from a place on, each a letter, or a digit behind the first: how many there are then; none: one is not so. -/
def nameGo (s : ByteArray) : Nat → Nat → Nat → Option Nat
  | 0, _, c => some c
  | f + 1, p, c => if p < s.size then
      (if letB (Utf8.decode s p).1 || (decide (0 < c) && decide (48 ≤ (Utf8.decode s p).1 ∧ (Utf8.decode s p).1 ≤ 57)) then nameGo s f (p + (Utf8.decode s p).2) (c + 1) else none)
    else some c
def nmI (s : ByteArray) : Bool := match nameGo s s.size 0 0 with | some c => decide (1 ≤ c ∧ c ≤ 12) && !takB s.data.toList | none => false
theorem nameGo_end (s : ByteArray) (f p c : Nat) (h : ¬ p < s.size) : nameGo s f p c = some c := by cases f <;> simp [nameGo, h]
theorem nmI_none {s : ByteArray} (h : nameGo s s.size 0 0 = none) : nmI s = false := by simp [nmI, h]
theorem nmI_some {s : ByteArray} {c : Nat} (h : nameGo s s.size 0 0 = some c) : nmI s = (decide (1 ≤ c ∧ c ≤ 12) && !takB s.data.toList) := by simp [nmI, h]

set_option maxRecDepth 100000 in
set_option maxHeartbeats 1000000 in
theorem isName_any (s : ByteArray) (w : World) (ht : Tab w) (hs : s.size ≤ maxLen) :
    Calls Tryd.prog 157 #[.string s] w fun e' w' => e' = .returned (.bool (nmI s)) ∧ Below w.heap.size w w' := by
  have HTk := hide (fun p => isTaken_any s (w.iter s p) (ht.below ht.pos ((Below.refl _ _).alloc (Nat.le_refl _) _)) hs)
  have HB : Hid (∀ p, Below w.heap.size w (w.iter s p)) := fun p => (Below.refl _ _).alloc (Nat.le_refl _) _
  have nx := @run_next_any Tryd.prog w s
  have ne := @run_next_end Tryd.prog w s
  unfold maxLen at hs
  clear ht
  go_enter Tryd.func157, Tryd.ntmps157
  go_wp2
  go_loopw [3] (fun n wr => ∃ f p c : Nat, wr = w.iter s p ∧ n = .int .i64 c ∧ c ≤ p ∧ s.size ≤ p + f ∧ Hid (nameGo s f p c = nameGo s s.size 0 0)) (fun _ wr => s.size - wr.iterPos w.heap.size)
  case atStart => exact ⟨s.size, 0, 0, rfl, rfl, Nat.le_refl _, by omega, rfl⟩
  case round =>
    obtain ⟨f, p, c, rfl, rfl, hcp, hf, HG⟩ := hrel
    by_cases hlt : p < s.size
    · obtain ⟨f, rfl⟩ : ∃ g, f = g + 1 := ⟨f - 1, by omega⟩
      have hw := Lib.decode_width_pos s p hlt
      have hr0 : (0 : Int) ≤ ((Utf8.decode s p).1 : Int) := by omega
      have nxp := nx p
      have HS : Hid (nameGo s (f + 1) p c = if letB (Utf8.decode s p).1 || (decide (0 < c) && decide (48 ≤ (Utf8.decode s p).1 ∧ (Utf8.decode s p).1 ≤ 57)) then nameGo s f (p + (Utf8.decode s p).2) (c + 1) else none) := by
        simp [Hid, nameGo, hlt]
      have HL := hide (isLetter_any ((Utf8.decode s p).1 : Int))
      have HD := hide (isDigit_any ((Utf8.decode s p).1 : Int))
      generalize hd : Utf8.decode s p = d at *
      obtain ⟨r, n⟩ := d
      simp only at *
      clear hd nx
      cases hl : letB (r : Int)
      · rw [hl] at HL HS
        by_cases hc : 0 < c
        · have hc0 : ((c : Int) == 0) = false := by simp; omega
          have hcd : decide (0 < c) = true := by simpa using hc
          rw [hcd] at HS
          by_cases hdg : 48 ≤ r ∧ r ≤ 57
          · have hd1 : decide ((48 : Int) ≤ (r : Int) ∧ (r : Int) ≤ 57) = true := by rw [decide_eq_true_eq]; omega
            rw [hd1] at HD
            have HG' : Hid (nameGo s f (p + n) (c + 1) = nameGo s s.size 0 0) := by rw [← HG.out, HS.out]; simp [Hid, hdg]
            clear HG HS hl hd1 hdg hcd
            go_wp2_with (first | (go_at_call 173; refine (unhide HL _).mono ?_; rintro e w' ⟨rfl, rfl⟩) | (go_at_call 174; refine (unhide HD _).mono ?_; rintro e w' ⟨rfl, rfl⟩))
            go_roundw
            case rel => exact ⟨f, p + n, c + 1, rfl, by go_num, by omega, by omega, HG'⟩
            case measure => simp; omega
          · have hd1 : decide ((48 : Int) ≤ (r : Int) ∧ (r : Int) ≤ 57) = false := by rw [decide_eq_false_iff_not]; omega
            rw [hd1] at HD
            have HN : Hid (nmI s = false) := nmI_none (by rw [← HG.out, HS.out]; simp [hdg])
            clear HG HS hl hd1 hdg hcd
            go_wp2_with (first | (go_at_call 173; refine (unhide HL _).mono ?_; rintro e w' ⟨rfl, rfl⟩) | (go_at_call 174; refine (unhide HD _).mono ?_; rintro e w' ⟨rfl, rfl⟩))
            go_ret
            exact ⟨ret_bool HN.out.symm, HB.out _⟩
        · obtain rfl : c = 0 := by omega
          have HN : Hid (nmI s = false) := nmI_none (by rw [← HG.out, HS.out]; simp)
          clear HG HS hl HD
          go_wp2_with (go_at_call 173; refine (unhide HL _).mono ?_; rintro e w' ⟨rfl, rfl⟩)
          go_ret
          exact ⟨ret_bool HN.out.symm, HB.out _⟩
      · rw [hl] at HL HS
        have HG' : Hid (nameGo s f (p + n) (c + 1) = nameGo s s.size 0 0) := by rw [← HG.out, HS.out]; rfl
        clear HG HS hl HD
        go_wp2_with (go_at_call 173; refine (unhide HL _).mono ?_; rintro e w' ⟨rfl, rfl⟩)
        go_roundw
        case rel => exact ⟨f, p + n, c + 1, rfl, by go_num, by omega, by omega, HG'⟩
        case measure => simp; omega
    · have hgo : nameGo s s.size 0 0 = some c := by rw [← HG.out]; exact nameGo_end s f p c hlt
      have HN := hide (nmI_some hgo)
      clear hgo HG nx
      have nep := ne p
      have HTp := hide (unhide HTk p)
      clear HTk ne
      by_cases h1 : 1 ≤ c
      · by_cases h12 : c ≤ 12
        · have h1' : (1 : Int) ≤ (c : Int) := by omega
          have h12' : (c : Int) ≤ 12 := by omega
          have HN' : Hid (nmI s = !takB s.data.toList) := by rw [Hid, HN.out]; simp [h1, h12]
          generalize takB s.data.toList = tb at *
          clear HN h1 h12
          go_wp2_with fail
          refine (unhide HTp).mono ?_
          rintro e w1 ⟨rfl, hb⟩
          have HB1 : Hid (Below w.heap.size w w1) := (HB.out p).trans (hb.mono (HB.out p).size)
          clear hb
          go_wp2
          go_ret
          exact ⟨ret_bool HN'.out.symm, HB1.out⟩
        · have h1' : (1 : Int) ≤ (c : Int) := by omega
          have h12' : decide ((c : Int) ≤ 12) = false := by simp; omega
          have HN' : Hid (nmI s = false) := by rw [Hid, HN.out]; simp [h12]
          clear HN h1 h12
          go_wp2
          go_ret
          exact ⟨ret_bool HN'.out.symm, HB.out _⟩
      · have h1' : decide ((1 : Int) ≤ (c : Int)) = false := by simp; omega
        have HN' : Hid (nmI s = false) := by rw [Hid, HN.out]; simp [h1]
        clear HN h1
        go_wp2
        go_ret
        exact ⟨ret_bool HN'.out.symm, HB.out _⟩

/-! ### parts -/
/-- May a token be a part of that kind? -/
def fitB (most : Int) (s : ByteArray) : Bool := (numOK s.data.toList && decide (valD s.data.toList ≤ most)) || nmI s

set_option maxRecDepth 100000 in
set_option maxHeartbeats 1000000 in
theorem fits_reg (s : ByteArray) (w : World) (hs : s.size ≤ maxLen) :
    Calls Tryd.prog 183 #[.int .i32 114, .string s] w fun e' w' => e' = .returned (.bool (regB s.data.toList)) ∧ w' = w := by
  have HR := hide (isReg_any s w hs)
  clear hs
  generalize regB s.data.toList = rb at *
  go_enter Tryd.func183, Tryd.ntmps183
  go_wp2_with fail
  refine (unhide HR).mono ?_
  rintro e w' ⟨rfl, rfl⟩
  go_wp2
  go_ret
  exact ⟨rfl, rfl⟩

set_option maxRecDepth 100000 in
set_option maxHeartbeats 1000000 in
theorem fits_num (kind most : Int) (s : ByteArray) (w : World) (hk : (kind = 110 ∧ most = 4095) ∨ (kind = 118 ∧ most = 4294967295)) (ht : Tab w) (hs : s.size ≤ maxLen) :
    Calls Tryd.prog 183 #[.int .i32 kind, .string s] w fun e' w' => e' = .returned (.bool (fitB most s)) ∧ Below w.heap.size w w' := by
  have HT : Hid (∀ w', Below w.heap.size w w' → Tab w') := fun w' hb => ht.below ht.pos hb
  cases hn : numOK s.data.toList
  · have HN := hide (number_no s w hn hs)
    have HF : Hid (fitB most s = nmI s) := by simp [Hid, fitB, hn]
    have HM := hide (fun w' (h : Below w.heap.size w w') => isName_any s w' (HT.out w' h) hs)
    generalize nmI s = nb at *
    clear hn ht hs
    rcases hk with ⟨rfl, rfl⟩ | ⟨rfl, rfl⟩
    all_goals
      go_enter Tryd.func183, Tryd.ntmps183
      go_wp2_with fail
      refine (unhide HN).mono ?_
      rintro e w1 ⟨rfl, hb⟩
      have HB := hide hb
      clear hb
      go_wp2_with fail
      refine (unhide HM _ HB.out).mono ?_
      rintro e w2 ⟨rfl, hb⟩
      have HB2 : Hid (Below w.heap.size w w2) := HB.out.trans (hb.mono HB.out.size)
      clear hb
      go_wp2
      go_ret
      exact ⟨ret_bool HF.out.symm, HB2.out⟩
  · have HN := hide (number_yes s w hn hs)
    by_cases hv : valD s.data.toList ≤ most
    · have HF : Hid (fitB most s = true) := by simp [Hid, fitB, hn, hv]
      generalize valD s.data.toList = v at *
      clear hn ht hs HT
      rcases hk with ⟨rfl, rfl⟩ | ⟨rfl, rfl⟩
      all_goals
        go_enter Tryd.func183, Tryd.ntmps183
        go_wp2_with fail
        refine (unhide HN).mono ?_
        rintro e w1 ⟨rfl, hb⟩
        have HB := hide hb
        clear hb
        go_wp2
        go_ret
        exact ⟨ret_bool HF.out.symm, HB.out⟩
    · have HF : Hid (fitB most s = nmI s) := by simp [Hid, fitB, hv]
      have HM := hide (fun w' (h : Below w.heap.size w w') => isName_any s w' (HT.out w' h) hs)
      have hv' : decide (valD s.data.toList ≤ most) = false := by simpa using hv
      generalize valD s.data.toList = v at *
      generalize nmI s = nb at *
      clear hn ht hs hv
      rcases hk with ⟨rfl, rfl⟩ | ⟨rfl, rfl⟩
      all_goals
        go_enter Tryd.func183, Tryd.ntmps183
        go_wp2_with fail
        refine (unhide HN).mono ?_
        rintro e w1 ⟨rfl, hb⟩
        have HB := hide hb
        clear hb
        go_wp2_with fail
        refine (unhide HM _ HB.out).mono ?_
        rintro e w2 ⟨rfl, hb⟩
        have HB2 : Hid (Below w.heap.size w w2) := HB.out.trans (hb.mono HB.out.size)
        clear hb
        go_wp2
        go_ret
        exact ⟨ret_bool HF.out.symm, HB2.out⟩
end Go.Proofs.YtmmflekajbeamaaDoor

namespace Go.Proofs.YtmmflekajbeamaaDoor
open Go.RowKit

def preB (l : List UInt8) : Bool := l.take 3 == [239, 191, 189]
set_option maxRecDepth 100000 in
set_option maxHeartbeats 400000 in
theorem hasPrefix_any (s : ByteArray) (w : World) (hs : s.size ≤ maxLen) :
    Calls Tryd.prog 144 #[.string s, .string ⟨#[239, 191, 189]⟩] w fun e' w' => e' = .returned (.bool (preB s.data.toList)) ∧ w' = w := by
  unfold maxLen at hs
  by_cases h3 : 3 ≤ s.size
  · have h3' : (3 : Int) ≤ (s.size : Int) := by omega
    have HP : Hid (((s.extract 0 3).toList == [239, 191, 189]) = preB s.data.toList) := by
      rw [Hid, ByteArray.toList_eq, Lib.extract_data]; simp [preB]
    go_enter Tryd.func144, Tryd.ntmps144
    go_wp2
    go_ret
    exact ⟨ret_bool HP.out, rfl⟩
  · have h3' : decide ((3 : Int) ≤ (s.size : Int)) = false := by simp; omega
    have HP : Hid (preB s.data.toList = false) := by
      rw [Hid, preB, beq_eq_false_iff_ne]
      intro e
      have := congrArg List.length e
      have hsz : s.data.toList.length = s.size := rfl
      simp [List.length_take] at this
      omega
    go_enter Tryd.func144, Tryd.ntmps144
    go_wp2
    go_ret
    exact ⟨ret_bool HP.out.symm, rfl⟩

/-- The text ahead of a colon at the end. -/
def colB (l : List UInt8) : Bool := l.getLast? == some 58
theorem col_eq (s : ByteArray) (h1 : 1 ≤ s.size) : ((s.extract (s.size - 1) s.size).toList == [58]) = colB s.data.toList := by
  rw [ByteArray.toList_eq, Lib.extract_data]
  have hl : s.data.toList.length = s.size := rfl
  have hne : s.data.toList ≠ [] := by intro e; rw [e] at hl; simp at hl; omega
  have e1 : (s.data.toList.drop (s.size - 1)).take (s.size - (s.size - 1)) = [s.data.toList.getLast hne] := by
    rw [List.drop_eq_getElem_cons (by omega), List.getLast_eq_getElem]
    have : s.size - (s.size - 1) = 1 := by omega
    rw [this, List.take_succ_cons, List.take_zero]
    rfl
  rw [e1]
  unfold colB
  rw [List.getLast?_eq_some_getLast hne]
  rw [Bool.eq_iff_iff]; simp
set_option maxRecDepth 100000 in
set_option maxHeartbeats 400000 in
theorem cutSuffix_yes (s : ByteArray) (w : World) (hs : s.size ≤ maxLen) (h1 : 1 ≤ s.size) (hc : colB s.data.toList = true) :
    Calls Tryd.prog 156 #[.string s, .string ⟨#[58]⟩] w fun e' w' => e' = .returned (.tuple #[.string (s.extract 0 (s.size - 1)), .bool true]) ∧ w' = w := by
  have hq := col_eq s h1
  rw [hc] at hq
  unfold maxLen at hs
  have h1' : (1 : Int) ≤ (s.size : Int) := by omega
  go_enter Tryd.func156, Tryd.ntmps156
  go_wp2
  go_ret2
  exact ⟨rfl, rfl⟩
set_option maxRecDepth 100000 in
set_option maxHeartbeats 400000 in
theorem cutSuffix_no (s : ByteArray) (w : World) (hs : s.size ≤ maxLen) (h1 : 1 ≤ s.size) (hc : colB s.data.toList = false) :
    Calls Tryd.prog 156 #[.string s, .string ⟨#[58]⟩] w fun e' w' => e' = .returned (.tuple #[.string s, .bool false]) ∧ w' = w := by
  have hq := col_eq s h1
  rw [hc] at hq
  unfold maxLen at hs
  have h1' : (1 : Int) ≤ (s.size : Int) := by omega
  go_enter Tryd.func156, Tryd.ntmps156
  go_wp2
  go_ret2
  exact ⟨rfl, rfl⟩

theorem or_join (x y : Int) (i : Nat) (hx0 : 0 ≤ x) (hx1 : x < 4294967296) (hy0 : 0 ≤ y) (hy1 : y < (2 ^ i : Nat)) (hi : i ≤ 32) (hm : x % (2 ^ i : Nat) = 0) : bits .or .i64 x y = x + y := by
  obtain ⟨a, rfl⟩ := Int.eq_ofNat_of_zero_le hx0
  obtain ⟨b, rfl⟩ := Int.eq_ofNat_of_zero_le hy0
  have hp : 2 ^ i ≤ 2 ^ 32 := Nat.pow_le_pow_right (by decide) hi
  have hb : b < 2 ^ i := by omega
  have hj : a ||| b = a + b := nat_join i a b (by omega) hb
  have h1 : (BitVec.ofInt 64 (a : Int)).toNat = a := by
    rw [BitVec.ofInt_natCast, BitVec.toNat_ofNat]; exact Nat.mod_eq_of_lt (by omega)
  have h2 : (BitVec.ofInt 64 (b : Int)).toNat = b := by
    rw [BitVec.ofInt_natCast, BitVec.toNat_ofNat]; exact Nat.mod_eq_of_lt (by omega)
  show IntKind.i64.wrap ((BitVec.ofInt 64 (a : Int) ||| BitVec.ofInt 64 (b : Int)).toNat : Int) = _
  rw [BitVec.toNat_or, h1, h2, IntKind.wrap_i64, hj]
  omega
set_option maxRecDepth 100000 in
set_option maxHeartbeats 400000 in
theorem join_any (op a b c k : Int) (w : World) (o0 : 0 ≤ op) (o1 : op ≤ 10) (a0 : 0 ≤ a) (a1 : a < 8) (b0 : 0 ≤ b) (b1 : b < 8) (c0 : 0 ≤ c) (c1 : c < 8) (k0 : 0 ≤ k) (k1 : k < 4096) :
    Calls Tryd.prog 186 #[.agg #[.int .i64 op, .int .i64 a, .int .i64 b, .int .i64 c, .int .i64 k]] w fun e' w' => e' = .returned (.int .i64 (op * 16777216 + a * 1048576 + b * 65536 + c * 4096 + k)) ∧ Below w.heap.size w w' := by
  have e1 := or_join (op * 16777216) (a * 1048576) 24 (by omega) (by omega) (by omega) (by omega) (by decide) (by omega)
  have e2 := or_join (op * 16777216 + a * 1048576) (b * 65536) 20 (by omega) (by omega) (by omega) (by omega) (by decide) (by omega)
  have e3 := or_join (op * 16777216 + a * 1048576 + b * 65536) (c * 4096) 16 (by omega) (by omega) (by omega) (by omega) (by decide) (by omega)
  have e4 := or_join (op * 16777216 + a * 1048576 + b * 65536 + c * 4096) k 12 (by omega) (by omega) (by omega) (by omega) (by decide) (by omega)
  go_enter Tryd.func186, Tryd.ntmps186
  go_wp2
  go_ret
  refine ⟨ret_int ?_, (Below.refl _ _).alloc (Nat.le_refl _) _⟩
  rfl
end Go.Proofs.YtmmflekajbeamaaDoor
