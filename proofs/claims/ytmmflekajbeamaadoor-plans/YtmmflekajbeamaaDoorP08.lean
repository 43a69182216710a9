/-
  Characters by the document's width against the model's decoding of a text.
  The program's cutting of a text against the document's lines and tokens, character by character.
-/
import Derived.Test.YtmmflekajbeamaaDoorP07
namespace Go.Proofs.YtmmflekajbeamaaDoor
open Go
/-- The byte at a place, as a number. -/
def bt (s : ByteArray) (i : Nat) : Nat := (s.get! i).toNat
def widC (s : ByteArray) (i : Nat) : Nat → Nat → Nat → Option Nat
  | 0, _, c => some c
  | f + 1, j, c => if bt s (i + j) < 128 ∨ 192 ≤ bt s (i + j) then none else widC s i f (j + 1) (c * 64 + bt s (i + j) - 128)
def widN (s : ByteArray) (i n c least : Nat) : Nat :=
  if s.size < i + n then 0 else match widC s i (n - 1) 1 c with | none => 0 | some c => if c < least ∨ 1114111 < c ∨ (55296 ≤ c ∧ c < 57344) then 0 else n
/-- How many bytes the character at i has; 0: none begins there. -/
def wid (s : ByteArray) (i : Nat) : Nat :=
  if bt s i < 128 then 1
  else if 192 ≤ bt s i ∧ bt s i < 224 then widN s i 2 (bt s i - 192) 128
  else if 224 ≤ bt s i ∧ bt s i < 240 then widN s i 3 (bt s i - 224) 2048
  else if 240 ≤ bt s i ∧ bt s i < 248 then widN s i 4 (bt s i - 240) 65536
  else 0
theorem bt_lt (s : ByteArray) (i : Nat) : bt s i < 256 := (s.get! i).toNat_lt
theorem getElem?_bt (s : ByteArray) (i : Nat) (h : i < s.size) : ∃ u : UInt8, s.data.toList[i]? = some u ∧ u.toNat = bt s i := by
  have h' : i < s.data.toList.length := by rw [Array.length_toList]; exact h
  refine ⟨s.data.toList[i], List.getElem?_eq_getElem h', ?_⟩
  have h2 : i < s.data.size := h
  show _ = (s.data[i]!).toNat
  rw [getElem!_pos s.data i h2, Array.getElem_toList]
theorem take3 {l : List UInt8} (h : l.take 3 = [239, 191, 189]) : l[0]? = some 239 ∧ l[1]? = some 191 ∧ l[2]? = some 189 := by
  match l, h with
  | a :: b :: c :: r, h => simp at h; simp [h]
theorem pre_iff (s : ByteArray) (p : Nat) : preB (s.data.toList.drop p) = true ↔ p + 2 < s.size ∧ bt s p = 239 ∧ bt s (p + 1) = 191 ∧ bt s (p + 2) = 189 := by
  unfold preB
  rw [beq_iff_eq]
  constructor
  · intro h
    obtain ⟨h0, h1, h2⟩ := take3 h
    rw [List.getElem?_drop] at h0 h1 h2
    have hl : p + 2 < s.size := by
      have := (List.getElem?_eq_some_iff.1 h2).1
      rw [Array.length_toList] at this
      exact this
    obtain ⟨u0, e0, f0⟩ := getElem?_bt s p (by omega)
    obtain ⟨u1, e1, f1⟩ := getElem?_bt s (p + 1) (by omega)
    obtain ⟨u2, e2, f2⟩ := getElem?_bt s (p + 2) hl
    rw [Nat.add_zero] at h0
    rw [e0] at h0; rw [e1] at h1; rw [e2] at h2
    cases h0; cases h1; cases h2
    exact ⟨hl, f0.symm, f1.symm, f2.symm⟩
  · rintro ⟨hl, h0, h1, h2⟩
    obtain ⟨u0, e0, f0⟩ := getElem?_bt s p (by omega)
    obtain ⟨u1, e1, f1⟩ := getElem?_bt s (p + 1) (by omega)
    obtain ⟨u2, e2, f2⟩ := getElem?_bt s (p + 2) hl
    have g0 : u0 = 239 := UInt8.toNat_inj.1 (f0.trans h0)
    have g1 : u1 = 191 := UInt8.toNat_inj.1 (f1.trans h1)
    have g2 : u2 = 189 := UInt8.toNat_inj.1 (f2.trans h2)
    subst g0 g1 g2
    apply List.ext_getElem?
    intro k
    match k with
    | 0 => simp [e0]
    | 1 => simp [e1]
    | 2 => simp [e2]
    | k + 3 => simp only [List.length_cons, List.length_nil, Nat.le_add_left, List.getElem?_eq_none, List.length_take, List.length_drop, List.getElem?_eq_none_iff]; omega

set_option maxRecDepth 20000 in
theorem decode_bt (s : ByteArray) (i : Nat) : Utf8.decode s i =
    if bt s i < 128 then (bt s i, 1)
    else if bt s i / 32 = 6 ∧ (i + 1 < s.size ∧ bt s (i + 1) / 64 = 2) then
      (if 128 ≤ bt s i % 32 * 64 + bt s (i + 1) % 64 then (bt s i % 32 * 64 + bt s (i + 1) % 64, 2) else (65533, 1))
    else if bt s i / 16 = 14 ∧ (i + 1 < s.size ∧ bt s (i + 1) / 64 = 2) ∧ (i + 2 < s.size ∧ bt s (i + 2) / 64 = 2) then
      (if 2048 ≤ bt s i % 16 * 4096 + bt s (i + 1) % 64 * 64 + bt s (i + 2) % 64 ∧ (bt s i % 16 * 4096 + bt s (i + 1) % 64 * 64 + bt s (i + 2) % 64 < 55296 ∨ 57344 ≤ bt s i % 16 * 4096 + bt s (i + 1) % 64 * 64 + bt s (i + 2) % 64) then (bt s i % 16 * 4096 + bt s (i + 1) % 64 * 64 + bt s (i + 2) % 64, 3) else (65533, 1))
    else if bt s i / 8 = 30 ∧ (i + 1 < s.size ∧ bt s (i + 1) / 64 = 2) ∧ (i + 2 < s.size ∧ bt s (i + 2) / 64 = 2) ∧ (i + 3 < s.size ∧ bt s (i + 3) / 64 = 2) then
      (if 65536 ≤ bt s i % 8 * 262144 + bt s (i + 1) % 64 * 4096 + bt s (i + 2) % 64 * 64 + bt s (i + 3) % 64 ∧ bt s i % 8 * 262144 + bt s (i + 1) % 64 * 4096 + bt s (i + 2) % 64 * 64 + bt s (i + 3) % 64 ≤ 1114111 then (bt s i % 8 * 262144 + bt s (i + 1) % 64 * 4096 + bt s (i + 2) % 64 * 64 + bt s (i + 3) % 64, 4) else (65533, 1))
    else (65533, 1) := by
  have e0 : Utf8.decode s i =
    if bt s i < 128 then (bt s i, 1)
    else if (bt s i / 32 == 6 && (decide (i + 1 < s.size) && bt s (i + 1) / 64 == 2)) then
      (if 128 ≤ bt s i % 32 * 64 + bt s (i + 1) % 64 then (bt s i % 32 * 64 + bt s (i + 1) % 64, 2) else (65533, 1))
    else if (bt s i / 16 == 14 && (decide (i + 1 < s.size) && bt s (i + 1) / 64 == 2) && (decide (i + 2 < s.size) && bt s (i + 2) / 64 == 2)) then
      (if (decide (2048 ≤ bt s i % 16 * 4096 + bt s (i + 1) % 64 * 64 + bt s (i + 2) % 64) && Utf8.valid ((bt s i % 16 * 4096 + bt s (i + 1) % 64 * 64 + bt s (i + 2) % 64 : Nat) : Int)) then (bt s i % 16 * 4096 + bt s (i + 1) % 64 * 64 + bt s (i + 2) % 64, 3) else (65533, 1))
    else if (bt s i / 8 == 30 && (decide (i + 1 < s.size) && bt s (i + 1) / 64 == 2) && (decide (i + 2 < s.size) && bt s (i + 2) / 64 == 2) && (decide (i + 3 < s.size) && bt s (i + 3) / 64 == 2)) then
      (if (decide (65536 ≤ bt s i % 8 * 262144 + bt s (i + 1) % 64 * 4096 + bt s (i + 2) % 64 * 64 + bt s (i + 3) % 64) && Utf8.valid ((bt s i % 8 * 262144 + bt s (i + 1) % 64 * 4096 + bt s (i + 2) % 64 * 64 + bt s (i + 3) % 64 : Nat) : Int)) then (bt s i % 8 * 262144 + bt s (i + 1) % 64 * 4096 + bt s (i + 2) % 64 * 64 + bt s (i + 3) % 64, 4) else (65533, 1))
    else (65533, 1) := rfl
  rw [e0]
  have hv : ∀ n : Nat, Utf8.valid (n : Int) = true ↔ (n < 55296 ∨ (57344 ≤ n ∧ n ≤ 1114111)) := fun n => by
    unfold Utf8.valid
    rw [Bool.or_eq_true, Bool.and_eq_true, Bool.and_eq_true, decide_eq_true_eq, decide_eq_true_eq, decide_eq_true_eq, decide_eq_true_eq]
    omega
  have hb := bt_lt s i
  simp only [Bool.and_eq_true, beq_iff_eq, decide_eq_true_eq, hv, and_assoc]
  congr 1
  congr 1
  congr 1
  · congr 1
    rw [eq_iff_iff]; omega
  · congr 1
    congr 1
    rw [eq_iff_iff]; omega

theorem widC1 (s : ByteArray) (i c : Nat) : widC s i 1 1 c = if bt s (i + 1) < 128 ∨ 192 ≤ bt s (i + 1) then none else some (c * 64 + bt s (i + 1) - 128) := rfl
theorem widC2 (s : ByteArray) (i c : Nat) : widC s i 2 1 c = if bt s (i + 1) < 128 ∨ 192 ≤ bt s (i + 1) then none else if bt s (i + 2) < 128 ∨ 192 ≤ bt s (i + 2) then none else some ((c * 64 + bt s (i + 1) - 128) * 64 + bt s (i + 2) - 128) := rfl
theorem widC3 (s : ByteArray) (i c : Nat) : widC s i 3 1 c = if bt s (i + 1) < 128 ∨ 192 ≤ bt s (i + 1) then none else if bt s (i + 2) < 128 ∨ 192 ≤ bt s (i + 2) then none else if bt s (i + 3) < 128 ∨ 192 ≤ bt s (i + 3) then none else some (((c * 64 + bt s (i + 1) - 128) * 64 + bt s (i + 2) - 128) * 64 + bt s (i + 3) - 128) := rfl

/-- What decode gives, if no character begins at i, and if one does. -/
theorem wid_zero (s : ByteArray) (i : Nat) (hw : wid s i = 0) : Utf8.decode s i = (65533, 1) ∧ badB s i = true := by
  have key : Utf8.decode s i = (65533, 1) ∧ ¬ (i + 2 < s.size ∧ bt s i = 239 ∧ bt s (i + 1) = 191 ∧ bt s (i + 2) = 189) := by
    rw [decode_bt]
    have b0 := bt_lt s i
    have b1 := bt_lt s (i + 1)
    have b2 := bt_lt s (i + 2)
    have b3 := bt_lt s (i + 3)
    unfold wid at hw
    by_cases h1 : bt s i < 128
    · rw [if_pos h1] at hw; omega
    · rw [if_neg h1] at hw ⊢
      by_cases h2 : 192 ≤ bt s i ∧ bt s i < 224
      · rw [if_pos h2] at hw
        unfold widN at hw
        rw [widC1] at hw
        rw [if_neg (c := bt s i / 16 = 14 ∧ _) (by omega), if_neg (c := bt s i / 8 = 30 ∧ _) (by omega)]
        refine ⟨?_, by omega⟩
        split
        · split
          · exfalso
            rw [if_neg (by omega), if_neg (by omega)] at hw
            simp only at hw
            rw [if_neg (by omega)] at hw
            omega
          · rfl
        · rfl
      · rw [if_neg h2] at hw
        rw [if_neg (c := bt s i / 32 = 6 ∧ _) (by omega)]
        by_cases h3 : 224 ≤ bt s i ∧ bt s i < 240
        · rw [if_pos h3] at hw
          unfold widN at hw
          rw [widC2] at hw
          rw [if_neg (c := bt s i / 8 = 30 ∧ _) (by omega)]
          constructor
          · split
            · split
              · exfalso
                rw [if_neg (by omega), if_neg (by omega), if_neg (by omega)] at hw
                simp only at hw
                rw [if_neg (by omega)] at hw
                omega
              · rfl
            · rfl
          · rintro ⟨q0, q1, q2, q3⟩
            rw [if_neg (by omega), if_neg (by omega), if_neg (by omega)] at hw
            simp only at hw
            rw [if_neg (by omega)] at hw
            omega
        · rw [if_neg h3] at hw
          rw [if_neg (c := bt s i / 16 = 14 ∧ _) (by omega)]
          refine ⟨?_, by omega⟩
          by_cases h4 : 240 ≤ bt s i ∧ bt s i < 248
          · rw [if_pos h4] at hw
            unfold widN at hw
            rw [widC3] at hw
            split
            · split
              · exfalso
                rw [if_neg (by omega), if_neg (by omega), if_neg (by omega), if_neg (by omega)] at hw
                simp only at hw
                rw [if_neg (by omega)] at hw
                omega
              · rfl
            · rfl
          · rw [if_neg (by omega)]
  refine ⟨key.1, ?_⟩
  unfold badB
  rw [key.1]
  have : preB (s.data.toList.drop i) = false := by
    rw [Bool.eq_false_iff]
    intro hp
    exact key.2 ((pre_iff s i).1 hp)
  rw [this]
  rfl

theorem wid_pos (s : ByteArray) (i : Nat) (h : i < s.size) (hw : wid s i ≠ 0) :
    (Utf8.decode s i).2 = wid s i ∧ badB s i = false ∧ i + wid s i ≤ s.size ∧ (bt s i < 128 → (Utf8.decode s i).1 = bt s i ∧ wid s i = 1) ∧ (128 ≤ bt s i → 128 ≤ (Utf8.decode s i).1) ∧ ∀ j, 0 < j → j < wid s i → 128 ≤ bt s (i + j) := by
  have b0 := bt_lt s i
  have b1 := bt_lt s (i + 1)
  have b2 := bt_lt s (i + 2)
  have b3 := bt_lt s (i + 3)
  have hpre := pre_iff s i
  have hbad : badB s i = (decide ((Utf8.decode s i).1 = 65533) && !preB (s.data.toList.drop i)) := rfl
  rw [hbad]
  clear hbad
  rw [decode_bt]
  have e : ∀ n, wid s i = n → ∀ j, 0 < j → j < n → (n = 2 → 128 ≤ bt s (i + 1)) → (n = 3 → 128 ≤ bt s (i + 1) ∧ 128 ≤ bt s (i + 2)) → (n = 4 → 128 ≤ bt s (i + 1) ∧ 128 ≤ bt s (i + 2) ∧ 128 ≤ bt s (i + 3)) → n ≤ 4 → 128 ≤ bt s (i + j) := by
    intro n hn j hj hjn q2 q3 q4 hn4
    match j, hj with
    | 1, _ => match n, hjn with
      | 2, _ => exact q2 rfl
      | 3, _ => exact (q3 rfl).1
      | 4, _ => exact (q4 rfl).1
      | k + 5, _ => omega
    | 2, _ => match n, hjn with
      | 3, _ => exact (q3 rfl).2
      | 4, _ => exact (q4 rfl).2.1
      | k + 5, _ => omega
    | 3, _ => match n, hjn with
      | 4, _ => exact (q4 rfl).2.2
      | k + 5, _ => omega
    | k + 4, _ => omega
  by_cases h1 : bt s i < 128
  · have hw1 : wid s i = 1 := by unfold wid; rw [if_pos h1]
    rw [if_pos h1, hw1]
    refine ⟨rfl, ?_, by omega, fun _ => ⟨rfl, rfl⟩, fun h => by omega, fun j _ _ => by omega⟩
    rw [decide_eq_false (show ¬ bt s i = 65533 by omega)]; rfl
  · rw [if_neg h1]
    by_cases h2 : 192 ≤ bt s i ∧ bt s i < 224
    · have hw1 : wid s i = widN s i 2 (bt s i - 192) 128 := by unfold wid; rw [if_neg h1, if_pos h2]
      have hq : i + 2 ≤ s.size ∧ 128 ≤ bt s (i + 1) ∧ bt s (i + 1) < 192 ∧ 128 ≤ (bt s i - 192) * 64 + bt s (i + 1) - 128 ∧ wid s i = 2 := by
        rw [hw1] at hw ⊢
        unfold widN at hw ⊢
        rw [widC1] at hw ⊢
        by_cases q1 : s.size < i + 2
        · rw [if_pos q1] at hw; omega
        rw [if_neg q1] at hw ⊢
        by_cases q2 : bt s (i + 1) < 128 ∨ 192 ≤ bt s (i + 1)
        · rw [if_pos q2] at hw; exact absurd rfl hw
        rw [if_neg q2] at hw ⊢
        simp only at hw ⊢
        split at hw
        · omega
        · rw [if_neg (by assumption)]
          omega
      obtain ⟨q1, q2, q3, q4, q5⟩ := hq
      rw [if_pos (by omega), if_pos (by omega), q5]
      refine ⟨rfl, ?_, by omega, fun h => by omega, fun h => by simp only; omega, fun j a b => e _ q5 j a b (fun _ => q2) (fun h => by omega) (fun h => by omega) (by omega)⟩
      rw [decide_eq_false (by simp only; omega)]; rfl
    · rw [if_neg (c := bt s i / 32 = 6 ∧ _) (by omega)]
      by_cases h3 : 224 ≤ bt s i ∧ bt s i < 240
      · have hw1 : wid s i = widN s i 3 (bt s i - 224) 2048 := by unfold wid; rw [if_neg h1, if_neg h2, if_pos h3]
        have hq : i + 3 ≤ s.size ∧ 128 ≤ bt s (i + 1) ∧ bt s (i + 1) < 192 ∧ 128 ≤ bt s (i + 2) ∧ bt s (i + 2) < 192 ∧ (2048 ≤ ((bt s i - 224) * 64 + bt s (i + 1) - 128) * 64 + bt s (i + 2) - 128 ∧ ¬ (55296 ≤ ((bt s i - 224) * 64 + bt s (i + 1) - 128) * 64 + bt s (i + 2) - 128 ∧ ((bt s i - 224) * 64 + bt s (i + 1) - 128) * 64 + bt s (i + 2) - 128 < 57344)) ∧ wid s i = 3 := by
          rw [hw1] at hw ⊢
          unfold widN at hw ⊢
          rw [widC2] at hw ⊢
          by_cases q1 : s.size < i + 3
          · rw [if_pos q1] at hw; omega
          rw [if_neg q1] at hw ⊢
          by_cases q2 : bt s (i + 1) < 128 ∨ 192 ≤ bt s (i + 1)
          · rw [if_pos q2] at hw; exact absurd rfl hw
          rw [if_neg q2] at hw ⊢
          by_cases q3 : bt s (i + 2) < 128 ∨ 192 ≤ bt s (i + 2)
          · rw [if_pos q3] at hw; exact absurd rfl hw
          rw [if_neg q3] at hw ⊢
          simp only at hw ⊢
          split at hw
          · omega
          · rw [if_neg (by assumption)]
            omega
        obtain ⟨q1, q2, q3, q4, q5, q6, q7⟩ := hq
        rw [if_pos (by omega), if_pos (by omega), q7]
        refine ⟨rfl, ?_, by omega, fun h => by omega, fun h => by simp only; omega, fun j a b => e _ q7 j a b (fun h => by omega) (fun _ => ⟨q2, q4⟩) (fun h => by omega) (by omega)⟩
        by_cases hc : bt s i % 16 * 4096 + bt s (i + 1) % 64 * 64 + bt s (i + 2) % 64 = 65533
        · rw [hpre.2 ⟨by omega, by omega, by omega, by omega⟩, Bool.and_comm]; rfl
        · rw [decide_eq_false (by simp only; omega)]; rfl
      · rw [if_neg (c := bt s i / 16 = 14 ∧ _) (by omega)]
        by_cases h4 : 240 ≤ bt s i ∧ bt s i < 248
        · have hw1 : wid s i = widN s i 4 (bt s i - 240) 65536 := by unfold wid; rw [if_neg h1, if_neg h2, if_neg h3, if_pos h4]
          have hq : i + 4 ≤ s.size ∧ 128 ≤ bt s (i + 1) ∧ bt s (i + 1) < 192 ∧ 128 ≤ bt s (i + 2) ∧ bt s (i + 2) < 192 ∧ 128 ≤ bt s (i + 3) ∧ bt s (i + 3) < 192 ∧ (65536 ≤ (((bt s i - 240) * 64 + bt s (i + 1) - 128) * 64 + bt s (i + 2) - 128) * 64 + bt s (i + 3) - 128 ∧ (((bt s i - 240) * 64 + bt s (i + 1) - 128) * 64 + bt s (i + 2) - 128) * 64 + bt s (i + 3) - 128 ≤ 1114111) ∧ wid s i = 4 := by
            rw [hw1] at hw ⊢
            unfold widN at hw ⊢
            rw [widC3] at hw ⊢
            by_cases q1 : s.size < i + 4
            · rw [if_pos q1] at hw; omega
            rw [if_neg q1] at hw ⊢
            by_cases q2 : bt s (i + 1) < 128 ∨ 192 ≤ bt s (i + 1)
            · rw [if_pos q2] at hw; exact absurd rfl hw
            rw [if_neg q2] at hw ⊢
            by_cases q3 : bt s (i + 2) < 128 ∨ 192 ≤ bt s (i + 2)
            · rw [if_pos q3] at hw; exact absurd rfl hw
            rw [if_neg q3] at hw ⊢
            by_cases q4 : bt s (i + 3) < 128 ∨ 192 ≤ bt s (i + 3)
            · rw [if_pos q4] at hw; exact absurd rfl hw
            rw [if_neg q4] at hw ⊢
            simp only at hw ⊢
            split at hw
            · omega
            · rw [if_neg (by assumption)]
              omega
          obtain ⟨q1, q2, q3, q4, q5, q6, q7, q8, q9⟩ := hq
          rw [if_pos (by omega), if_pos (by omega), q9]
          refine ⟨rfl, ?_, by omega, fun h => by omega, fun h => by simp only; omega, fun j a b => e _ q9 j a b (fun h => by omega) (fun h => by omega) (fun _ => ⟨q2, q4, q6⟩) (by omega)⟩
          rw [decide_eq_false (by simp only; omega)]; rfl
        · exact absurd (by unfold wid; rw [if_neg h1, if_neg h2, if_neg h3, if_neg h4]) hw
end Go.Proofs.YtmmflekajbeamaaDoor

namespace Go.Proofs.YtmmflekajbeamaaDoor
open Go
/-- The place of the first byte that begins no character. -/
def brkGo (s : ByteArray) : Nat → Nat → Int → Int → Option (Int × Int)
  | 0, _, _, _ => none
  | f + 1, i, ln, col => if i < s.size then (if wid s i = 0 then some (ln, col) else if bt s i = 10 then brkGo s f (i + wid s i) (ln + 1) 1 else brkGo s f (i + wid s i) ln (col + 1)) else none
theorem takeS_place (s : ByteArray) (i : Nat) (r : Int) (st : CS) : (takeS s i r st).ln = (if r = 10 then st.ln + 1 else st.ln) ∧ (takeS s i r st).col = (if r = 10 then 1 else st.col + 1) := by
  have e1 : (endTokS s i st).ln = st.ln := by unfold endTokS; split <;> rfl
  unfold takeS
  by_cases h : r = 10
  · simp only [if_pos h]; exact ⟨rfl, rfl⟩
  · simp only [if_neg h]
    split
    · exact ⟨e1, rfl⟩
    · split
      · exact ⟨rfl, rfl⟩
      · split
        · exact ⟨e1, rfl⟩
        · split <;> exact ⟨rfl, rfl⟩
theorem rune_is (s : ByteArray) (p : Nat) (h : p < s.size) (hw : wid s p ≠ 0) (k : Int) (hk : k < 128) : ((Utf8.decode s p).1 : Int) = k ↔ (bt s p : Int) = k := by
  obtain ⟨_, _, _, h1, h2, _⟩ := wid_pos s p h hw
  by_cases hb : bt s p < 128
  · have := (h1 hb).1; omega
  · have := h2 (by omega); omega
theorem cut_brk (s : ByteArray) : ∀ (f p : Nat) (st : CS), (∀ pl, brkGo s f p st.ln st.col = some pl → cutGo s f p st = .inr pl) ∧ (brkGo s f p st.ln st.col = none → ∃ st', cutGo s f p st = .inl st') := by
  intro f
  induction f with
  | zero => intro p st; exact ⟨fun pl h => by simp [brkGo] at h, fun _ => ⟨st, rfl⟩⟩
  | succ f ih =>
    intro p st
    unfold brkGo cutGo
    by_cases hp : p < s.size
    · rw [if_pos hp, if_pos hp]
      by_cases hw : wid s p = 0
      · rw [if_pos hw, (wid_zero s p hw).2]
        refine ⟨fun pl h => ?_, (fun h => by cases h)⟩
        cases h; rfl
      · rw [if_neg hw]
        obtain ⟨h2, hb, _⟩ := wid_pos s p hp hw
        rw [hb, h2]
        have hr := (rune_is s p hp hw 10 (by decide)).trans (by omega : ((bt s p : Int) = 10) ↔ bt s p = 10)
        obtain ⟨t1, t2⟩ := takeS_place s p (Utf8.decode s p).1 st
        have := ih (p + wid s p) (takeS s p (Utf8.decode s p).1 st)
        rw [t1, t2] at this
        by_cases h10 : bt s p = 10
        · rw [if_pos h10]
          rw [if_pos (hr.2 h10), if_pos (hr.2 h10)] at this
          exact this
        · rw [if_neg h10]
          rw [if_neg (fun e => h10 (hr.1 e)), if_neg (fun e => h10 (hr.1 e))] at this
          exact this
    · rw [if_neg hp, if_neg hp]
      exact ⟨(fun pl h => by cases h), fun _ => ⟨st, rfl⟩⟩

/-- The document's tokens: texts and columns. -/
structure DS where
  l : List (ByteArray × Int)
  e : Int
  col : Int
  frm : Int
def d0 : DS := ⟨[], 1, 1, -1⟩
def setLast (l : List (ByteArray × Int)) (x : ByteArray) : List (ByteArray × Int) := match l.getLast? with | some (_, c) => l.dropLast ++ [(x, c)] | none => l
theorem setLast_snoc (l : List (ByteArray × Int)) (y x : ByteArray) (c : Int) : setLast (l ++ [(y, c)]) x = l ++ [(x, c)] := by simp [setLast]
def stepD (t : ByteArray) (i : Nat) (d : DS) : DS :=
  if bt t i = 32 ∨ bt t i = 9 then { d with frm := -1, col := d.col + 1 }
  else if d.frm < 0 then ⟨d.l ++ [(t.extract i (i + wid t i), d.col)], d.col + 1, d.col + 1, i⟩
  else ⟨setLast d.l (t.extract d.frm.toNat (i + wid t i)), d.col + 1, d.col + 1, d.frm⟩
def tkGo (t : ByteArray) : Nat → Nat → DS → DS
  | 0, _, d => d
  | f + 1, i, d => if i < t.size then (if bt t i = 59 then d else tkGo t f (i + wid t i) (stepD t i d)) else d
def fin (d : DS) : List (ByteArray × Int) × Int := (d.l, d.e)
def toksD (t : ByteArray) : List (ByteArray × Int) × Int := fin (tkGo t t.size 0 d0)
def lnGo (s : ByteArray) : Nat → Nat → Nat → List ByteArray
  | 0, _, a => [s.extract a s.size]
  | f + 1, i, a => if i < s.size then (if bt s i = 10 then s.extract a i :: lnGo s f (i + 1) (i + 1) else lnGo s f (i + 1) a) else [s.extract a s.size]
def linesD (s : ByteArray) : List ByteArray := lnGo s s.size 0 0

def Dgo (s : ByteArray) : Nat → Nat → Bool → DS → List (List (ByteArray × Int) × Int)
  | 0, _, _, d => [fin d]
  | f + 1, p, stop, d => if p < s.size then (if bt s p = 10 then fin d :: Dgo s f (p + 1) false d0 else if stop = true ∨ bt s p = 59 then Dgo s f (p + wid s p) true d else Dgo s f (p + wid s p) false (stepD s p d)) else [fin d]

def tm (L : List Tok) : List (ByteArray × Int) := L.map fun t => (t.text, t.fc)
def endOf (L : List Tok) : Int := match L.getLast? with | some t => t.bc | none => 1
theorem tm_snoc (L : List Tok) (t : Tok) : tm (L ++ [t]) = tm L ++ [(t.text, t.fc)] := by simp [tm]
theorem endOf_snoc (L : List Tok) (t : Tok) : endOf (L ++ [t]) = t.bc := by simp [endOf]
structure Rel (s : ByteArray) (p : Nat) (st : CS) (stop : Bool) (d : DS) : Prop where
  rem : st.rem = stop
  col : stop = false → d.col = st.col
  no : st.beg < 0 → d.l = tm st.line ∧ d.e = endOf st.line ∧ (stop = false → d.frm < 0)
  yes : 0 ≤ st.beg → stop = false ∧ d.frm = st.beg ∧ d.l = tm st.line ++ [(s.extract st.beg.toNat p, st.fc)] ∧ d.e = st.col ∧ st.fl = st.ln
  place : ∀ t ∈ st.line, t.fl = st.ln ∧ t.bl = st.ln
theorem rel_end {s : ByteArray} {p : Nat} {st : CS} {stop : Bool} {d : DS} (h : Rel s p st stop d) : fin d = (tm (endTokS s p st).line, endOf (endTokS s p st).line) ∧ (∀ t ∈ (endTokS s p st).line, t.fl = st.ln ∧ t.bl = st.ln) ∧ (endTokS s p st).beg < 0 := by
  unfold endTokS fin
  by_cases hb : 0 ≤ st.beg
  · obtain ⟨_, _, h1, h2, h3⟩ := h.yes hb
    rw [if_pos hb]
    refine ⟨?_, ?_, by show (-1 : Int) < 0; omega⟩
    · simp only [tm_snoc, endOf_snoc, h1, h2]
    · intro t ht
      rcases List.mem_append.1 ht with ht | ht
      · exact h.place t ht
      · rw [List.mem_singleton.1 ht]
        exact ⟨h3, rfl⟩
  · obtain ⟨h1, h2, _⟩ := h.no (by omega)
    rw [if_neg hb]
    exact ⟨by rw [h1, h2], h.place, by omega⟩
theorem rel0 (s : ByteArray) (p : Nat) (st : CS) (h0 : st.rem = false) (h1 : st.col = 1) (h2 : st.beg < 0) (h3 : st.line = []) : Rel s p st false d0 :=
  ⟨h0, fun _ => h1.symm, fun _ => by rw [h3]; exact ⟨rfl, rfl, fun _ => by decide⟩, fun h => by omega, fun t ht => by rw [h3] at ht; cases ht⟩

theorem sim (s : ByteArray) : ∀ (f p : Nat) (st : CS) (stop : Bool) (d : DS) (st' : CS), p ≤ s.size → s.size ≤ p + f → Rel s p st stop d → brkGo s f p st.ln st.col = none → cutGo s f p st = .inl st' →
    ∃ Ls, (endLineS s s.size st').lines = st.lines ++ Ls ∧ Ls.map (fun L => (tm L, endOf L)) = Dgo s f p stop d ∧ ∀ (i : Nat) (L : List Tok), Ls[i]? = some L → ∀ t ∈ L, t.fl = st.ln + i ∧ t.bl = st.ln + i := by
  have endd : ∀ (p : Nat) (st : CS) (stop : Bool) (d : DS), p = s.size → Rel s p st stop d →
      ∃ Ls, (endLineS s s.size st).lines = st.lines ++ Ls ∧ Ls.map (fun L => (tm L, endOf L)) = [fin d] ∧ ∀ (i : Nat) (L : List Tok), Ls[i]? = some L → ∀ t ∈ L, t.fl = st.ln + i ∧ t.bl = st.ln + i := by
    intro p st stop d hp h
    subst hp
    obtain ⟨h1, h2, _⟩ := rel_end h
    refine ⟨[(endTokS s s.size st).line], rfl, by rw [h1]; rfl, fun i L hi t ht => ?_⟩
    match i, hi with
    | 0, hi =>
      simp at hi
      subst hi
      have := h2 t ht
      simpa using this
    | i + 1, hi => simp at hi
  intro f
  induction f with
  | zero =>
    intro p st stop d st' hp hf hr _ hc
    cases hc
    exact endd p st stop d (by omega) hr
  | succ f ih =>
    intro p st stop d st' hp hf hr hv hc
    unfold cutGo at hc
    unfold Dgo
    unfold brkGo at hv
    by_cases hlt : p < s.size
    · rw [if_pos hlt] at hc hv ⊢
      by_cases hw : wid s p = 0
      · rw [if_pos hw] at hv; cases hv
      rw [if_neg hw] at hv
      obtain ⟨hw2, hb, hle, ha, hna, _⟩ := wid_pos s p hlt hw
      rw [hb, hw2] at hc
      have r10 := (rune_is s p hlt hw 10 (by decide)).trans (by omega : ((bt s p : Int) = 10) ↔ bt s p = 10)
      have r59 := (rune_is s p hlt hw 59 (by decide)).trans (by omega : ((bt s p : Int) = 59) ↔ bt s p = 59)
      have r32 := (rune_is s p hlt hw 32 (by decide)).trans (by omega : ((bt s p : Int) = 32) ↔ bt s p = 32)
      have r9 := (rune_is s p hlt hw 9 (by decide)).trans (by omega : ((bt s p : Int) = 9) ↔ bt s p = 9)
      obtain ⟨t1, t2⟩ := takeS_place s p (Utf8.decode s p).1 st
      generalize ((Utf8.decode s p).1 : Int) = r at *
      have hc' : cutGo s f (p + wid s p) (takeS s p r st) = .inl st' := hc
      by_cases h10 : bt s p = 10
      · rw [if_pos h10] at hv ⊢
        have hr10 := r10.2 h10
        have hw1 : wid s p = 1 := (ha (by omega)).2
        rw [if_pos hr10] at t1 t2
        have et : takeS s p r st = endLineS s p st := by unfold takeS; rw [if_pos hr10]
        obtain ⟨e1, e2, e3⟩ := rel_end hr
        obtain ⟨Ls, l1, l2, l3⟩ := ih (p + wid s p) (takeS s p r st) false d0 st' hle (by omega) (rel0 s _ _ (by rw [et]; rfl) (by rw [t2]) (by rw [et]; exact e3) (by rw [et]; rfl)) (by rw [t1, t2]; exact hv) hc'
        refine ⟨(endTokS s p st).line :: Ls, ?_, ?_, ?_⟩
        · rw [l1, et]
          show (st.lines ++ [(endTokS s p st).line]) ++ Ls = _
          simp
        · rw [List.map_cons, l2, e1, hw1]
        · intro i L hi t ht
          match i, hi with
          | 0, hi =>
            simp at hi
            subst hi
            have := e2 t ht
            simpa using this
          | i + 1, hi =>
            simp at hi
            have := l3 i L hi t ht
            rw [t1] at this
            omega
      · rw [if_neg h10] at hv ⊢
        have hr10 : ¬ r = 10 := fun e => h10 (r10.1 e)
        rw [if_neg hr10] at t1 t2
        have hlines : (takeS s p r st).lines = st.lines := by
          have q : (endTokS s p st).lines = st.lines := by unfold endTokS; split <;> rfl
          unfold takeS
          rw [if_neg hr10]
          split
          · exact q
          · split
            · rfl
            · split
              · exact q
              · split <;> rfl
        have go : ∀ (stop2 : Bool) (d2 : DS), Rel s (p + wid s p) (takeS s p r st) stop2 d2 → ∃ Ls, (endLineS s s.size st').lines = st.lines ++ Ls ∧ Ls.map (fun L => (tm L, endOf L)) = Dgo s f (p + wid s p) stop2 d2 ∧ ∀ (i : Nat) (L : List Tok), Ls[i]? = some L → ∀ t ∈ L, t.fl = st.ln + i ∧ t.bl = st.ln + i := by
          intro stop2 d2 h2
          have := ih (p + wid s p) (takeS s p r st) stop2 d2 st' hle (by omega) h2 (by rw [t1, t2]; exact hv) hc'
          rw [hlines, t1] at this
          exact this
        obtain ⟨e1, e2, e3⟩ := rel_end hr
        have eln : (endTokS s p st).ln = st.ln := by unfold endTokS; split <;> rfl
        have erem : (endTokS s p st).rem = st.rem := by unfold endTokS; split <;> rfl
        have ef : (d.l, d.e) = (tm (endTokS s p st).line, endOf (endTokS s p st).line) := e1
        simp only [Prod.mk.injEq] at ef
        by_cases h59 : bt s p = 59
        · rw [if_pos (.inr h59)]
          have et : takeS s p r st = { endTokS s p st with rem := true, col := st.col + 1 } := by unfold takeS; rw [if_neg hr10, if_pos (r59.2 h59)]
          refine go true d ?_
          rw [et]
          exact ⟨rfl, (fun h => by cases h), fun _ => ⟨ef.1, ef.2, (fun h => by cases h)⟩, (fun h => by have h' : 0 ≤ (endTokS s p st).beg := h; omega), fun t ht => by
            have := e2 t ht
            show t.fl = (endTokS s p st).ln ∧ t.bl = (endTokS s p st).ln
            rw [eln]; exact this⟩
        · have hr59 : ¬ r = 59 := fun e => h59 (r59.1 e)
          cases hstop : stop
          · subst hstop
            rw [if_neg (by simp [h59])]
            have hrem : ¬ st.rem = true := by rw [hr.rem]; decide
            refine go false _ ?_
            by_cases hsp : bt s p = 32 ∨ bt s p = 9
            · have hrs : r = 32 ∨ r = 9 := by rcases hsp with h | h; exact .inl (r32.2 h); exact .inr (r9.2 h)
              have et : takeS s p r st = { endTokS s p st with col := st.col + 1 } := by unfold takeS; rw [if_neg hr10, if_neg hr59, if_neg hrem, if_pos hrs]
              rw [et]
              unfold stepD
              rw [if_pos hsp]
              refine ⟨by show (endTokS s p st).rem = _; rw [erem]; exact hr.rem, fun _ => by show d.col + 1 = st.col + 1; rw [hr.col rfl], fun _ => ⟨ef.1, ef.2, fun _ => by show (-1 : Int) < 0; omega⟩, (fun h => by have h' : 0 ≤ (endTokS s p st).beg := h; omega), fun t ht => ?_⟩
              have := e2 t ht
              show t.fl = (endTokS s p st).ln ∧ t.bl = (endTokS s p st).ln
              rw [eln]; exact this
            · have hrs : ¬ (r = 32 ∨ r = 9) := fun h => hsp (by rcases h with h | h; exact .inl (r32.1 h); exact .inr (r9.1 h))
              unfold stepD
              rw [if_neg hsp]
              by_cases hbg : st.beg < 0
              · have et : takeS s p r st = { st with beg := p, fl := st.ln, fc := st.col, col := st.col + 1 } := by unfold takeS; rw [if_neg hr10, if_neg hr59, if_neg hrem, if_neg hrs, if_pos hbg]
                obtain ⟨n1, n2, n3⟩ := hr.no hbg
                rw [et, if_pos (n3 rfl)]
                refine ⟨hr.rem, fun _ => by show d.col + 1 = st.col + 1; rw [hr.col rfl], fun h => ?_, fun h => ⟨rfl, rfl, ?_, ?_, rfl⟩, hr.place⟩
                · have h' : (p : Int) < 0 := h; omega
                · show d.l ++ [(s.extract p (p + wid s p), d.col)] = tm st.line ++ [(s.extract (p : Int).toNat (p + wid s p), st.col)]
                  rw [n1, hr.col rfl, Int.toNat_natCast]
                · show d.col + 1 = st.col + 1
                  rw [hr.col rfl]
              · have et : takeS s p r st = { st with col := st.col + 1 } := by unfold takeS; rw [if_neg hr10, if_neg hr59, if_neg hrem, if_neg hrs, if_neg hbg]
                obtain ⟨y1, y2, y3, y4, y5⟩ := hr.yes (by omega)
                rw [et, if_neg (by omega)]
                refine ⟨hr.rem, fun _ => by show d.col + 1 = st.col + 1; rw [hr.col rfl], fun h => absurd h hbg, fun h => ⟨rfl, y2, ?_, ?_, y5⟩, hr.place⟩
                · show setLast d.l (s.extract d.frm.toNat (p + wid s p)) = tm st.line ++ [(s.extract st.beg.toNat (p + wid s p), st.fc)]
                  rw [y3, setLast_snoc, y2]
                · show d.col + 1 = st.col + 1
                  rw [hr.col rfl]
          · subst hstop
            rw [if_pos (.inl rfl)]
            have hrem : st.rem = true := hr.rem
            have et : takeS s p r st = { st with col := st.col + 1 } := by unfold takeS; rw [if_neg hr10, if_neg hr59, if_pos hrem]
            refine go true d ?_
            rw [et]
            have hbg : st.beg < 0 := by
              rcases Int.lt_or_le st.beg 0 with h | h
              · exact h
              · have := (hr.yes h).1; cases this
            obtain ⟨n1, n2, n3⟩ := hr.no hbg
            exact ⟨hr.rem, (fun h => by cases h), fun _ => ⟨n1, n2, (fun h => by cases h)⟩, (fun h => by have h' : 0 ≤ st.beg := h; omega), hr.place⟩
    · rw [if_neg hlt] at hc ⊢
      cases hc
      exact endd p st stop d (by omega) hr
end Go.Proofs.YtmmflekajbeamaaDoor
