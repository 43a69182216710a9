/-
  Characters by the document's width against the model's decoding of a text.
-/
import Derived.Test.YtmmflekajbeamaaDoorG08
namespace Go.Proofs.YtmmflekajbeamaaDoor
open Go
/-- The byte at a place, as a number. -/
def bt (s : ByteArray) (i : Nat) : Nat := (s.get! i).toNat
def widC (s : ByteArray) (i : Nat) : Nat → Nat → Nat → Option Nat
  | 0, _, c => some c
  | f + 1, j, c => if bt s (i + j) < 128 ∨ 192 ≤ bt s (i + j) then none else widC s i f (j + 1) (c * 64 + bt s (i + j) - 128)
def widN (s : ByteArray) (i n c least : Nat) : Nat :=
  if s.size < i + n then 0 else match widC s i (n - 1) 1 c with | none => 0 | some c => if c < least ∨ 1114111 < c ∨ (55296 ≤ c ∧ c < 57344) then 0 else n
/-- How many bytes the character at i has; 0: none begins there. -/
def wid (s : ByteArray) (i : Nat) : Nat :=
  if bt s i < 128 then 1
  else if 192 ≤ bt s i ∧ bt s i < 224 then widN s i 2 (bt s i - 192) 128
  else if 224 ≤ bt s i ∧ bt s i < 240 then widN s i 3 (bt s i - 224) 2048
  else if 240 ≤ bt s i ∧ bt s i < 248 then widN s i 4 (bt s i - 240) 65536
  else 0
theorem bt_lt (s : ByteArray) (i : Nat) : bt s i < 256 := (s.get! i).toNat_lt
theorem getElem?_bt (s : ByteArray) (i : Nat) (h : i < s.size) : ∃ u : UInt8, s.data.toList[i]? = some u ∧ u.toNat = bt s i := by
  have h' : i < s.data.toList.length := by rw [Array.length_toList]; exact h
  refine ⟨s.data.toList[i], List.getElem?_eq_getElem h', ?_⟩
  have h2 : i < s.data.size := h
  show _ = (s.data[i]!).toNat
  rw [getElem!_pos s.data i h2, Array.getElem_toList]
theorem take3 {l : List UInt8} (h : l.take 3 = [239, 191, 189]) : l[0]? = some 239 ∧ l[1]? = some 191 ∧ l[2]? = some 189 := by
  match l, h with
  | a :: b :: c :: r, h => simp at h; simp [h]
theorem pre_iff (s : ByteArray) (p : Nat) : preB (s.data.toList.drop p) = true ↔ p + 2 < s.size ∧ bt s p = 239 ∧ bt s (p + 1) = 191 ∧ bt s (p + 2) = 189 := by
  unfold preB
  rw [beq_iff_eq]
  constructor
  · intro h
    obtain ⟨h0, h1, h2⟩ := take3 h
    rw [List.getElem?_drop] at h0 h1 h2
    have hl : p + 2 < s.size := by
      have := (List.getElem?_eq_some_iff.1 h2).1
      rw [Array.length_toList] at this
      exact this
    obtain ⟨u0, e0, f0⟩ := getElem?_bt s p (by omega)
    obtain ⟨u1, e1, f1⟩ := getElem?_bt s (p + 1) (by omega)
    obtain ⟨u2, e2, f2⟩ := getElem?_bt s (p + 2) hl
    rw [Nat.add_zero] at h0
    rw [e0] at h0; rw [e1] at h1; rw [e2] at h2
    cases h0; cases h1; cases h2
    exact ⟨hl, f0.symm, f1.symm, f2.symm⟩
  · rintro ⟨hl, h0, h1, h2⟩
    obtain ⟨u0, e0, f0⟩ := getElem?_bt s p (by omega)
    obtain ⟨u1, e1, f1⟩ := getElem?_bt s (p + 1) (by omega)
    obtain ⟨u2, e2, f2⟩ := getElem?_bt s (p + 2) hl
    have g0 : u0 = 239 := UInt8.toNat_inj.1 (f0.trans h0)
    have g1 : u1 = 191 := UInt8.toNat_inj.1 (f1.trans h1)
    have g2 : u2 = 189 := UInt8.toNat_inj.1 (f2.trans h2)
    subst g0 g1 g2
    apply List.ext_getElem?
    intro k
    match k with
    | 0 => simp [e0]
    | 1 => simp [e1]
    | 2 => simp [e2]
    | k + 3 => simp only [List.length_cons, List.length_nil, Nat.le_add_left, List.getElem?_eq_none, List.length_take, List.length_drop, List.getElem?_eq_none_iff]; omega

set_option maxRecDepth 20000 in
theorem decode_bt (s : ByteArray) (i : Nat) : Utf8.decode s i =
    if bt s i < 128 then (bt s i, 1)
    else if bt s i / 32 = 6 ∧ (i + 1 < s.size ∧ bt s (i + 1) / 64 = 2) then
      (if 128 ≤ bt s i % 32 * 64 + bt s (i + 1) % 64 then (bt s i % 32 * 64 + bt s (i + 1) % 64, 2) else (65533, 1))
    else if bt s i / 16 = 14 ∧ (i + 1 < s.size ∧ bt s (i + 1) / 64 = 2) ∧ (i + 2 < s.size ∧ bt s (i + 2) / 64 = 2) then
      (if 2048 ≤ bt s i % 16 * 4096 + bt s (i + 1) % 64 * 64 + bt s (i + 2) % 64 ∧ (bt s i % 16 * 4096 + bt s (i + 1) % 64 * 64 + bt s (i + 2) % 64 < 55296 ∨ 57344 ≤ bt s i % 16 * 4096 + bt s (i + 1) % 64 * 64 + bt s (i + 2) % 64) then (bt s i % 16 * 4096 + bt s (i + 1) % 64 * 64 + bt s (i + 2) % 64, 3) else (65533, 1))
    else if bt s i / 8 = 30 ∧ (i + 1 < s.size ∧ bt s (i + 1) / 64 = 2) ∧ (i + 2 < s.size ∧ bt s (i + 2) / 64 = 2) ∧ (i + 3 < s.size ∧ bt s (i + 3) / 64 = 2) then
      (if 65536 ≤ bt s i % 8 * 262144 + bt s (i + 1) % 64 * 4096 + bt s (i + 2) % 64 * 64 + bt s (i + 3) % 64 ∧ bt s i % 8 * 262144 + bt s (i + 1) % 64 * 4096 + bt s (i + 2) % 64 * 64 + bt s (i + 3) % 64 ≤ 1114111 then (bt s i % 8 * 262144 + bt s (i + 1) % 64 * 4096 + bt s (i + 2) % 64 * 64 + bt s (i + 3) % 64, 4) else (65533, 1))
    else (65533, 1) := by
  have e0 : Utf8.decode s i =
    if bt s i < 128 then (bt s i, 1)
    else if (bt s i / 32 == 6 && (decide (i + 1 < s.size) && bt s (i + 1) / 64 == 2)) then
      (if 128 ≤ bt s i % 32 * 64 + bt s (i + 1) % 64 then (bt s i % 32 * 64 + bt s (i + 1) % 64, 2) else (65533, 1))
    else if (bt s i / 16 == 14 && (decide (i + 1 < s.size) && bt s (i + 1) / 64 == 2) && (decide (i + 2 < s.size) && bt s (i + 2) / 64 == 2)) then
      (if (decide (2048 ≤ bt s i % 16 * 4096 + bt s (i + 1) % 64 * 64 + bt s (i + 2) % 64) && Utf8.valid ((bt s i % 16 * 4096 + bt s (i + 1) % 64 * 64 + bt s (i + 2) % 64 : Nat) : Int)) then (bt s i % 16 * 4096 + bt s (i + 1) % 64 * 64 + bt s (i + 2) % 64, 3) else (65533, 1))
    else if (bt s i / 8 == 30 && (decide (i + 1 < s.size) && bt s (i + 1) / 64 == 2) && (decide (i + 2 < s.size) && bt s (i + 2) / 64 == 2) && (decide (i + 3 < s.size) && bt s (i + 3) / 64 == 2)) then
      (if (decide (65536 ≤ bt s i % 8 * 262144 + bt s (i + 1) % 64 * 4096 + bt s (i + 2) % 64 * 64 + bt s (i + 3) % 64) && Utf8.valid ((bt s i % 8 * 262144 + bt s (i + 1) % 64 * 4096 + bt s (i + 2) % 64 * 64 + bt s (i + 3) % 64 : Nat) : Int)) then (bt s i % 8 * 262144 + bt s (i + 1) % 64 * 4096 + bt s (i + 2) % 64 * 64 + bt s (i + 3) % 64, 4) else (65533, 1))
    else (65533, 1) := rfl
  rw [e0]
  have hv : ∀ n : Nat, Utf8.valid (n : Int) = true ↔ (n < 55296 ∨ (57344 ≤ n ∧ n ≤ 1114111)) := fun n => by
    unfold Utf8.valid
    rw [Bool.or_eq_true, Bool.and_eq_true, Bool.and_eq_true, decide_eq_true_eq, decide_eq_true_eq, decide_eq_true_eq, decide_eq_true_eq]
    omega
  have hb := bt_lt s i
  simp only [Bool.and_eq_true, beq_iff_eq, decide_eq_true_eq, hv, and_assoc]
  congr 1
  congr 1
  congr 1
  · congr 1
    rw [eq_iff_iff]; omega
  · congr 1
    congr 1
    rw [eq_iff_iff]; omega

theorem widC1 (s : ByteArray) (i c : Nat) : widC s i 1 1 c = if bt s (i + 1) < 128 ∨ 192 ≤ bt s (i + 1) then none else some (c * 64 + bt s (i + 1) - 128) := rfl
theorem widC2 (s : ByteArray) (i c : Nat) : widC s i 2 1 c = if bt s (i + 1) < 128 ∨ 192 ≤ bt s (i + 1) then none else if bt s (i + 2) < 128 ∨ 192 ≤ bt s (i + 2) then none else some ((c * 64 + bt s (i + 1) - 128) * 64 + bt s (i + 2) - 128) := rfl
theorem widC3 (s : ByteArray) (i c : Nat) : widC s i 3 1 c = if bt s (i + 1) < 128 ∨ 192 ≤ bt s (i + 1) then none else if bt s (i + 2) < 128 ∨ 192 ≤ bt s (i + 2) then none else if bt s (i + 3) < 128 ∨ 192 ≤ bt s (i + 3) then none else some (((c * 64 + bt s (i + 1) - 128) * 64 + bt s (i + 2) - 128) * 64 + bt s (i + 3) - 128) := rfl

/-- What decode gives, if no character begins at i, and if one does. -/
theorem wid_zero (s : ByteArray) (i : Nat) (hw : wid s i = 0) : Utf8.decode s i = (65533, 1) ∧ badB s i = true := by
  have key : Utf8.decode s i = (65533, 1) ∧ ¬ (i + 2 < s.size ∧ bt s i = 239 ∧ bt s (i + 1) = 191 ∧ bt s (i + 2) = 189) := by
    rw [decode_bt]
    have b0 := bt_lt s i
    have b1 := bt_lt s (i + 1)
    have b2 := bt_lt s (i + 2)
    have b3 := bt_lt s (i + 3)
    unfold wid at hw
    by_cases h1 : bt s i < 128
    · rw [if_pos h1] at hw; omega
    · rw [if_neg h1] at hw ⊢
      by_cases h2 : 192 ≤ bt s i ∧ bt s i < 224
      · rw [if_pos h2] at hw
        unfold widN at hw
        rw [widC1] at hw
        rw [if_neg (c := bt s i / 16 = 14 ∧ _) (by omega), if_neg (c := bt s i / 8 = 30 ∧ _) (by omega)]
        refine ⟨?_, by omega⟩
        split
        · split
          · exfalso
            rw [if_neg (by omega), if_neg (by omega)] at hw
            simp only at hw
            rw [if_neg (by omega)] at hw
            omega
          · rfl
        · rfl
      · rw [if_neg h2] at hw
        rw [if_neg (c := bt s i / 32 = 6 ∧ _) (by omega)]
        by_cases h3 : 224 ≤ bt s i ∧ bt s i < 240
        · rw [if_pos h3] at hw
          unfold widN at hw
          rw [widC2] at hw
          rw [if_neg (c := bt s i / 8 = 30 ∧ _) (by omega)]
          constructor
          · split
            · split
              · exfalso
                rw [if_neg (by omega), if_neg (by omega), if_neg (by omega)] at hw
                simp only at hw
                rw [if_neg (by omega)] at hw
                omega
              · rfl
            · rfl
          · rintro ⟨q0, q1, q2, q3⟩
            rw [if_neg (by omega), if_neg (by omega), if_neg (by omega)] at hw
            simp only at hw
            rw [if_neg (by omega)] at hw
            omega
        · rw [if_neg h3] at hw
          rw [if_neg (c := bt s i / 16 = 14 ∧ _) (by omega)]
          refine ⟨?_, by omega⟩
          by_cases h4 : 240 ≤ bt s i ∧ bt s i < 248
          · rw [if_pos h4] at hw
            unfold widN at hw
            rw [widC3] at hw
            split
            · split
              · exfalso
                rw [if_neg (by omega), if_neg (by omega), if_neg (by omega), if_neg (by omega)] at hw
                simp only at hw
                rw [if_neg (by omega)] at hw
                omega
              · rfl
            · rfl
          · rw [if_neg (by omega)]
  refine ⟨key.1, ?_⟩
  unfold badB
  rw [key.1]
  have : preB (s.data.toList.drop i) = false := by
    rw [Bool.eq_false_iff]
    intro hp
    exact key.2 ((pre_iff s i).1 hp)
  rw [this]
  rfl

theorem wid_pos (s : ByteArray) (i : Nat) (h : i < s.size) (hw : wid s i ≠ 0) :
    (Utf8.decode s i).2 = wid s i ∧ badB s i = false ∧ i + wid s i ≤ s.size ∧ (bt s i < 128 → (Utf8.decode s i).1 = bt s i ∧ wid s i = 1) ∧ (128 ≤ bt s i → 128 ≤ (Utf8.decode s i).1) ∧ ∀ j, 0 < j → j < wid s i → 128 ≤ bt s (i + j) := by
  have b0 := bt_lt s i
  have b1 := bt_lt s (i + 1)
  have b2 := bt_lt s (i + 2)
  have b3 := bt_lt s (i + 3)
  have hpre := pre_iff s i
  have hbad : badB s i = (decide ((Utf8.decode s i).1 = 65533) && !preB (s.data.toList.drop i)) := rfl
  rw [hbad]
  clear hbad
  rw [decode_bt]
  have e : ∀ n, wid s i = n → ∀ j, 0 < j → j < n → (n = 2 → 128 ≤ bt s (i + 1)) → (n = 3 → 128 ≤ bt s (i + 1) ∧ 128 ≤ bt s (i + 2)) → (n = 4 → 128 ≤ bt s (i + 1) ∧ 128 ≤ bt s (i + 2) ∧ 128 ≤ bt s (i + 3)) → n ≤ 4 → 128 ≤ bt s (i + j) := by
    intro n hn j hj hjn q2 q3 q4 hn4
    match j, hj with
    | 1, _ => match n, hjn with
      | 2, _ => exact q2 rfl
      | 3, _ => exact (q3 rfl).1
      | 4, _ => exact (q4 rfl).1
      | k + 5, _ => omega
    | 2, _ => match n, hjn with
      | 3, _ => exact (q3 rfl).2
      | 4, _ => exact (q4 rfl).2.1
      | k + 5, _ => omega
    | 3, _ => match n, hjn with
      | 4, _ => exact (q4 rfl).2.2
      | k + 5, _ => omega
    | k + 4, _ => omega
  by_cases h1 : bt s i < 128
  · have hw1 : wid s i = 1 := by unfold wid; rw [if_pos h1]
    rw [if_pos h1, hw1]
    refine ⟨rfl, ?_, by omega, fun _ => ⟨rfl, rfl⟩, fun h => by omega, fun j _ _ => by omega⟩
    rw [decide_eq_false (show ¬ bt s i = 65533 by omega)]; rfl
  · rw [if_neg h1]
    by_cases h2 : 192 ≤ bt s i ∧ bt s i < 224
    · have hw1 : wid s i = widN s i 2 (bt s i - 192) 128 := by unfold wid; rw [if_neg h1, if_pos h2]
      have hq : i + 2 ≤ s.size ∧ 128 ≤ bt s (i + 1) ∧ bt s (i + 1) < 192 ∧ 128 ≤ (bt s i - 192) * 64 + bt s (i + 1) - 128 ∧ wid s i = 2 := by
        rw [hw1] at hw ⊢
        unfold widN at hw ⊢
        rw [widC1] at hw ⊢
        by_cases q1 : s.size < i + 2
        · rw [if_pos q1] at hw; omega
        rw [if_neg q1] at hw ⊢
        by_cases q2 : bt s (i + 1) < 128 ∨ 192 ≤ bt s (i + 1)
        · rw [if_pos q2] at hw; exact absurd rfl hw
        rw [if_neg q2] at hw ⊢
        simp only at hw ⊢
        split at hw
        · omega
        · rw [if_neg (by assumption)]
          omega
      obtain ⟨q1, q2, q3, q4, q5⟩ := hq
      rw [if_pos (by omega), if_pos (by omega), q5]
      refine ⟨rfl, ?_, by omega, fun h => by omega, fun h => by simp only; omega, fun j a b => e _ q5 j a b (fun _ => q2) (fun h => by omega) (fun h => by omega) (by omega)⟩
      rw [decide_eq_false (by simp only; omega)]; rfl
    · rw [if_neg (c := bt s i / 32 = 6 ∧ _) (by omega)]
      by_cases h3 : 224 ≤ bt s i ∧ bt s i < 240
      · have hw1 : wid s i = widN s i 3 (bt s i - 224) 2048 := by unfold wid; rw [if_neg h1, if_neg h2, if_pos h3]
        have hq : i + 3 ≤ s.size ∧ 128 ≤ bt s (i + 1) ∧ bt s (i + 1) < 192 ∧ 128 ≤ bt s (i + 2) ∧ bt s (i + 2) < 192 ∧ (2048 ≤ ((bt s i - 224) * 64 + bt s (i + 1) - 128) * 64 + bt s (i + 2) - 128 ∧ ¬ (55296 ≤ ((bt s i - 224) * 64 + bt s (i + 1) - 128) * 64 + bt s (i + 2) - 128 ∧ ((bt s i - 224) * 64 + bt s (i + 1) - 128) * 64 + bt s (i + 2) - 128 < 57344)) ∧ wid s i = 3 := by
          rw [hw1] at hw ⊢
          unfold widN at hw ⊢
          rw [widC2] at hw ⊢
          by_cases q1 : s.size < i + 3
          · rw [if_pos q1] at hw; omega
          rw [if_neg q1] at hw ⊢
          by_cases q2 : bt s (i + 1) < 128 ∨ 192 ≤ bt s (i + 1)
          · rw [if_pos q2] at hw; exact absurd rfl hw
          rw [if_neg q2] at hw ⊢
          by_cases q3 : bt s (i + 2) < 128 ∨ 192 ≤ bt s (i + 2)
          · rw [if_pos q3] at hw; exact absurd rfl hw
          rw [if_neg q3] at hw ⊢
          simp only at hw ⊢
          split at hw
          · omega
          · rw [if_neg (by assumption)]
            omega
        obtain ⟨q1, q2, q3, q4, q5, q6, q7⟩ := hq
        rw [if_pos (by omega), if_pos (by omega), q7]
        refine ⟨rfl, ?_, by omega, fun h => by omega, fun h => by simp only; omega, fun j a b => e _ q7 j a b (fun h => by omega) (fun _ => ⟨q2, q4⟩) (fun h => by omega) (by omega)⟩
        by_cases hc : bt s i % 16 * 4096 + bt s (i + 1) % 64 * 64 + bt s (i + 2) % 64 = 65533
        · rw [hpre.2 ⟨by omega, by omega, by omega, by omega⟩, Bool.and_comm]; rfl
        · rw [decide_eq_false (by simp only; omega)]; rfl
      · rw [if_neg (c := bt s i / 16 = 14 ∧ _) (by omega)]
        by_cases h4 : 240 ≤ bt s i ∧ bt s i < 248
        · have hw1 : wid s i = widN s i 4 (bt s i - 240) 65536 := by unfold wid; rw [if_neg h1, if_neg h2, if_neg h3, if_pos h4]
          have hq : i + 4 ≤ s.size ∧ 128 ≤ bt s (i + 1) ∧ bt s (i + 1) < 192 ∧ 128 ≤ bt s (i + 2) ∧ bt s (i + 2) < 192 ∧ 128 ≤ bt s (i + 3) ∧ bt s (i + 3) < 192 ∧ (65536 ≤ (((bt s i - 240) * 64 + bt s (i + 1) - 128) * 64 + bt s (i + 2) - 128) * 64 + bt s (i + 3) - 128 ∧ (((bt s i - 240) * 64 + bt s (i + 1) - 128) * 64 + bt s (i + 2) - 128) * 64 + bt s (i + 3) - 128 ≤ 1114111) ∧ wid s i = 4 := by
            rw [hw1] at hw ⊢
            unfold widN at hw ⊢
            rw [widC3] at hw ⊢
            by_cases q1 : s.size < i + 4
            · rw [if_pos q1] at hw; omega
            rw [if_neg q1] at hw ⊢
            by_cases q2 : bt s (i + 1) < 128 ∨ 192 ≤ bt s (i + 1)
            · rw [if_pos q2] at hw; exact absurd rfl hw
            rw [if_neg q2] at hw ⊢
            by_cases q3 : bt s (i + 2) < 128 ∨ 192 ≤ bt s (i + 2)
            · rw [if_pos q3] at hw; exact absurd rfl hw
            rw [if_neg q3] at hw ⊢
            by_cases q4 : bt s (i + 3) < 128 ∨ 192 ≤ bt s (i + 3)
            · rw [if_pos q4] at hw; exact absurd rfl hw
            rw [if_neg q4] at hw ⊢
            simp only at hw ⊢
            split at hw
            · omega
            · rw [if_neg (by assumption)]
              omega
          obtain ⟨q1, q2, q3, q4, q5, q6, q7, q8, q9⟩ := hq
          rw [if_pos (by omega), if_pos (by omega), q9]
          refine ⟨rfl, ?_, by omega, fun h => by omega, fun h => by simp only; omega, fun j a b => e _ q9 j a b (fun h => by omega) (fun h => by omega) (fun _ => ⟨q2, q4, q6⟩) (by omega)⟩
          rw [decide_eq_false (by simp only; omega)]; rfl
        · exact absurd (by unfold wid; rw [if_neg h1, if_neg h2, if_neg h3, if_neg h4]) hw
end Go.Proofs.YtmmflekajbeamaaDoor
