/-
  The document's own answer: a register, a name, a label's place, a number (register, name, find, number).
-/
import Derived.Test.YtmmflekajbeamaaDoorG16
import Derived.Deep.Light
namespace Go.Proofs.YtmmflekajbeamaaDoor
open Go.RowKit

def regD (l : List UInt8) : Int := if regB l = true then regV l else -1
theorem valD_one (b : UInt8) : valD [b] = (b.toNat : Int) - 48 := by simp [valD]

set_option maxRecDepth 100000 in
set_option maxHeartbeats 2000000 in
theorem rregister_any (s : ByteArray) (w : World) (hs : s.size ≤ 2000) :
    Calls Tryd.prog 149 #[.string s] w fun e' w' => e' = .returned (.int .i64 (regD s.data.toList)) ∧ w' = w := by
  by_cases h2 : s.size = 2
  · obtain ⟨a, b, rfl⟩ := bytes2 s h2
    have e0 := ba0 a b
    have a1 := a.toNat_lt
    have b1 := b.toNat_lt
    have hsl : (⟨#[a, b]⟩ : ByteArray).extract 1 2 = ⟨#[b]⟩ := by
      apply ByteArray.ext
      simp
    have hsz2 : (⟨#[a, b]⟩ : ByteArray).size = 2 := rfl
    by_cases ha : a.toNat = 114
    · have ha' : (a.toNat : Int) = 114 := by omega
      by_cases hd : digC b = true
      · have hok : numOK (⟨#[b]⟩ : ByteArray).data.toList = true := by simp [numOK, hd]
        have HD := hide (fun w' => rdigits_num ⟨#[b]⟩ 7 w' hok)
        have hv : valD (⟨#[b]⟩ : ByteArray).data.toList = (b.toNat : Int) - 48 := valD_one b
        simp only [hv] at HD
        have hdd : 48 ≤ b.toNat ∧ b.toNat ≤ 57 := by simpa [digC] using hd
        have HR : Hid (regD (⟨#[a, b]⟩ : ByteArray).data.toList = if b.toNat ≤ 55 then (b.toNat : Int) - 48 else -1) := by
          show (if regB [a, b] = true then regV [a, b] else -1) = _
          unfold regB regV
          simp only [decide_eq_true_eq]
          by_cases h5 : b.toNat ≤ 55
          · rw [if_pos ⟨ha, hdd.1, h5⟩, if_pos h5]; rfl
          · rw [if_neg (by omega), if_neg h5]
        clear hok hv
        go_enter Tryd.func149, Tryd.ntmps149
        go_wp2_with fail
        refine (unhide HD _).mono ?_
        rintro e w' ⟨hres, hw'⟩
        obtain rfl := hw'.symm
        rcases hres with ⟨h7, rfl⟩ | ⟨h7, rfl⟩
        · go_wp2_with fail
          go_ret
          rw [HR.out, if_pos (by omega)]
          exact ⟨rfl, rfl⟩
        · go_wp2_with fail
          go_ret
          rw [HR.out, if_neg (by omega)]
          exact ⟨rfl, rfl⟩
      · have hok : numOK (⟨#[b]⟩ : ByteArray).data.toList = false := by simp [numOK, hd]
        have HD := hide (fun w' => rdigits_no ⟨#[b]⟩ 7 w' hok (show 1 ≤ maxLen by decide))
        have HR : Hid (regD (⟨#[a, b]⟩ : ByteArray).data.toList = -1) := by
          show (if regB [a, b] = true then regV [a, b] else -1) = _
          unfold regB
          simp only [decide_eq_true_eq]
          simp [digC] at hd
          rw [if_neg (by omega)]
        clear hok
        go_enter Tryd.func149, Tryd.ntmps149
        go_wp2_with fail
        refine (unhide HD _).mono ?_
        rintro e w' ⟨rfl, hw'⟩
        obtain rfl := hw'.symm
        go_wp2_with fail
        go_ret
        rw [HR.out]
        exact ⟨rfl, rfl⟩
    · have ha' : ¬ (a.toNat : Int) = 114 := by omega
      have HR : Hid (regD (⟨#[a, b]⟩ : ByteArray).data.toList = -1) := by
        show (if regB [a, b] = true then regV [a, b] else -1) = _
        unfold regB
        simp only [decide_eq_true_eq]
        rw [if_neg (by omega)]
      go_enter Tryd.func149, Tryd.ntmps149
      go_wp2_with fail
      go_ret
      rw [HR.out]
      exact ⟨rfl, rfl⟩
  · have h2' : ¬ (s.size : Int) = 2 := by omega
    have HR : Hid (regD s.data.toList = -1) := by
      unfold Hid regD
      have hl : s.data.toList.length = s.size := rfl
      rw [if_neg]
      intro hr
      obtain ⟨a, b, hab, _⟩ := regB_val hr
      rw [hab] at hl
      simp at hl
      omega
    go_enter Tryd.func149, Tryd.ntmps149
    go_wp2_with fail
    go_ret
    rw [HR.out]
    exact ⟨rfl, rfl⟩

theorem form_any (s : ByteArray) (w : World) :
    Calls Tryd.prog 148 #[.string s] w fun e' w' => (∃ (op : Int) (pt : ByteArray), e' = .returned (.tuple #[.int .i64 op, .string pt]) ∧ -1 ≤ op ∧ op ≤ 11 ∧ (op < 0 ↔ instB s.data.toList = false)) ∧ w' = w := by
  cases hq : instB s.data.toList with
  | false =>
    refine (form_no s w hq).mono ?_
    rintro e w' ⟨rfl, rfl⟩
    exact ⟨⟨-1, _, rfl, by decide, by decide, by simp⟩, rfl⟩
  | true =>
    obtain ⟨j, hj, hn⟩ := instB_yes hq
    have hs : s = ⟨(rowNm j).toArray⟩ := by
      obtain ⟨d⟩ := s
      congr 1
      rw [hn]
    rw [hs]
    refine (form_yes j w hj).mono ?_
    rintro e w' ⟨rfl, rfl⟩
    have h1 : 0 ≤ fmOp j ∧ fmOp j ≤ 11 := by
      match j, hj with
      | 0, _ | 1, _ | 2, _ | 3, _ | 4, _ | 5, _ | 6, _ | 7, _ | 8, _ | 9, _ | 10, _ | 11, _ => decide
    exact ⟨⟨_, _, rfl, by omega, by omega, by simp; omega⟩, rfl⟩

set_option maxRecDepth 100000 in
set_option maxHeartbeats 8000000 in
theorem name_any (s : ByteArray) (w : World) (hs : s.size ≤ 2000) (hv : Val s) :
    Calls Tryd.prog 115 #[.string s] w fun e' w' => e' = .returned (.bool (nmI s)) ∧ w' = w := by
  have HWd := hide (fun i w' (hi : i < s.size) => width_any s i w' hi hs)
  have HFm := hide (form_any s)
  have HRg := hide (rregister_any s)
  have HEq := hide (name_go s s.size 0 0 hv (by simp))
  go_enter Tryd.func115, Tryd.ntmps115
  go_wp2_with fail
  go_loop [3, 4] (fun n i => ∃ (f p c : Nat), p ≤ s.size ∧ s.size ≤ p + f ∧ i = .int .i64 p ∧ n = .int .i64 c ∧ c ≤ p ∧ Hid (Seg s p s.size) ∧ Hid (ndGo s f p c = ndGo s s.size 0 0)) (fun _ i => s.size - (intOf i).toNat)
  case atStart => exact ⟨s.size, 0, 0, Nat.zero_le _, by omega, rfl, rfl, Nat.le_refl _, hv, rfl⟩
  case round =>
    obtain ⟨f, p, c, hp, hf, rfl, rfl, hcp, HSeg, HG⟩ := hrel
    by_cases hlt : p < s.size
    · obtain ⟨f, rfl⟩ : ∃ f', f = f' + 1 := ⟨f - 1, by omega⟩
      have hlt' : (p : Int) < (s.size : Int) := by omega
      have hgb := bt_get s p hlt
      have hbl2 := bt_lt s p
      obtain ⟨hw, _, hseg'⟩ := HSeg.out.cons hlt
      obtain ⟨_, _, hle, _⟩ := wid_pos s p hlt hw
      have hstep := HG.out
      rw [ndGo, if_pos hlt] at hstep
      have HW := hide (fun w' => HWd.out p w' hlt)
      have HSeg' := hide hseg'
      have hwp : (1 : Int) ≤ (wid s p : Int) := by omega
      have hwl : (wid s p : Int) ≤ 2000 := by omega
      clear hseg' HG
      have cls : (bt s p < 48) ∨ (48 ≤ bt s p ∧ bt s p ≤ 57) ∨ (58 ≤ bt s p ∧ bt s p ≤ 64) ∨ (65 ≤ bt s p ∧ bt s p ≤ 90) ∨ (bt s p = 95) ∨ (91 ≤ bt s p ∧ bt s p ≤ 96 ∧ bt s p ≠ 95) ∨ (97 ≤ bt s p ∧ bt s p ≤ 122) ∨ (123 ≤ bt s p ∧ bt s p ≤ 127) ∨ (128 ≤ bt s p) := by omega
      rcases cls with hc | hc | hc | hc | hc | hc | hc | hc | hc
      · have v1 : ¬ ((48 : Int) ≤ (bt s p : Int)) := by omega
        have v3 : ((bt s p : Int) == 95) = false := by rw [beq_eq_false_iff_ne]; omega
        have v4 : ¬ ((97 : Int) ≤ (bt s p : Int)) := by omega
        have v6 : ¬ ((65 : Int) ≤ (bt s p : Int)) := by omega
        have v8 : ¬ ((128 : Int) ≤ (bt s p : Int)) := by omega
        rw [if_neg (by unfold letC; simp only [Bool.or_eq_true, Bool.and_eq_true, decide_eq_true_eq]; omega)] at hstep
        have HR : Hid (nmI s = false) := nmI_none (HEq.out.trans hstep.symm)
        clear hstep HW HSeg' HWd
        go_wp2_with fail
        go_ret
        rw [HR.out]
        exact ⟨rfl, rfl⟩
      · have v1 : (48 : Int) ≤ (bt s p : Int) := by omega
        have v2 : (bt s p : Int) ≤ 57 := by omega
        have v3 : ((bt s p : Int) == 95) = false := by rw [beq_eq_false_iff_ne]; omega
        have v4 : ¬ ((97 : Int) ≤ (bt s p : Int)) := by omega
        have v6 : ¬ ((65 : Int) ≤ (bt s p : Int)) := by omega
        have v8 : ¬ ((128 : Int) ≤ (bt s p : Int)) := by omega
        by_cases hp0 : p = 0
        · subst hp0
          rw [if_neg (by unfold letC; simp only [Bool.or_eq_true, Bool.and_eq_true, decide_eq_true_eq]; omega)] at hstep
          have HR : Hid (nmI s = false) := nmI_none (HEq.out.trans hstep.symm)
          clear hstep HW HSeg' HWd
          go_wp2_with fail
          go_ret
          rw [HR.out]
          exact ⟨rfl, rfl⟩
        · have hp0' : ((p : Int) == 0) = false := by rw [beq_eq_false_iff_ne]; omega
          rw [if_pos (by unfold letC; simp only [Bool.or_eq_true, Bool.and_eq_true, decide_eq_true_eq]; omega)] at hstep
          have HS := hide hstep
          clear hstep
          go_wp2_with fail
          refine (unhide HW _).mono ?_
          rintro e w' ⟨rfl, hw'⟩
          obtain rfl := hw'.symm
          go_wp2_with fail
          exact ⟨⟨f, p + wid s p, c + 1, hle, by omega, by go_num, by go_num, by omega, HSeg', HS⟩, by simp [intOf]; omega⟩
      · have v1 : (48 : Int) ≤ (bt s p : Int) := by omega
        have v2 : ¬ ((bt s p : Int) ≤ 57) := by omega
        have v3 : ((bt s p : Int) == 95) = false := by rw [beq_eq_false_iff_ne]; omega
        have v4 : ¬ ((97 : Int) ≤ (bt s p : Int)) := by omega
        have v6 : ¬ ((65 : Int) ≤ (bt s p : Int)) := by omega
        have v8 : ¬ ((128 : Int) ≤ (bt s p : Int)) := by omega
        rw [if_neg (by unfold letC; simp only [Bool.or_eq_true, Bool.and_eq_true, decide_eq_true_eq]; omega)] at hstep
        have HR : Hid (nmI s = false) := nmI_none (HEq.out.trans hstep.symm)
        clear hstep HW HSeg' HWd
        go_wp2_with fail
        go_ret
        rw [HR.out]
        exact ⟨rfl, rfl⟩
      · have v1 : (48 : Int) ≤ (bt s p : Int) := by omega
        have v2 : ¬ ((bt s p : Int) ≤ 57) := by omega
        have v3 : ((bt s p : Int) == 95) = false := by rw [beq_eq_false_iff_ne]; omega
        have v4 : ¬ ((97 : Int) ≤ (bt s p : Int)) := by omega
        have v6 : (65 : Int) ≤ (bt s p : Int) := by omega
        have v7 : (bt s p : Int) ≤ 90 := by omega
        have v8 : ¬ ((128 : Int) ≤ (bt s p : Int)) := by omega
        rw [if_pos (by unfold letC; simp only [Bool.or_eq_true, Bool.and_eq_true, decide_eq_true_eq]; omega)] at hstep
        have HS := hide hstep
        clear hstep
        go_wp2_with fail
        refine (unhide HW _).mono ?_
        rintro e w' ⟨rfl, hw'⟩
        obtain rfl := hw'.symm
        go_wp2_with fail
        exact ⟨⟨f, p + wid s p, c + 1, hle, by omega, by go_num, by go_num, by omega, HSeg', HS⟩, by simp [intOf]; omega⟩
      · have v1 : (48 : Int) ≤ (bt s p : Int) := by omega
        have v2 : ¬ ((bt s p : Int) ≤ 57) := by omega
        have v3 : (bt s p : Int) = 95 := by omega
        rw [if_pos (by unfold letC; simp only [Bool.or_eq_true, Bool.and_eq_true, decide_eq_true_eq]; omega)] at hstep
        have HS := hide hstep
        clear hstep
        go_wp2_with fail
        refine (unhide HW _).mono ?_
        rintro e w' ⟨rfl, hw'⟩
        obtain rfl := hw'.symm
        go_wp2_with fail
        exact ⟨⟨f, p + wid s p, c + 1, hle, by omega, by go_num, by go_num, by omega, HSeg', HS⟩, by simp [intOf]; omega⟩
      · have v1 : (48 : Int) ≤ (bt s p : Int) := by omega
        have v2 : ¬ ((bt s p : Int) ≤ 57) := by omega
        have v3 : ((bt s p : Int) == 95) = false := by rw [beq_eq_false_iff_ne]; omega
        have v4 : ¬ ((97 : Int) ≤ (bt s p : Int)) := by omega
        have v6 : (65 : Int) ≤ (bt s p : Int) := by omega
        have v7 : ¬ ((bt s p : Int) ≤ 90) := by omega
        have v8 : ¬ ((128 : Int) ≤ (bt s p : Int)) := by omega
        rw [if_neg (by unfold letC; simp only [Bool.or_eq_true, Bool.and_eq_true, decide_eq_true_eq]; omega)] at hstep
        have HR : Hid (nmI s = false) := nmI_none (HEq.out.trans hstep.symm)
        clear hstep HW HSeg' HWd
        go_wp2_with fail
        go_ret
        rw [HR.out]
        exact ⟨rfl, rfl⟩
      · have v1 : (48 : Int) ≤ (bt s p : Int) := by omega
        have v2 : ¬ ((bt s p : Int) ≤ 57) := by omega
        have v3 : ((bt s p : Int) == 95) = false := by rw [beq_eq_false_iff_ne]; omega
        have v4 : (97 : Int) ≤ (bt s p : Int) := by omega
        have v5 : (bt s p : Int) ≤ 122 := by omega
        rw [if_pos (by unfold letC; simp only [Bool.or_eq_true, Bool.and_eq_true, decide_eq_true_eq]; omega)] at hstep
        have HS := hide hstep
        clear hstep
        go_wp2_with fail
        refine (unhide HW _).mono ?_
        rintro e w' ⟨rfl, hw'⟩
        obtain rfl := hw'.symm
        go_wp2_with fail
        exact ⟨⟨f, p + wid s p, c + 1, hle, by omega, by go_num, by go_num, by omega, HSeg', HS⟩, by simp [intOf]; omega⟩
      · have v1 : (48 : Int) ≤ (bt s p : Int) := by omega
        have v2 : ¬ ((bt s p : Int) ≤ 57) := by omega
        have v3 : ((bt s p : Int) == 95) = false := by rw [beq_eq_false_iff_ne]; omega
        have v4 : (97 : Int) ≤ (bt s p : Int) := by omega
        have v5 : ¬ ((bt s p : Int) ≤ 122) := by omega
        have v6 : (65 : Int) ≤ (bt s p : Int) := by omega
        have v7 : ¬ ((bt s p : Int) ≤ 90) := by omega
        have v8 : ¬ ((128 : Int) ≤ (bt s p : Int)) := by omega
        rw [if_neg (by unfold letC; simp only [Bool.or_eq_true, Bool.and_eq_true, decide_eq_true_eq]; omega)] at hstep
        have HR : Hid (nmI s = false) := nmI_none (HEq.out.trans hstep.symm)
        clear hstep HW HSeg' HWd
        go_wp2_with fail
        go_ret
        rw [HR.out]
        exact ⟨rfl, rfl⟩
      · have v1 : (48 : Int) ≤ (bt s p : Int) := by omega
        have v2 : ¬ ((bt s p : Int) ≤ 57) := by omega
        have v3 : ((bt s p : Int) == 95) = false := by rw [beq_eq_false_iff_ne]; omega
        have v4 : (97 : Int) ≤ (bt s p : Int) := by omega
        have v5 : ¬ ((bt s p : Int) ≤ 122) := by omega
        have v6 : (65 : Int) ≤ (bt s p : Int) := by omega
        have v7 : ¬ ((bt s p : Int) ≤ 90) := by omega
        have v8 : (128 : Int) ≤ (bt s p : Int) := by omega
        rw [if_pos (by unfold letC; simp only [Bool.or_eq_true, Bool.and_eq_true, decide_eq_true_eq]; omega)] at hstep
        have HS := hide hstep
        clear hstep
        go_wp2_with fail
        refine (unhide HW _).mono ?_
        rintro e w' ⟨rfl, hw'⟩
        obtain rfl := hw'.symm
        go_wp2_with fail
        exact ⟨⟨f, p + wid s p, c + 1, hle, by omega, by go_num, by go_num, by omega, HSeg', HS⟩, by simp [intOf]; omega⟩
    · have hlt' : ¬ (p : Int) < (s.size : Int) := by omega
      have hn : nameGo s s.size 0 0 = some c := by
        rw [HEq.out, ← HG.out]
        cases f with
        | zero => rfl
        | succ f => rw [ndGo, if_neg hlt]
      have HR := hide (nmI_some hn)
      clear hn HG HEq HWd HSeg
      go_wp2_with fail
      refine (unhide HFm _).mono ?_
      rintro e w' ⟨⟨op, pt, rfl, ho1, ho2, hop⟩, hw'⟩
      obtain rfl := hw'.symm
      go_wp2_with fail
      refine (unhide HRg _ hs).mono ?_
      rintro e w' ⟨rfl, hw'⟩
      obtain rfl := hw'.symm
      have HOp := hide hop
      clear hop HFm HRg
      have hreg : regD s.data.toList < 0 ↔ regB s.data.toList = false := by
        unfold regD
        cases hr : regB s.data.toList with
        | false => simp
        | true =>
          obtain ⟨a, b, _, q1, q2, q3⟩ := regB_val hr
          rw [if_pos rfl, q3]
          simp
          omega
      have HRe := hide hreg
      generalize regD s.data.toList = rd at *
      have done : ∀ x : Bool, x = (decide ((1 : Int) ≤ c) && decide ((c : Int) ≤ 12) && decide (op < 0) && decide (rd < 0)) → x = nmI s := fun x hx => by
        rw [hx, HR.out, Bool.eq_iff_iff]
        unfold takB
        simp only [Bool.and_eq_true, decide_eq_true_eq, Bool.not_eq_true', Bool.or_eq_false_iff, HOp.out, HRe.out]
        rw [show ((1 : Int) ≤ (c : Int)) ↔ 1 ≤ c by omega, show ((c : Int) ≤ 12) ↔ c ≤ 12 by omega]
        exact and_assoc
      have HDone := hide done
      clear done hreg HR HOp HRe
      go_wp2_with fail
      all_goals go_ret
      all_goals refine ⟨congrArg (fun b => Ending.returned (Value.bool b)) (HDone.out _ ?_), rfl⟩
      all_goals go_light
      all_goals
        rw [Bool.eq_iff_iff]
        simp only [Bool.and_eq_true, decide_eq_true_eq]
        constructor
        · intro h
          first | omega | cases h
        · intro h
          omega

def lbC (p : List UInt8 × Int) : List Value := [.string ⟨p.1.toArray⟩, .int .i64 p.2]
def lbCs (l : List (List UInt8 × Int)) : List Value := l.flatMap lbC
theorem lbCs_snoc (l : List (List UInt8 × Int)) (p : List UInt8 × Int) : lbCs (l ++ [p]) = lbCs l ++ lbC p := by simp [lbCs]
theorem lbCs_at (l : List (List UInt8 × Int)) (k : Nat) (p : List UInt8 × Int) (h : l[k]? = some p) : (lbCs l)[k * 2]? = some (.string ⟨p.1.toArray⟩) ∧ (lbCs l)[k * 2 + 1]? = some (.int .i64 p.2) := by
  induction l generalizing k with
  | nil => simp at h
  | cons a l ih =>
    have hlen : (lbC a).length = 2 := rfl
    show (lbC a ++ lbCs l)[k * 2]? = _ ∧ (lbC a ++ lbCs l)[k * 2 + 1]? = _
    match k, h with
    | 0, h =>
      simp at h
      subst h
      exact ⟨rfl, rfl⟩
    | k + 1, h =>
      simp at h
      rw [List.getElem?_append_right (by omega), List.getElem?_append_right (by omega), hlen, show (k + 1) * 2 - 2 = k * 2 by omega, show (k + 1) * 2 + 1 - 2 = k * 2 + 1 by omega]
      exact ih k h
/-- Labels in memory. -/
def LbAt (w : World) (B : Nat) (v : Value) (l : List (List UInt8 × Int)) : Prop := w.ownsRow B 162 2 v l.length (lbCs l)

set_option maxRecDepth 100000 in
set_option maxHeartbeats 4000000 in
theorem find_any (s : ByteArray) (B : Nat) (v : Value) (l : List (List UInt8 × Int)) (w : World) (hl : LbAt w B v l) (hll : l.length ≤ 5000) :
    Calls Tryd.prog 116 #[v, .string s] w fun e' w' => e' = .returned (.int .i64 ((l.lookup s.data.toList).getD (-1))) ∧ w' = w := by
  obtain ⟨va, vc, rfl⟩ := owns_len hl
  have HL := hide hl
  clear hl
  go_enter Tryd.func116, Tryd.ntmps116
  go_wp2_with fail
  go_loop [5] (fun i => ∃ k : Nat, k ≤ l.length ∧ i = .int .i64 k ∧ Hid ((l.drop k).lookup s.data.toList = l.lookup s.data.toList)) (fun i => l.length - (intOf i).toNat)
  case atStart => exact ⟨0, Nat.zero_le _, rfl, rfl⟩
  case round =>
    obtain ⟨k, hk, rfl, HG⟩ := hrel
    by_cases hlt : k < l.length
    · have hlt' : (k : Int) < (l.length : Int) := by omega
      obtain ⟨g, cap, hform, _, hgl⟩ := HL.out.form (by omega)
      cases hform
      obtain ⟨y0, y1⟩ := lbCs_at l k l[k] (by simp [hlt])
      have x0 : w.cell? ⟨g, k * 2, none⟩ = some (.string ⟨l[k].1.toArray⟩) := (HL.out.cellAt _ (by omega)).trans y0
      have x1 : w.cell? ⟨g, k * 2 + 1, none⟩ = some (.int .i64 l[k].2) := (HL.out.cellAt _ (by omega)).trans y1
      have HDr : Hid (l.drop k = l[k] :: l.drop (k + 1)) := List.drop_eq_getElem_cons hlt
      generalize l[k] = q at *
      obtain ⟨qk, qv⟩ := q
      simp only at x0 x1
      clear y0 y1
      have hstep := HG.out
      rw [HDr.out, List.lookup] at hstep
      cases hq : s.data.toList == qk
      · rw [hq] at hstep
        have HS := hide hstep
        clear hstep HG HDr
        have hne : (qk == s.data.toList) = false := by rw [beq_eq_false_iff_ne] at hq ⊢; exact fun e => hq e.symm
        have e1 : (qk == s.toList) = false := by rw [ByteArray.toList_eq]; exact hne
        clear hq hne
        go_wp2_with fail
        exact ⟨⟨k + 1, by omega, by go_num, HS⟩, by simp [intOf]; omega⟩
      · rw [hq] at hstep
        have HS := hide hstep
        clear hstep HG HDr
        have e1 : (qk == s.toList) = true := by rw [ByteArray.toList_eq, beq_iff_eq]; exact (beq_iff_eq.1 hq).symm
        clear hq
        go_wp2_with fail
        go_ret
        rw [← HS.out]
        exact ⟨rfl, rfl⟩
    · have hlt' : ¬ (k : Int) < (l.length : Int) := by omega
      have hkn : k = l.length := by omega
      have HS : Hid (l.lookup s.data.toList = none) := by
        unfold Hid
        rw [← HG.out, hkn, List.drop_of_length_le (Nat.le_refl _)]; rfl
      clear HG
      go_wp2_with fail
      go_ret
      rw [HS.out]
      exact ⟨rfl, rfl⟩

def numD (most : Int) (lb : List (List UInt8 × Int)) (ga : Bool) (t : ByteArray) : Int :=
  if digOK most t.data.toList = true then valD t.data.toList else if nmI t = true then (if ga = true then 0 else (lb.lookup t.data.toList).getD (-2)) else -1
theorem rdigits_any (s : ByteArray) (most : Int) (w : World) (hs : s.size ≤ 2000) :
    Calls Tryd.prog 167 #[.string s, .int .i64 most] w fun e' w' => e' = .returned (.int .i64 (if digOK most s.data.toList = true then valD s.data.toList else -1)) ∧ w' = w := by
  cases hok : numOK s.data.toList with
  | true =>
    refine (rdigits_num s most w hok).mono ?_
    rintro e w' ⟨h | h, rfl⟩
    · rw [if_pos (by unfold digOK; rw [hok]; simpa using h.1)]
      exact ⟨h.2, rfl⟩
    · rw [if_neg (by unfold digOK; rw [hok]; simp; exact h.1)]
      exact ⟨h.2, rfl⟩
  | false =>
    refine (rdigits_no s most w hok (by unfold maxLen; omega)).mono ?_
    rintro e w' ⟨rfl, rfl⟩
    rw [if_neg (by unfold digOK; rw [hok]; simp)]
    exact ⟨rfl, rfl⟩

set_option maxRecDepth 100000 in
set_option maxHeartbeats 4000000 in
theorem rnumber_any (s : ByteArray) (most : Int) (B : Nat) (v : Value) (l : List (List UInt8 × Int)) (ga : Bool) (w : World) (hs : s.size ≤ 2000) (hv : Val s) (hl : LbAt w B v l) (hll : l.length ≤ 5000) (hlb : ∀ p ∈ l, 0 ≤ p.2) :
    Calls Tryd.prog 150 #[.string s, .int .i64 most, v, .bool ga] w fun e' w' => e' = .returned (.int .i64 (numD most l ga s)) ∧ w' = w := by
  have HDg := hide (rdigits_any s most w hs)
  have HNm := hide (name_any s w hs hv)
  have HFd := hide (find_any s B v l w hl hll)
  have HLb : Hid (∀ x, l.lookup s.data.toList = some x → 0 ≤ x) := fun x hx => by
    have : (s.data.toList, x) ∈ l := by
      clear hl hll hlb HFd
      induction l with
      | nil => cases hx
      | cons q l ih =>
        obtain ⟨k', x'⟩ := q
        unfold List.lookup at hx
        cases hq : s.data.toList == k' with
        | true =>
          rw [hq] at hx
          cases hx
          rw [beq_iff_eq.1 hq]
          exact List.mem_cons_self
        | false =>
          rw [hq] at hx
          exact List.mem_cons_of_mem _ (ih hx)
    exact hlb _ this
  clear hl hll hlb
  by_cases hd : digOK most s.data.toList = true
  · have HR : Hid (numD most l ga s = valD s.data.toList) := by unfold Hid numD; rw [if_pos hd]
    have h0 : 0 ≤ valD s.data.toList := by
      unfold digOK at hd
      rw [Bool.and_eq_true] at hd
      have hn := hd.1
      simp only [numOK, Bool.and_eq_true, decide_eq_true_eq, List.all_eq_true] at hn
      exact (valD_bd _ hn.2 hn.1.2).1
    rw [if_pos hd] at HDg
    clear hd
    generalize valD s.data.toList = vd at *
    go_enter Tryd.func150, Tryd.ntmps150
    go_wp2_with fail
    refine (unhide HDg).mono ?_
    rintro e w' ⟨rfl, hw'⟩
    obtain rfl := hw'.symm
    go_wp2_with fail
    go_ret
    rw [HR.out]
    exact ⟨rfl, rfl⟩
  · rw [if_neg hd] at HDg
    cases hn : nmI s with
    | false =>
      have HR : Hid (numD most l ga s = -1) := by unfold Hid numD; rw [if_neg hd, hn]; rfl
      rw [hn] at HNm
      clear hd hn
      go_enter Tryd.func150, Tryd.ntmps150
      go_wp2_with fail
      refine (unhide HDg).mono ?_
      rintro e w' ⟨rfl, hw'⟩
      obtain rfl := hw'.symm
      go_wp2_with fail
      refine (unhide HNm).mono ?_
      rintro e w' ⟨rfl, hw'⟩
      obtain rfl := hw'.symm
      go_wp2_with fail
      go_ret
      rw [HR.out]
      exact ⟨rfl, rfl⟩
    | true =>
      rw [hn] at HNm
      cases ga with
      | true =>
        have HR : Hid (numD most l true s = 0) := by unfold Hid numD; rw [if_neg hd, if_pos hn]; rfl
        clear hd hn
        go_enter Tryd.func150, Tryd.ntmps150
        go_wp2_with fail
        refine (unhide HDg).mono ?_
        rintro e w' ⟨rfl, hw'⟩
        obtain rfl := hw'.symm
        go_wp2_with fail
        refine (unhide HNm).mono ?_
        rintro e w' ⟨rfl, hw'⟩
        obtain rfl := hw'.symm
        go_wp2_with fail
        go_ret
        rw [HR.out]
        exact ⟨rfl, rfl⟩
      | false =>
        have HR : Hid (numD most l false s = (l.lookup s.data.toList).getD (-2)) := by unfold Hid numD; rw [if_neg hd, if_pos hn]; rfl
        clear hd hn
        cases hq : l.lookup s.data.toList with
        | none =>
          rw [hq] at HR HFd
          clear HLb
          simp only [Option.getD_none] at HR HFd
          go_enter Tryd.func150, Tryd.ntmps150
          go_wp2_with fail
          refine (unhide HDg).mono ?_
          rintro e w' ⟨rfl, hw'⟩
          obtain rfl := hw'.symm
          go_wp2_with fail
          refine (unhide HNm).mono ?_
          rintro e w' ⟨rfl, hw'⟩
          obtain rfl := hw'.symm
          go_wp2_with fail
          refine (unhide HFd).mono ?_
          rintro e w' ⟨rfl, hw'⟩
          obtain rfl := hw'.symm
          go_wp2_with fail
          go_ret
          rw [HR.out]
          exact ⟨rfl, rfl⟩
        | some x =>
          have hx := HLb.out x hq
          rw [hq] at HR HFd
          clear HLb
          simp only [Option.getD_some] at HR HFd
          go_enter Tryd.func150, Tryd.ntmps150
          go_wp2_with fail
          refine (unhide HDg).mono ?_
          rintro e w' ⟨rfl, hw'⟩
          obtain rfl := hw'.symm
          go_wp2_with fail
          refine (unhide HNm).mono ?_
          rintro e w' ⟨rfl, hw'⟩
          obtain rfl := hw'.symm
          go_wp2_with fail
          refine (unhide HFd).mono ?_
          rintro e w' ⟨rfl, hw'⟩
          obtain rfl := hw'.symm
          go_wp2_with fail
          go_ret
          rw [HR.out]
          exact ⟨rfl, rfl⟩
end Go.Proofs.YtmmflekajbeamaaDoor
