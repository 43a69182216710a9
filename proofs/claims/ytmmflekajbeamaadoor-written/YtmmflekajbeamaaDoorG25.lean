/-
  One pass with labels filled in later gives what two passes give.
-/
import Derived.Test.YtmmflekajbeamaaDoorG24
namespace Go.Proofs.YtmmflekajbeamaaDoor
open Go

/-- A row's parts, as the program and as the document letter them. -/
theorem kinds (n k : Nat) (hk : k < (rowPt n).length) : (rowPt n).length = (fmPt n).length ∧
    (((rowPt n).getD k 0 = 114 ∧ ((fmPt n).getD k 0 = 97 ∨ (fmPt n).getD k 0 = 98 ∨ (fmPt n).getD k 0 = 99)) ∨ ((rowPt n).getD k 0 = 110 ∧ (fmPt n).getD k 0 = 110) ∨ ((rowPt n).getD k 0 = 118 ∧ (fmPt n).getD k 0 = 118)) := by
  match n, hk with
  | 0, hk => simp [rowPt] at hk
  | 1, hk =>
    simp [rowPt] at hk
    match k, hk with
    | 0, _ | 1, _ => decide
  | 2, hk | 3, hk | 4, hk | 5, hk | 6, hk | 7, hk | 8, hk =>
    simp [rowPt] at hk
    match k, hk with
    | 0, _ | 1, _ | 2, _ => decide
  | 9, hk | 10, hk | 11, hk =>
    simp [rowPt] at hk
    subst hk
    decide
  | j + 12, hk => simp [rowPt] at hk
theorem lens (n : Nat) : (rowPt n).length = (fmPt n).length := by
  match n with
  | 0 | 1 | 2 | 3 | 4 | 5 | 6 | 7 | 8 | 9 | 10 | 11 => rfl
  | j + 12 => rfl
theorem valD_pos {l : List UInt8} (h : numOK l = true) : 0 ≤ valD l := by
  simp only [numOK, Bool.and_eq_true, decide_eq_true_eq, List.all_eq_true] at h
  exact (valD_bd _ h.2 h.1.2).1
theorem regD_no (l : List UInt8) : regD l = -1 ↔ regB l = false := by
  unfold regD
  cases hr : regB l with
  | false => simp
  | true =>
    obtain ⟨a, b, _, q1, q2, q3⟩ := regB_val hr
    rw [if_pos rfl, q3]
    simp
    omega
theorem numD_no (most : Int) (lb : List (List UInt8 × Int)) (ga : Bool) (t : ByteArray) (hlb : ∀ p ∈ lb, 0 ≤ p.2) : numD most lb ga t = -1 ↔ fitB most t = false := by
  unfold numD fitB digOK
  by_cases h1 : (numOK t.data.toList && decide (valD t.data.toList ≤ most)) = true
  · rw [if_pos h1, h1]
    rw [Bool.and_eq_true] at h1
    have := valD_pos h1.1
    simp
    omega
  · rw [if_neg h1]
    rw [Bool.not_eq_true] at h1
    rw [h1, Bool.false_or]
    cases hn : nmI t with
    | false => simp
    | true =>
      rw [if_pos rfl]
      cases ga with
      | true => simp
      | false =>
        cases hq : lb.lookup t.data.toList with
        | none => simp
        | some x =>
          have := hlb _ (lookup_in hq)
          simp only at this
          simp
          omega
/-- A part is wrong for both or for neither. -/
theorem part_no (n k : Nat) (hk : k < (rowPt n).length) (lb : List (List UInt8 × Int)) (ga : Bool) (t : ByteArray) (hlb : ∀ p ∈ lb, 0 ≤ p.2) : partD ((fmPt n).getD k 0) lb ga t = -1 ↔ fitK ((rowPt n).getD k 0) t = false := by
  obtain ⟨_, h | h | h⟩ := kinds n k hk
  · unfold partD fitK
    rw [if_pos h.1]
    rw [if_neg (by rcases h.2 with e | e | e <;> rw [e] <;> decide), if_neg (by rcases h.2 with e | e | e <;> rw [e] <;> decide)]
    exact regD_no _
  · unfold partD fitK
    rw [h.1, h.2, if_pos rfl, if_neg (by decide), if_neg (by decide)]
    exact numD_no _ _ _ _ hlb
  · unfold partD fitK
    rw [h.1, h.2, if_neg (by decide), if_pos rfl, if_neg (by decide), if_pos rfl]
    exact numD_no _ _ _ _ hlb

/-- The document's error of a part is the program's. -/
theorem one_chk (n : Nat) (e : Int) (lb : List (List UInt8 × Int)) (ga : Bool) (hlb : ∀ p ∈ lb, 0 ≤ p.2) : ∀ (ts : List Tok) (k : Nat) (last : Tok) (w lost : Int), k ≤ (rowPt n).length → e = endOf (last :: ts) →
    (∀ l c, chkGo (rowPt n) k last ts = some (l, c) → oneGo e lb ga ((fmPt n).drop k) (tm ts) w lost = (0, 4, c) ∧ (l = last.bl ∨ ∃ t ∈ ts, l = t.fl ∨ l = t.bl)) := by
  intro ts
  induction ts with
  | nil =>
    intro k last w lost hk he l c h
    unfold chkGo at h
    split at h
    · rename_i hlt
      cases h
      have hd : (fmPt n).drop k = (fmPt n)[k]'(by rw [← lens]; exact hlt) :: (fmPt n).drop (k + 1) := List.drop_eq_getElem_cons _
      rw [hd]
      refine ⟨?_, .inl rfl⟩
      show (0, 4, e) = _
      rw [he]
      rfl
    · cases h
  | cons t ts ih =>
    intro k last w lost hk he l c h
    unfold chkGo at h
    split at h
    · rename_i hge
      cases h
      have hd : (fmPt n).drop k = [] := List.drop_of_length_le (by rw [← lens]; exact hge)
      rw [hd]
      exact ⟨rfl, .inr ⟨t, List.mem_cons_self, .inl rfl⟩⟩
    · rename_i hlt
      have hlt' : k < (rowPt n).length := by omega
      have hd : (fmPt n).drop k = (fmPt n).getD k 0 :: (fmPt n).drop (k + 1) := by
        rw [List.getD_eq_getElem?_getD, List.getElem?_eq_getElem (by rw [← lens]; exact hlt')]
        exact List.drop_eq_getElem_cons _
      split at h
      · rename_i hf
        cases h
        rw [hd]
        refine ⟨?_, .inr ⟨t, List.mem_cons_self, .inl rfl⟩⟩
        show oneGo e lb ga (_ :: _) ((t.text, t.fc) :: tm ts) w lost = _
        rw [oneGo, if_pos ((part_no n k hlt' lb ga t.text hlb).2 hf)]
      · rename_i hf
        have hne : partD ((fmPt n).getD k 0) lb ga t.text ≠ -1 := fun e2 => hf ((part_no n k hlt' lb ga t.text hlb).1 e2)
        rw [hd]
        show oneGo e lb ga (_ :: _) ((t.text, t.fc) :: tm ts) w lost = _ ∧ _
        rw [oneGo, if_neg hne]
        have he' : e = endOf (t :: ts) := by
          rw [he]
          unfold endOf
          rw [List.getLast?_cons_cons]
        obtain ⟨r1, r2⟩ := ih (k + 1) t _ _ (by omega) he' l c h
        refine ⟨r1, .inr ?_⟩
        rcases r2 with r2 | ⟨u, hu, r2⟩
        · exact ⟨t, List.mem_cons_self, .inr r2⟩
        · exact ⟨u, List.mem_cons_of_mem _ hu, r2⟩

theorem part_reg (c : UInt8) (hc : c = 97 ∨ c = 98 ∨ c = 99) (lb : List (List UInt8 × Int)) (ga : Bool) (t : ByteArray) (h : regB t.data.toList = true) : partD c lb ga t = regV t.data.toList ∧ ¬ regV t.data.toList = -1 ∧ ¬ regV t.data.toList = -2 := by
  obtain ⟨a, b, _, q1, q2, q3⟩ := regB_val h
  refine ⟨?_, by omega, by omega⟩
  unfold partD regD
  rw [if_neg (by rcases hc with e | e | e <;> rw [e] <;> decide), if_neg (by rcases hc with e | e | e <;> rw [e] <;> decide), if_pos h]
/-- What a number or a label gives. -/
theorem part_num (most : Int) (lb : List (List UInt8 × Int)) (t : ByteArray) (h : fitB most t = true) :
    (numOK t.data.toList = true ∧ 0 ≤ valD t.data.toList ∧ ∀ ga, numD most lb ga t = valD t.data.toList) ∨
    (numOK t.data.toList = false ∧ numD most lb true t = 0 ∧ numD most lb false t = (lb.lookup t.data.toList).getD (-2)) := by
  unfold fitB at h
  cases hn : numOK t.data.toList with
  | true =>
    have hnm := digit_head t hn
    rw [hn, hnm, Bool.true_and, Bool.or_false] at h
    refine .inl ⟨rfl, valD_pos hn, fun ga => ?_⟩
    unfold numD digOK
    rw [hn, h]
    rfl
  | false =>
    rw [hn, Bool.false_and, Bool.false_or] at h
    refine .inr ⟨rfl, ?_, ?_⟩
    · unfold numD digOK
      rw [hn, h]
      rfl
    · unfold numD digOK
      rw [hn, h]
      rfl

/-- What the document's 'one' makes of parts that are right. -/
def OneLay (n nw : Nat) (parts : List Tok) (U : List (Nat × Tok)) (e : Int) (lb : List (List UInt8 × Int)) : Prop :=
  ((layGo n nw 0 parts (ls0 U)).u = U ∧ ∀ ga, oneGo e lb ga (fmPt n) (tm parts) (w0D n) 0 = (wordOf n (layGo n nw 0 parts (ls0 U)), 0, 0)) ∨
  (∃ t ∈ parts, (layGo n nw 0 parts (ls0 U)).u = U ++ [(nw, t)] ∧ oneGo e lb true (fmPt n) (tm parts) (w0D n) 0 = (wordOf n (layGo n nw 0 parts (ls0 U)), 0, 0) ∧
    (∀ v, lb.lookup t.text.data.toList = some v → oneGo e lb false (fmPt n) (tm parts) (w0D n) 0 = (wordOf n (layGo n nw 0 parts (ls0 U)) + v, 0, 0)) ∧
    (lb.lookup t.text.data.toList = none → 0 < t.fc → oneGo e lb false (fmPt n) (tm parts) (w0D n) 0 = (0, 7, t.fc)))
theorem lay_0 (n nw : Nat) (hf : fmPt n = []) (ho : rowOp n = fmOp n) (hn : n ≠ 11) (ho1 : ¬ fmOp n = -1)  (U : List (Nat × Tok)) (e : Int) (lb : List (List UInt8 × Int)) : OneLay n nw [] U e lb := by
  refine .inl ⟨?_, fun ga => ?_⟩
  · simp [layGo, ls0]
  · skip
    simp [hf, tm, oneGo, wordOf, layGo, ls0, w0D, hn, ho, ho1]
theorem lay_r (n nw : Nat) (hr : rowPt n = [114]) (hf : fmPt n = [97]) (ho : rowOp n = fmOp n) (hn : n ≠ 11) (ho1 : ¬ fmOp n = -1) (t1 : Tok) (f1 : regB t1.text.data.toList = true) (U : List (Nat × Tok)) (e : Int) (lb : List (List UInt8 × Int)) : OneLay n nw [t1] U e lb := by
  refine .inl ⟨?_, fun ga => ?_⟩
  · simp [layGo, layP, hr, ls0]
  · obtain ⟨a1, b1, c1⟩ := part_reg 97 (by decide) lb ga t1.text f1
    have u1 : unitD 97 = 1048576 := rfl
    simp [hf, tm, oneGo, a1, b1, c1, u1, wordOf, layGo, layP, hr, ls0, w0D, hn, ho, ho1]
theorem lay_rrr (n nw : Nat) (hr : rowPt n = [114, 114, 114]) (hf : fmPt n = [97, 98, 99]) (ho : rowOp n = fmOp n) (hn : n ≠ 11) (ho1 : ¬ fmOp n = -1) (t1 t2 t3 : Tok) (f1 : regB t1.text.data.toList = true) (f2 : regB t2.text.data.toList = true) (f3 : regB t3.text.data.toList = true) (U : List (Nat × Tok)) (e : Int) (lb : List (List UInt8 × Int)) : OneLay n nw [t1, t2, t3] U e lb := by
  refine .inl ⟨?_, fun ga => ?_⟩
  · simp [layGo, layP, hr, ls0]
  · obtain ⟨a1, b1, c1⟩ := part_reg 97 (by decide) lb ga t1.text f1
    have u1 : unitD 97 = 1048576 := rfl
    obtain ⟨a2, b2, c2⟩ := part_reg 98 (by decide) lb ga t2.text f2
    have u2 : unitD 98 = 65536 := rfl
    obtain ⟨a3, b3, c3⟩ := part_reg 99 (by decide) lb ga t3.text f3
    have u3 : unitD 99 = 4096 := rfl
    simp [hf, tm, oneGo, a1, b1, c1, u1, a2, b2, c2, u2, a3, b3, c3, u3, wordOf, layGo, layP, hr, ls0, w0D, hn, ho, ho1]
theorem lay_n (n nw : Nat) (hr : rowPt n = [110]) (hf : fmPt n = [110]) (ho : rowOp n = fmOp n) (hn : n ≠ 11) (ho1 : ¬ fmOp n = -1) (t : Tok)  (f : fitB 4095 t.text = true) (U : List (Nat × Tok)) (e : Int) (lb : List (List UInt8 × Int)) (hlb : ∀ p ∈ lb, 0 ≤ p.2) : OneLay n nw [t] U e lb := by
  rcases part_num 4095 lb t.text f with ⟨k1, k2, k3⟩ | ⟨k1, k2, k3⟩
  · refine .inl ⟨?_, fun ga => ?_⟩
    · simp [layGo, layP, hr, ls0, k1]
    · have pn : ∀ ga, partD 110 lb ga t.text = numD 4095 lb ga t.text := fun _ => rfl
      have un : unitD 110 = 1 := rfl

      have k4 : ¬ valD t.text.data.toList = -1 := by omega
      have k5 : ¬ valD t.text.data.toList = -2 := by omega
      simp [hf, tm, oneGo, pn, un, k3, k4, k5, k1, wordOf, layGo, layP, hr, ls0, w0D, hn, ho, ho1]
  · refine .inr ⟨t, by simp, ?_, ?_, fun v hv => ?_, fun hv hc => ?_⟩
    · simp [layGo, layP, hr, ls0, k1]
    · have pn : ∀ ga, partD 110 lb ga t.text = numD 4095 lb ga t.text := fun _ => rfl
      have un : unitD 110 = 1 := rfl

      simp [hf, tm, oneGo, pn, un, k2, k1, wordOf, layGo, layP, hr, ls0, w0D, hn, ho, ho1]
    · have pn : ∀ ga, partD 110 lb ga t.text = numD 4095 lb ga t.text := fun _ => rfl
      have un : unitD 110 = 1 := rfl

      have hv0 := hlb _ (lookup_in hv)
      simp only at hv0
      have k4 : ¬ v = -1 := by omega
      have k5 : ¬ v = -2 := by omega
      simp [hf, tm, oneGo, pn, un, k3, hv, k4, k5, k1, wordOf, layGo, layP, hr, ls0, w0D, hn, ho, ho1]
    · have pn : ∀ ga, partD 110 lb ga t.text = numD 4095 lb ga t.text := fun _ => rfl
      have un : unitD 110 = 1 := rfl

      simp [hf, tm, oneGo, pn, k3, hv, hc]
theorem lay_rn (n nw : Nat) (hr : rowPt n = [114, 110]) (hf : fmPt n = [97, 110]) (ho : rowOp n = fmOp n) (hn : n ≠ 11) (ho1 : ¬ fmOp n = -1) (t1 t : Tok) (f1 : regB t1.text.data.toList = true) (f : fitB 4095 t.text = true) (U : List (Nat × Tok)) (e : Int) (lb : List (List UInt8 × Int)) (hlb : ∀ p ∈ lb, 0 ≤ p.2) : OneLay n nw [t1, t] U e lb := by
  rcases part_num 4095 lb t.text f with ⟨k1, k2, k3⟩ | ⟨k1, k2, k3⟩
  · refine .inl ⟨?_, fun ga => ?_⟩
    · simp [layGo, layP, hr, ls0, k1]
    · have pn : ∀ ga, partD 110 lb ga t.text = numD 4095 lb ga t.text := fun _ => rfl
      have un : unitD 110 = 1 := rfl
      obtain ⟨a1, b1, c1⟩ := part_reg 97 (by decide) lb ga t1.text f1
      have u1 : unitD 97 = 1048576 := rfl
      have k4 : ¬ valD t.text.data.toList = -1 := by omega
      have k5 : ¬ valD t.text.data.toList = -2 := by omega
      simp [hf, tm, oneGo, a1, b1, c1, u1, pn, un, k3, k4, k5, k1, wordOf, layGo, layP, hr, ls0, w0D, hn, ho, ho1]
  · refine .inr ⟨t, by simp, ?_, ?_, fun v hv => ?_, fun hv hc => ?_⟩
    · simp [layGo, layP, hr, ls0, k1]
    · have pn : ∀ ga, partD 110 lb ga t.text = numD 4095 lb ga t.text := fun _ => rfl
      have un : unitD 110 = 1 := rfl
      obtain ⟨a1, b1, c1⟩ := part_reg 97 (by decide) lb true t1.text f1
      have u1 : unitD 97 = 1048576 := rfl
      simp [hf, tm, oneGo, a1, b1, c1, u1, pn, un, k2, k1, wordOf, layGo, layP, hr, ls0, w0D, hn, ho, ho1]
    · have pn : ∀ ga, partD 110 lb ga t.text = numD 4095 lb ga t.text := fun _ => rfl
      have un : unitD 110 = 1 := rfl
      obtain ⟨a1, b1, c1⟩ := part_reg 97 (by decide) lb false t1.text f1
      have u1 : unitD 97 = 1048576 := rfl
      have hv0 := hlb _ (lookup_in hv)
      simp only at hv0
      have k4 : ¬ v = -1 := by omega
      have k5 : ¬ v = -2 := by omega
      simp [hf, tm, oneGo, a1, b1, c1, u1, pn, un, k3, hv, k4, k5, k1, wordOf, layGo, layP, hr, ls0, w0D, hn, ho, ho1]
    · have pn : ∀ ga, partD 110 lb ga t.text = numD 4095 lb ga t.text := fun _ => rfl
      have un : unitD 110 = 1 := rfl
      obtain ⟨a1, b1, c1⟩ := part_reg 97 (by decide) lb false t1.text f1
      have u1 : unitD 97 = 1048576 := rfl
      simp [hf, tm, oneGo, a1, b1, c1, pn, k3, hv, hc]
theorem lay_rrn (n nw : Nat) (hr : rowPt n = [114, 114, 110]) (hf : fmPt n = [97, 98, 110]) (ho : rowOp n = fmOp n) (hn : n ≠ 11) (ho1 : ¬ fmOp n = -1) (t1 t2 t : Tok) (f1 : regB t1.text.data.toList = true) (f2 : regB t2.text.data.toList = true) (f : fitB 4095 t.text = true) (U : List (Nat × Tok)) (e : Int) (lb : List (List UInt8 × Int)) (hlb : ∀ p ∈ lb, 0 ≤ p.2) : OneLay n nw [t1, t2, t] U e lb := by
  rcases part_num 4095 lb t.text f with ⟨k1, k2, k3⟩ | ⟨k1, k2, k3⟩
  · refine .inl ⟨?_, fun ga => ?_⟩
    · simp [layGo, layP, hr, ls0, k1]
    · have pn : ∀ ga, partD 110 lb ga t.text = numD 4095 lb ga t.text := fun _ => rfl
      have un : unitD 110 = 1 := rfl
      obtain ⟨a1, b1, c1⟩ := part_reg 97 (by decide) lb ga t1.text f1
      have u1 : unitD 97 = 1048576 := rfl
      obtain ⟨a2, b2, c2⟩ := part_reg 98 (by decide) lb ga t2.text f2
      have u2 : unitD 98 = 65536 := rfl
      have k4 : ¬ valD t.text.data.toList = -1 := by omega
      have k5 : ¬ valD t.text.data.toList = -2 := by omega
      simp [hf, tm, oneGo, a1, b1, c1, u1, a2, b2, c2, u2, pn, un, k3, k4, k5, k1, wordOf, layGo, layP, hr, ls0, w0D, hn, ho, ho1]
  · refine .inr ⟨t, by simp, ?_, ?_, fun v hv => ?_, fun hv hc => ?_⟩
    · simp [layGo, layP, hr, ls0, k1]
    · have pn : ∀ ga, partD 110 lb ga t.text = numD 4095 lb ga t.text := fun _ => rfl
      have un : unitD 110 = 1 := rfl
      obtain ⟨a1, b1, c1⟩ := part_reg 97 (by decide) lb true t1.text f1
      have u1 : unitD 97 = 1048576 := rfl
      obtain ⟨a2, b2, c2⟩ := part_reg 98 (by decide) lb true t2.text f2
      have u2 : unitD 98 = 65536 := rfl
      simp [hf, tm, oneGo, a1, b1, c1, u1, a2, b2, c2, u2, pn, un, k2, k1, wordOf, layGo, layP, hr, ls0, w0D, hn, ho, ho1]
    · have pn : ∀ ga, partD 110 lb ga t.text = numD 4095 lb ga t.text := fun _ => rfl
      have un : unitD 110 = 1 := rfl
      obtain ⟨a1, b1, c1⟩ := part_reg 97 (by decide) lb false t1.text f1
      have u1 : unitD 97 = 1048576 := rfl
      obtain ⟨a2, b2, c2⟩ := part_reg 98 (by decide) lb false t2.text f2
      have u2 : unitD 98 = 65536 := rfl
      have hv0 := hlb _ (lookup_in hv)
      simp only at hv0
      have k4 : ¬ v = -1 := by omega
      have k5 : ¬ v = -2 := by omega
      simp [hf, tm, oneGo, a1, b1, c1, u1, a2, b2, c2, u2, pn, un, k3, hv, k4, k5, k1, wordOf, layGo, layP, hr, ls0, w0D, hn, ho, ho1]
    · have pn : ∀ ga, partD 110 lb ga t.text = numD 4095 lb ga t.text := fun _ => rfl
      have un : unitD 110 = 1 := rfl
      obtain ⟨a1, b1, c1⟩ := part_reg 97 (by decide) lb false t1.text f1
      have u1 : unitD 97 = 1048576 := rfl
      obtain ⟨a2, b2, c2⟩ := part_reg 98 (by decide) lb false t2.text f2
      have u2 : unitD 98 = 65536 := rfl
      simp [hf, tm, oneGo, a1, b1, c1, a2, b2, c2, pn, k3, hv, hc]
theorem lay_v (n nw : Nat) (hr : rowPt n = [118]) (hf : fmPt n = [118]) (ho : rowOp n = -1) (hw0 : w0D n = 0) (t : Tok)  (f : fitB 4294967295 t.text = true) (U : List (Nat × Tok)) (e : Int) (lb : List (List UInt8 × Int)) (hlb : ∀ p ∈ lb, 0 ≤ p.2) : OneLay n nw [t] U e lb := by
  rcases part_num 4294967295 lb t.text f with ⟨k1, k2, k3⟩ | ⟨k1, k2, k3⟩
  · refine .inl ⟨?_, fun ga => ?_⟩
    · simp [layGo, layP, hr, ls0, k1]
    · have pn : ∀ ga, partD 118 lb ga t.text = numD 4294967295 lb ga t.text := fun _ => rfl
      have un : unitD 118 = 1 := rfl

      have k4 : ¬ valD t.text.data.toList = -1 := by omega
      have k5 : ¬ valD t.text.data.toList = -2 := by omega
      simp [hf, tm, oneGo, pn, un, k3, k4, k5, k1, wordOf, layGo, layP, hr, ls0, hw0, ho]
  · refine .inr ⟨t, by simp, ?_, ?_, fun v hv => ?_, fun hv hc => ?_⟩
    · simp [layGo, layP, hr, ls0, k1]
    · have pn : ∀ ga, partD 118 lb ga t.text = numD 4294967295 lb ga t.text := fun _ => rfl
      have un : unitD 118 = 1 := rfl

      simp [hf, tm, oneGo, pn, un, k2, k1, wordOf, layGo, layP, hr, ls0, hw0, ho]
    · have pn : ∀ ga, partD 118 lb ga t.text = numD 4294967295 lb ga t.text := fun _ => rfl
      have un : unitD 118 = 1 := rfl

      have hv0 := hlb _ (lookup_in hv)
      simp only at hv0
      have k4 : ¬ v = -1 := by omega
      have k5 : ¬ v = -2 := by omega
      simp [hf, tm, oneGo, pn, un, k3, hv, k4, k5, k1, wordOf, layGo, layP, hr, ls0, hw0, ho]
    · have pn : ∀ ga, partD 118 lb ga t.text = numD 4294967295 lb ga t.text := fun _ => rfl
      have un : unitD 118 = 1 := rfl

      simp [hf, tm, oneGo, pn, k3, hv, hc]

theorem one_lay (n nw : Nat) (hn : n < 12) (parts : List Tok) (hlen : parts.length = (rowPt n).length) (hfit : ∀ j t, parts[j]? = some t → fitK ((rowPt n).getD j 0) t.text = true) (U : List (Nat × Tok)) (e : Int) (lb : List (List UInt8 × Int)) (hlb : ∀ p ∈ lb, 0 ≤ p.2) : OneLay n nw parts U e lb := by
  match n, hn with
  | 0, _ =>
    match parts, hlen with
    | [], _ => exact lay_0 0 nw rfl rfl (by decide) (by decide) U e lb
  | 1, _ =>
    match parts, hlen with
    | [t1, t2], _ => exact lay_rn 1 nw rfl rfl rfl (by decide) (by decide) t1 t2 (hfit 0 t1 rfl) (hfit 1 t2 rfl) U e lb hlb
  | 2, _ =>
    match parts, hlen with
    | [t1, t2, t3], _ => exact lay_rrr 2 nw rfl rfl rfl (by decide) (by decide) t1 t2 t3 (hfit 0 t1 rfl) (hfit 1 t2 rfl) (hfit 2 t3 rfl) U e lb
  | 3, _ =>
    match parts, hlen with
    | [t1, t2, t3], _ => exact lay_rrr 3 nw rfl rfl rfl (by decide) (by decide) t1 t2 t3 (hfit 0 t1 rfl) (hfit 1 t2 rfl) (hfit 2 t3 rfl) U e lb
  | 4, _ =>
    match parts, hlen with
    | [t1, t2, t3], _ => exact lay_rrr 4 nw rfl rfl rfl (by decide) (by decide) t1 t2 t3 (hfit 0 t1 rfl) (hfit 1 t2 rfl) (hfit 2 t3 rfl) U e lb
  | 5, _ =>
    match parts, hlen with
    | [t1, t2, t3], _ => exact lay_rrr 5 nw rfl rfl rfl (by decide) (by decide) t1 t2 t3 (hfit 0 t1 rfl) (hfit 1 t2 rfl) (hfit 2 t3 rfl) U e lb
  | 6, _ =>
    match parts, hlen with
    | [t1, t2, t3], _ => exact lay_rrn 6 nw rfl rfl rfl (by decide) (by decide) t1 t2 t3 (hfit 0 t1 rfl) (hfit 1 t2 rfl) (hfit 2 t3 rfl) U e lb hlb
  | 7, _ =>
    match parts, hlen with
    | [t1, t2, t3], _ => exact lay_rrn 7 nw rfl rfl rfl (by decide) (by decide) t1 t2 t3 (hfit 0 t1 rfl) (hfit 1 t2 rfl) (hfit 2 t3 rfl) U e lb hlb
  | 8, _ =>
    match parts, hlen with
    | [t1, t2, t3], _ => exact lay_rrn 8 nw rfl rfl rfl (by decide) (by decide) t1 t2 t3 (hfit 0 t1 rfl) (hfit 1 t2 rfl) (hfit 2 t3 rfl) U e lb hlb
  | 9, _ =>
    match parts, hlen with
    | [t1], _ => exact lay_n 9 nw rfl rfl rfl (by decide) (by decide) t1 (hfit 0 t1 rfl) U e lb hlb
  | 10, _ =>
    match parts, hlen with
    | [t1], _ => exact lay_r 10 nw rfl rfl rfl (by decide) (by decide) t1 (hfit 0 t1 rfl) U e lb
  | 11, _ =>
    match parts, hlen with
    | [t1], _ => exact lay_v 11 nw rfl rfl rfl rfl t1 (hfit 0 t1 rfl) U e lb hlb
end Go.Proofs.YtmmflekajbeamaaDoor
