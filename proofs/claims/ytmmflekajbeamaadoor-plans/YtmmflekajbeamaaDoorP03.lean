/-
  The small functions of the assembler: registers, numbers, names, and the table of instructions looked through by name.
-/
import Derived.Test.YtmmflekajbeamaaDoorP02
import Derived.Lib.RuneCount
namespace Go.Proofs.YtmmflekajbeamaaDoor
open Go.RowKit

theorem ret2 {a b c d : Value} (h : a = c) (k : b = d) : Ending.returned (.tuple #[a, b]) = .returned (.tuple #[c, d]) := by rw [h, k]

set_option maxHeartbeats 400000 in
theorem isDigit_any (r : Int) (w : World) :
    Calls Tryd.prog 174 #[.int .i32 r] w fun e' w' => e' = .returned (.bool (decide (48 ≤ r ∧ r ≤ 57))) ∧ w' = w := by
  by_cases h : 48 ≤ r
  · go_enter Tryd.func174, Tryd.ntmps174
    go_wp2
    all_goals
      go_ret
      refine ⟨ret_bool ?_, rfl⟩
      simp [h]
  · have hd : decide (48 ≤ r) = false := by simpa using h
    go_enter Tryd.func174, Tryd.ntmps174
    go_wp2
    all_goals
      go_ret
      refine ⟨ret_bool ?_, rfl⟩
      simp
      try omega

def letB (r : Int) : Bool := decide ((97 ≤ r ∧ r ≤ 122) ∨ (65 ≤ r ∧ r ≤ 90) ∨ r = 95 ∨ 128 ≤ r)
set_option maxHeartbeats 400000 in
theorem isLetter_any (r : Int) (w : World) :
    Calls Tryd.prog 173 #[.int .i32 r] w fun e' w' => e' = .returned (.bool (letB r)) ∧ w' = w := by
  go_enter Tryd.func173, Tryd.ntmps173
  go_wp2
  all_goals
    go_ret
    refine ⟨ret_bool ?_, rfl⟩
    go_light
    unfold letB
    first | (symm; rw [decide_eq_true_eq]; omega) | (symm; rw [decide_eq_false_iff_not]; omega) | (rw [decide_eq_decide]; omega) | (rw [Bool.eq_iff_iff]; simp; omega)

/-! ### registers -/
def digC (b : UInt8) : Bool := decide (48 ≤ b.toNat ∧ b.toNat ≤ 57)
def regB (l : List UInt8) : Bool := match l with | [a, b] => decide (a.toNat = 114 ∧ 48 ≤ b.toNat ∧ b.toNat ≤ 55) | _ => false
theorem bytes2 (s : ByteArray) (h : s.size = 2) : ∃ a b, s = ⟨#[a, b]⟩ := by
  obtain ⟨⟨l⟩⟩ := s
  match l, h with
  | [a, b], _ => exact ⟨a, b, rfl⟩
theorem ba0 (a b : UInt8) (h : 0 < (⟨#[a, b]⟩ : ByteArray).size) : (⟨#[a, b]⟩ : ByteArray)[0]'h = a := rfl
theorem ba1 (a b : UInt8) (h : 1 < (⟨#[a, b]⟩ : ByteArray).size) : (⟨#[a, b]⟩ : ByteArray)[1]'h = b := rfl
theorem u8_bd (a : UInt8) : (0 : Int) ≤ (a.toNat : Int) ∧ (a.toNat : Int) ≤ 255 := by have := a.toNat_lt; omega
set_option maxHeartbeats 400000 in
theorem isReg_any (s : ByteArray) (w : World) (hs : s.size ≤ maxLen) :
    Calls Tryd.prog 182 #[.string s] w fun e' w' => e' = .returned (.bool (regB s.data.toList)) ∧ w' = w := by
  unfold maxLen at hs
  by_cases h2 : s.size = 2
  · obtain ⟨a, b, rfl⟩ := bytes2 s h2
    clear hs h2
    obtain ⟨a0, a1⟩ := u8_bd a
    obtain ⟨b0, b1⟩ := u8_bd b
    have g0 := ba0 a b
    have g1 := ba1 a b
    go_enter Tryd.func182, Tryd.ntmps182
    go_wp2
    all_goals
      go_ret
      refine ⟨ret_bool ?_, rfl⟩
      go_light
      simp only [regB]
      first | (symm; rw [decide_eq_true_eq]; omega) | (symm; rw [decide_eq_false_iff_not]; omega) | (rw [decide_eq_decide]; omega) | (rw [Bool.eq_iff_iff]; simp; omega)
  · have hn : ((s.size : Int) == 2) = false := by simp; omega
    have HR : Hid (regB s.data.toList = false) := by
      obtain ⟨⟨l⟩⟩ := s
      match l, h2 with
      | [], _ => rfl
      | [_], _ => rfl
      | [_, _], h => exact absurd rfl h
      | _ :: _ :: _ :: _, _ => rfl
    go_enter Tryd.func182, Tryd.ntmps182
    go_wp2
    go_ret
    exact ⟨ret_bool HR.out.symm, rfl⟩
set_option maxHeartbeats 400000 in
theorem register_any (a b : UInt8) (w : World) (h0 : 48 ≤ b.toNat) :
    Calls Tryd.prog 184 #[.string ⟨#[a, b]⟩] w fun e' w' => e' = .returned (.int .i64 ((b.toNat : Int) - 48)) ∧ w' = w := by
  obtain ⟨b0, b1⟩ := u8_bd b
  have h0' : (48 : Int) ≤ (b.toNat : Int) := by omega
  have g1 := ba1 a b
  have HQ : Hid (((b.toNat : Int) - 48) % 256 = (b.toNat : Int) - 48) := by rw [Hid]; omega
  go_enter Tryd.func184, Tryd.ntmps184
  go_wp2
  go_ret
  exact ⟨ret_int (by first | exact HQ.out | rfl), rfl⟩

/-! ### numbers -/
def valD (l : List UInt8) : Int := l.foldl (fun n b => n * 10 + ((b.toNat : Int) - 48)) 0
theorem valD_snoc (l : List UInt8) (b : UInt8) : valD (l ++ [b]) = valD l * 10 + ((b.toNat : Int) - 48) := by simp [valD]
theorem valD_acc : ∀ (l : List UInt8) (acc : Int), 0 ≤ acc → (∀ b ∈ l, digC b = true) →
    0 ≤ l.foldl (fun n b => n * 10 + ((b.toNat : Int) - 48)) acc ∧ l.foldl (fun n b => n * 10 + ((b.toNat : Int) - 48)) acc < (acc + 1) * ((10 ^ l.length : Nat) : Int)
  | [], acc, h, _ => by simp; omega
  | b :: l, acc, h, hl => by
    have hb := hl b (by simp)
    simp [digC] at hb
    have ih := valD_acc l (acc * 10 + ((b.toNat : Int) - 48)) (by omega) (fun x hx => hl x (by simp [hx]))
    rw [List.foldl_cons]
    refine ⟨ih.1, Int.lt_of_lt_of_le ih.2 ?_⟩
    rw [List.length_cons, Nat.pow_succ]
    have h1 : (acc * 10 + ((b.toNat : Int) - 48) + 1) * ((10 ^ l.length : Nat) : Int) ≤ ((acc + 1) * 10) * ((10 ^ l.length : Nat) : Int) := Int.mul_le_mul_of_nonneg_right (by omega) (Int.natCast_nonneg _)
    have h2 : ((acc + 1) * 10) * ((10 ^ l.length : Nat) : Int) = (acc + 1) * ((10 ^ l.length * 10 : Nat) : Int) := by
      rw [Int.natCast_mul, Int.mul_assoc, Int.mul_comm 10]; rfl
    omega
theorem valD_bd (l : List UInt8) (h : ∀ b ∈ l, digC b = true) (hl : l.length ≤ 10) : 0 ≤ valD l ∧ valD l < 10000000000 := by
  have := valD_acc l 0 (by omega) h
  have hp : 10 ^ l.length ≤ 10 ^ 10 := Nat.pow_le_pow_right (by decide) hl
  unfold valD
  omega
def numOK (l : List UInt8) : Bool := decide (1 ≤ l.length ∧ l.length ≤ 10) && l.all digC
theorem take_snoc (s : ByteArray) (k : Nat) (h : k < s.size) : s.data.toList.take (k + 1) = s.data.toList.take k ++ [s[k]] := by
  rw [List.take_succ_eq_append_getElem (by simpa using h)]; rfl
theorem ne_empty (s : ByteArray) (h0 : ¬ s.size = 0) : s.toList.isEmpty = false := by
  rw [ByteArray.toList_eq]
  obtain ⟨⟨l⟩⟩ := s
  match l, h0 with
  | [], h => exact absurd rfl h
  | _ :: _, _ => rfl
set_option maxRecDepth 100000 in
set_option maxHeartbeats 1000000 in
theorem number_yes (s : ByteArray) (w : World) (hok : numOK s.data.toList = true) (_hs : s.size ≤ maxLen) :
    Calls Tryd.prog 185 #[.string s] w fun e' w' => e' = .returned (.tuple #[.int .i64 (valD s.data.toList), .bool true]) ∧ Below w.heap.size w w' := by
  have hok' := hok
  simp only [numOK, Bool.and_eq_true, decide_eq_true_eq, List.all_eq_true] at hok'
  obtain ⟨⟨hl1, hl2⟩, hall⟩ := hok'
  have hsz : s.data.toList.length = s.size := rfl
  have h0 : ¬ s.size = 0 := by omega
  have h10' : ¬ (10 : Int) < (s.size : Int) := by omega
  have HA := hide hall
  clear hall hok
  have he : s.toList.isEmpty = false := ne_empty s h0
  have nx := @run_next_any Tryd.prog w s
  have ne := @run_next_end Tryd.prog w s
  have HB : Hid (∀ p, Below w.heap.size w (w.iter s p)) := fun p => (Below.refl _ _).alloc (Nat.le_refl _) _
  go_enter Tryd.func185, Tryd.ntmps185
  go_wp2
  go_loopw [4] (fun n wr => ∃ k : Nat, k ≤ s.size ∧ wr = w.iter s k ∧ n = .int .i64 (valD (s.data.toList.take k)) ∧ Hid (∀ b ∈ s.data.toList.take k, digC b = true)) (fun _ wr => s.size - wr.iterPos w.heap.size)
  case atStart => exact ⟨0, Nat.zero_le _, rfl, rfl, fun b hb => by simp at hb⟩
  case round =>
    obtain ⟨k, hk, rfl, rfl, HD⟩ := hrel
    by_cases hlt : k < s.size
    · have hdg : digC s[k] = true := HA.out _ (by rw [ByteArray.getElem_eq_getElem_data]; simp)
      have hdc := decode_ascii s k hlt (by simp [digC] at hdg; omega)
      have HV := hide (valD_snoc (s.data.toList.take k) s[k])
      rw [← take_snoc s k hlt] at HV
      have HD' : Hid (∀ b ∈ s.data.toList.take (k + 1), digC b = true) := fun b hb => by
        rw [take_snoc s k hlt, List.mem_append] at hb
        rcases hb with hb | hb
        · exact HD.out b hb
        · rw [List.mem_singleton.1 hb]; exact hdg
      obtain ⟨v0, v1⟩ := valD_bd (s.data.toList.take k) HD.out (by rw [List.length_take]; omega)
      have hdd : 48 ≤ s[k].toNat ∧ s[k].toNat ≤ 57 := by simpa [digC] using hdg
      obtain ⟨e0, e1⟩ := hdd
      have e0' : (48 : Int) ≤ (s[k].toNat : Int) := by omega
      have e1' : (s[k].toNat : Int) ≤ 57 := by omega
      have nxk := nx k
      rw [hdc] at nxk
      have HI := hide (isDigit_any (s[k].toNat : Int))
      have hd1 : decide ((48 : Int) ≤ (s[k].toNat : Int) ∧ (s[k].toNat : Int) ≤ 57) = true := by rw [decide_eq_true_eq]; omega
      rw [hd1] at HI
      clear hdc hdg nx hd1 e0 e1
      go_wp2_with (go_at_call 174; refine (unhide HI _).mono ?_; rintro e w' ⟨rfl, rfl⟩)
      go_roundw
      case rel => exact ⟨k + 1, by omega, rfl, by rw [HV.out], HD'⟩
      case measure => simp; omega
    · have hkn : k = s.size := by omega
      subst hkn
      go_wp2
      go_ret2
      have HTk : s.data.toList.take s.size = s.data.toList := List.take_of_length_le (Nat.le_refl _)
      exact ⟨ret2 (congrArg (Value.int .i64) (congrArg valD HTk)) rfl, HB.out _⟩

set_option maxRecDepth 100000 in
set_option maxHeartbeats 1000000 in
theorem number_no (s : ByteArray) (w : World) (hok : numOK s.data.toList = false) (hs : s.size ≤ maxLen) :
    Calls Tryd.prog 185 #[.string s] w fun e' w' => e' = .returned (.tuple #[.int .i64 0, .bool false]) ∧ Below w.heap.size w w' := by
  unfold maxLen at hs
  by_cases h0 : s.size = 0
  · obtain rfl : s = ⟨#[]⟩ := by
      obtain ⟨⟨l⟩⟩ := s
      match l, h0 with
      | [], _ => rfl
    clear hok
    go_enter Tryd.func185, Tryd.ntmps185
    go_wp2
    go_ret2
    exact ⟨rfl, Below.refl _ _⟩
  have he : s.toList.isEmpty = false := ne_empty s h0
  by_cases h10 : 10 < s.size
  · have h10' : (10 : Int) < (s.size : Int) := by omega
    clear hok
    go_enter Tryd.func185, Tryd.ntmps185
    go_wp2
    go_ret2
    exact ⟨rfl, Below.refl _ _⟩
  have h10' : ¬ (10 : Int) < (s.size : Int) := by omega
  have HO := hide hok
  clear hok
  have nx := @run_next_any Tryd.prog w s
  have ne := @run_next_end Tryd.prog w s
  have HB : Hid (∀ p, Below w.heap.size w (w.iter s p)) := fun p => (Below.refl _ _).alloc (Nat.le_refl _) _
  go_enter Tryd.func185, Tryd.ntmps185
  go_wp2
  go_loopw [4] (fun n wr => ∃ k : Nat, k ≤ s.size ∧ wr = w.iter s k ∧ n = .int .i64 (valD (s.data.toList.take k)) ∧ Hid (∀ b ∈ s.data.toList.take k, digC b = true)) (fun _ wr => s.size - wr.iterPos w.heap.size)
  case atStart => exact ⟨0, Nat.zero_le _, rfl, rfl, fun b hb => by simp at hb⟩
  case round =>
    obtain ⟨k, hk, rfl, rfl, HD⟩ := hrel
    by_cases hlt : k < s.size
    · by_cases hdg : digC s[k] = true
      · skip
        have hdc := decode_ascii s k hlt (by simp [digC] at hdg; omega)
        have HV := hide (valD_snoc (s.data.toList.take k) s[k])
        rw [← take_snoc s k hlt] at HV
        have HD' : Hid (∀ b ∈ s.data.toList.take (k + 1), digC b = true) := fun b hb => by
          rw [take_snoc s k hlt, List.mem_append] at hb
          rcases hb with hb | hb
          · exact HD.out b hb
          · rw [List.mem_singleton.1 hb]; exact hdg
        obtain ⟨v0, v1⟩ := valD_bd (s.data.toList.take k) HD.out (by rw [List.length_take]; omega)
        have hdd : 48 ≤ s[k].toNat ∧ s[k].toNat ≤ 57 := by simpa [digC] using hdg
        obtain ⟨e0, e1⟩ := hdd
        have e0' : (48 : Int) ≤ (s[k].toNat : Int) := by omega
        have e1' : (s[k].toNat : Int) ≤ 57 := by omega
        have nxk := nx k
        rw [hdc] at nxk
        have HI := hide (isDigit_any (s[k].toNat : Int))
        have hd1 : decide ((48 : Int) ≤ (s[k].toNat : Int) ∧ (s[k].toNat : Int) ≤ 57) = true := by rw [decide_eq_true_eq]; omega
        rw [hd1] at HI
        clear hdc hdg nx hd1 e0 e1
        go_wp2_with (go_at_call 174; refine (unhide HI _).mono ?_; rintro e w' ⟨rfl, rfl⟩)
        go_roundw
        case rel => exact ⟨k + 1, by omega, rfl, by rw [HV.out], HD'⟩
        case measure => simp; omega
      · have hnd : decide ((48 : Int) ≤ ((Utf8.decode s k).1 : Int) ∧ ((Utf8.decode s k).1 : Int) ≤ 57) = false := by
          by_cases h128 : s[k].toNat < 128
          · rw [decode_ascii s k hlt h128, decide_eq_false_iff_not]
            simp [digC] at hdg
            omega
          · have := (decode_high s k hlt (by omega)).1
            rw [decide_eq_false_iff_not]; omega
        have HI := hide (isDigit_any ((Utf8.decode s k).1 : Int))
        rw [hnd] at HI
        clear hnd hdg
        go_wp2_with (go_at_call 174; refine (unhide HI _).mono ?_; rintro e w' ⟨rfl, rfl⟩)
        go_ret2
        exact ⟨rfl, HB.out _⟩
    · exfalso
      have hkn : k = s.size := by omega
      subst hkn
      have h1 : s.data.toList.take s.size = s.data.toList := List.take_of_length_le (Nat.le_refl _)
      have h2 := HD.out
      rw [h1] at h2
      have h3 : numOK s.data.toList = true := by
        simp only [numOK, Bool.and_eq_true, decide_eq_true_eq, List.all_eq_true]
        have hsz : s.data.toList.length = s.size := rfl
        exact ⟨by omega, h2⟩
      rw [h3] at HO
      cases HO.out

/-! ### the table of instructions, by name -/
theorem rowNm_inj : ∀ i j : Nat, i < 12 → j < 12 → rowNm i = rowNm j → i = j := by
  have h : ∀ i j : Fin 12, rowNm i.val = rowNm j.val → i.val = j.val := by decide
  intro i j hi hj e
  exact h ⟨i, hi⟩ ⟨j, hj⟩ e
theorem toList_mk (l : List UInt8) : (⟨l.toArray⟩ : ByteArray).toList = l := by rw [ByteArray.toList_eq]

set_option maxRecDepth 100000 in
set_option maxHeartbeats 1000000 in
theorem byName_yes (n : Nat) (w : World) (h0 : n < 12) (ht : Tab w) :
    Calls Tryd.prog 176 #[.string ⟨(rowNm n).toArray⟩] w fun e' w' => e' = .returned (.tuple #[.agg (rowV n), .bool true]) ∧ Below w.heap.size w w' := by
  have hpos := ht.pos
  obtain ⟨tt, fr, hT⟩ := ht
  have HT : Hid (∀ o, (w.alloc o).heap[0]? = some (.cells tabA tt fr)) := fun o => by rw [Below.heap_alloc w o _ hpos]; exact hT
  clear hT
  go_enter Tryd.func176, Tryd.ntmps176
  go_wp2_with (refine wpList_load_row rfl 220 _ rfl 0 rfl tt _ fr _ (HT.out _) Tryd.underlying220 rfl (by kernel_rfl) ?_)
  go_loopw [7] (fun i wr => ∃ j : Nat, j ≤ n ∧ i = .int .i64 j ∧ Below (w.heap.size + 1) (w.alloc (.cells zeroRow 198)) wr) (fun i _ => n - (intOf i).toNat)
  case atStart => exact ⟨0, Nat.zero_le _, rfl, Below.refl _ _⟩
  case round =>
    obtain ⟨j, hj, rfl, hbw⟩ := hrel
    have hix := index_tab j (by omega)
    simp only [rowV] at hix
    have c0 : wr.cell? ⟨w.heap.size, 0, none⟩ = some (.string ⟨#[]⟩) := by rw [hbw.cell (p := ⟨w.heap.size, 0, none⟩) (by simp), World.cell?_alloc_at (hn := rfl)]; rfl
    have c1 : wr.cell? ⟨w.heap.size, 1, none⟩ = some (.int .i64 0) := by rw [hbw.cell (p := ⟨w.heap.size, 1, none⟩) (by simp), World.cell?_alloc_at (hn := rfl)]; rfl
    have c2 : wr.cell? ⟨w.heap.size, 2, none⟩ = some (.string ⟨#[]⟩) := by rw [hbw.cell (p := ⟨w.heap.size, 2, none⟩) (by simp), World.cell?_alloc_at (hn := rfl)]; rfl
    have fz : ∀ i, wr.frozen? ⟨w.heap.size, i, none⟩ = false := fun i => by rw [hbw.frozen (p := ⟨w.heap.size, i, none⟩) (by simp), World.frozen?_alloc_at (hn := rfl)]
    have hz : w.heap.size < wr.heap.size := by have := hbw.size; simp at this; omega
    have HB := hide hbw
    clear hbw
    have hlt : (j : Int) < 12 := by omega
    by_cases hjn : j = n
    · subst hjn
      have heq : ((⟨(rowNm j).toArray⟩ : ByteArray).toList == (⟨(rowNm j).toArray⟩ : ByteArray).toList) = true := by simp
      go_wp2
      refine bodyPost_ret (v := .tuple #[.agg #[.string ⟨(rowNm j).toArray⟩, .int .i64 (rowOp j), .string ⟨(rowPt j).toArray⟩], .bool true]) (by simp [results, Tryd.results176, go_sem, hz, c0, c1, c2]) rfl ⟨rfl, ?_⟩
      exact (((((((Below.refl _ _).alloc (Nat.le_refl _) _).trans (HB.out.mono (by omega))).setCell (Nat.le_refl _) _).setCell (Nat.le_refl _) _).setCell (Nat.le_refl _) _).alloc (by simp; omega) _)
    · have hne : (rowNm j == rowNm n) = false := beq_eq_false_iff_ne.2 (fun e => hjn (rowNm_inj j n (by omega) h0 e))
      have hne2 : ((⟨(rowNm j).toArray⟩ : ByteArray).toList == (⟨(rowNm n).toArray⟩ : ByteArray).toList) = false := by rw [toList_mk, toList_mk]; exact hne
      go_wp2
      go_roundw
      case rel => exact ⟨j + 1, by omega, by go_num, HB.out.alloc (by omega) _⟩
      case measure => simp [intOf]; omega

def instB (l : List UInt8) : Bool := (List.range 12).any fun j => rowNm j == l
theorem instB_no {l : List UInt8} (h : instB l = false) (j : Nat) (hj : j < 12) : (rowNm j == l) = false := by
  simp only [instB, List.any_eq_false, List.mem_range] at h
  simpa using h j hj
theorem instB_yes {l : List UInt8} (h : instB l = true) : ∃ j, j < 12 ∧ rowNm j = l := by
  simp only [instB, List.any_eq_true, List.mem_range] at h
  obtain ⟨j, hj, e⟩ := h
  exact ⟨j, hj, by simpa using e⟩

set_option maxRecDepth 100000 in
set_option maxHeartbeats 1000000 in
theorem byName_no (s : ByteArray) (w : World) (h0 : instB s.data.toList = false) (ht : Tab w) :
    Calls Tryd.prog 176 #[.string s] w fun e' w' => e' = .returned (.tuple #[.agg zeroRow, .bool false]) ∧ Below w.heap.size w w' := by
  have hpos := ht.pos
  obtain ⟨tt, fr, hT⟩ := ht
  have HT : Hid (∀ o, (w.alloc o).heap[0]? = some (.cells tabA tt fr)) := fun o => by rw [Below.heap_alloc w o _ hpos]; exact hT
  have HI := hide (fun j hj => instB_no h0 j hj)
  clear hT h0
  go_enter Tryd.func176, Tryd.ntmps176
  go_wp2_with (refine wpList_load_row rfl 220 _ rfl 0 rfl tt _ fr _ (HT.out _) Tryd.underlying220 rfl (by kernel_rfl) ?_)
  go_loopw [7] (fun i wr => ∃ j : Nat, j ≤ 12 ∧ i = .int .i64 j ∧ Below (w.heap.size + 1) (w.alloc (.cells zeroRow 198)) wr) (fun i _ => 12 - (intOf i).toNat)
  case atStart => exact ⟨0, Nat.zero_le _, rfl, Below.refl _ _⟩
  case round =>
    obtain ⟨j, hj, rfl, hbw⟩ := hrel
    have c0 : wr.cell? ⟨w.heap.size, 0, none⟩ = some (.string ⟨#[]⟩) := by rw [hbw.cell (p := ⟨w.heap.size, 0, none⟩) (by simp), World.cell?_alloc_at (hn := rfl)]; rfl
    have c1 : wr.cell? ⟨w.heap.size, 1, none⟩ = some (.int .i64 0) := by rw [hbw.cell (p := ⟨w.heap.size, 1, none⟩) (by simp), World.cell?_alloc_at (hn := rfl)]; rfl
    have c2 : wr.cell? ⟨w.heap.size, 2, none⟩ = some (.string ⟨#[]⟩) := by rw [hbw.cell (p := ⟨w.heap.size, 2, none⟩) (by simp), World.cell?_alloc_at (hn := rfl)]; rfl
    have fz : ∀ i, wr.frozen? ⟨w.heap.size, i, none⟩ = false := fun i => by rw [hbw.frozen (p := ⟨w.heap.size, i, none⟩) (by simp), World.frozen?_alloc_at (hn := rfl)]
    have hz : w.heap.size < wr.heap.size := by have := hbw.size; simp at this; omega
    have HB := hide hbw
    clear hbw
    by_cases hjn : j < 12
    · have hix := index_tab j hjn
      simp only [rowV] at hix
      have hlt : (j : Int) < 12 := by omega
      have hne2 : ((⟨(rowNm j).toArray⟩ : ByteArray).toList == s.toList) = false := by rw [toList_mk, ByteArray.toList_eq]; exact HI.out j hjn
      have hne3 : (rowNm j == s.toList) = false := by rw [ByteArray.toList_eq]; exact HI.out j hjn
      go_wp2
      go_roundw
      case rel => exact ⟨j + 1, by omega, by go_num, HB.out.alloc (by omega) _⟩
      case measure => simp [intOf]; omega
    · have hj12 : j = 12 := by omega
      subst hj12
      go_wp2
      refine bodyPost_ret (v := .tuple #[.agg #[.string ⟨#[]⟩, .int .i64 0, .string ⟨#[]⟩], .bool false]) (by simp [results, Tryd.results176, go_sem, c0, c1, c2]) rfl ⟨rfl, ?_⟩
      exact ((((((Below.refl _ _).alloc (Nat.le_refl _) _).trans (HB.out.mono (by omega))).setCell (Nat.le_refl _) _).setCell (Nat.le_refl _) _).setCell (Nat.le_refl _) _)

/-! ### names -/
def takB (l : List UInt8) : Bool := instB l || regB l
set_option maxRecDepth 100000 in
set_option maxHeartbeats 1000000 in
theorem isTaken_any (s : ByteArray) (w : World) (ht : Tab w) (hs : s.size ≤ maxLen) :
    Calls Tryd.prog 175 #[.string s] w fun e' w' => e' = .returned (.bool (takB s.data.toList)) ∧ Below w.heap.size w w' := by
  cases hi : instB s.data.toList
  · have HQ : Hid (takB s.data.toList = regB s.data.toList) := by simp [Hid, takB, hi]
    have HC := hide (byName_no s w hi ht)
    have HR := hide (fun w => isReg_any s w hs)
    clear hi ht hs
    generalize regB s.data.toList = rb at *
    go_enter Tryd.func175, Tryd.ntmps175
    go_wp2_with fail
    refine (unhide HC).mono ?_
    rintro e w1 ⟨rfl, hb⟩
    have HB := hide hb
    clear hb
    simp only [zeroRow]
    go_wp2_with fail
    refine (unhide HR _).mono ?_
    rintro e w' ⟨rfl, hw⟩
    obtain rfl := hw.symm
    go_wp2
    go_ret
    exact ⟨ret_bool HQ.out.symm, HB.out.alloc HB.out.size _⟩
  · obtain ⟨j, hj, e⟩ := instB_yes hi
    obtain rfl : s = ⟨(rowNm j).toArray⟩ := by obtain ⟨⟨l⟩⟩ := s; simp at e; rw [e]
    have HQ : Hid (takB (rowNm j) = true) := by simp [Hid, takB]; left; exact hi
    have HC := hide (byName_yes j w hj ht)
    clear hi ht hs e
    go_enter Tryd.func175, Tryd.ntmps175
    go_wp2_with fail
    refine (unhide HC).mono ?_
    rintro e w1 ⟨rfl, hb⟩
    have HB := hide hb
    clear hb
    simp only [rowV]
    go_wp2
    go_ret
    exact ⟨ret_bool HQ.out.symm, HB.out.alloc HB.out.size _⟩
end Go.Proofs.YtmmflekajbeamaaDoor
