/-
  The document's own answer: its small functions on a token's text: a number up to a bound (digits), a register.
-/
import Derived.Test.YtgggaepeeaelhaaDoorAsA
namespace Go.Proofs.YtgggaepeeaelhaaDoor
open Go.RowKit

def digOK (most : Int) (l : List UInt8) : Bool := numOK l && decide (valD l ≤ most)

set_option maxRecDepth 100000 in
set_option maxHeartbeats 1000000 in
/-- A number of digits alone: that number, if it is not above the bound. -/
theorem rdigits_num (s : ByteArray) (most : Int) (w : World) (hok : numOK s.data.toList = true) :
    Calls Tryd.prog 167 #[.string s, .int .i64 most] w fun e' w' => ((valD s.data.toList ≤ most ∧ e' = .returned (.int .i64 (valD s.data.toList))) ∨ (most < valD s.data.toList ∧ e' = .returned (.int .i64 (-1)))) ∧ w' = w := by
  have hok' := hok
  simp only [numOK, Bool.and_eq_true, decide_eq_true_eq, List.all_eq_true] at hok'
  obtain ⟨⟨hl1, hl2⟩, hall⟩ := hok'
  have hsz : s.data.toList.length = s.size := rfl
  rw [hsz] at hl1 hl2
  have h1' : ¬ (s.size : Int) < 1 := by omega
  have h10' : ¬ (10 : Int) < (s.size : Int) := by omega
  have HA := hide hall
  clear hall hok hsz
  go_enter Tryd.func167, Tryd.ntmps167
  go_wp2
  go_loop [5, 6] (fun n i => ∃ k : Nat, k ≤ s.size ∧ i = .int .i64 k ∧ n = .int .i64 (valD (s.data.toList.take k))) (fun _ i => s.size - (intOf i).toNat)
  case atStart => exact ⟨0, Nat.zero_le _, rfl, rfl⟩
  case round =>
    obtain ⟨k, hk, rfl, rfl⟩ := hrel
    obtain ⟨v0, v1⟩ := valD_bd (s.data.toList.take k) (fun b hb => HA.out b (List.mem_of_mem_take hb)) (by rw [List.length_take]; omega)
    by_cases hlt : k < s.size
    · have hdg : digC s[k] = true := HA.out _ (by rw [ByteArray.getElem_eq_getElem_data]; simp)
      have HV := hide (valD_snoc (s.data.toList.take k) s[k])
      rw [← take_snoc s k hlt] at HV
      have hdd : 48 ≤ s[k].toNat ∧ s[k].toNat ≤ 57 := by simpa [digC] using hdg
      have e0' : (48 : Int) ≤ (s[k].toNat : Int) := by omega
      have e1' : (s[k].toNat : Int) ≤ 57 := by omega
      clear hdg hdd
      go_wp2
      go_round
      case rel => exact ⟨k + 1, by omega, by go_num, by rw [HV.out]⟩
      case measure => simp [intOf]; omega
    · have hkn : k = s.size := by omega
      subst hkn
      have HTk : Hid (s.data.toList.take s.size = s.data.toList) := List.take_of_length_le (Nat.le_refl _)
      rw [HTk.out] at v0 v1 ⊢
      by_cases hm : valD s.data.toList ≤ most
      · have hm' : ¬ most < valD s.data.toList := by omega
        go_wp2
        go_ret
        exact ⟨.inl rfl, rfl⟩
      · have hm' : most < valD s.data.toList := by omega
        go_wp2
        go_ret
        exact ⟨.inr rfl, rfl⟩

set_option maxRecDepth 100000 in
set_option maxHeartbeats 1000000 in
theorem rdigits_no (s : ByteArray) (most : Int) (w : World) (hok : numOK s.data.toList = false) (hs : s.size ≤ maxLen) :
    Calls Tryd.prog 167 #[.string s, .int .i64 most] w fun e' w' => e' = .returned (.int .i64 (-1)) ∧ w' = w := by
  unfold maxLen at hs
  by_cases h0 : s.size = 0
  · have h0' : (s.size : Int) < 1 := by omega
    clear hok
    go_enter Tryd.func167, Tryd.ntmps167
    go_wp2
    go_ret
    exact ⟨rfl, rfl⟩
  have h1' : ¬ (s.size : Int) < 1 := by omega
  by_cases h10 : 10 < s.size
  · have h10' : (10 : Int) < (s.size : Int) := by omega
    clear hok
    go_enter Tryd.func167, Tryd.ntmps167
    go_wp2
    go_ret
    exact ⟨rfl, rfl⟩
  have h10' : ¬ (10 : Int) < (s.size : Int) := by omega
  have HO := hide hok
  clear hok
  go_enter Tryd.func167, Tryd.ntmps167
  go_wp2
  go_loop [5, 6] (fun n i => ∃ k : Nat, k ≤ s.size ∧ i = .int .i64 k ∧ n = .int .i64 (valD (s.data.toList.take k)) ∧ Hid (∀ b ∈ s.data.toList.take k, digC b = true)) (fun _ i => s.size - (intOf i).toNat)
  case atStart => exact ⟨0, Nat.zero_le _, rfl, rfl, fun b hb => by simp at hb⟩
  case round =>
    obtain ⟨k, hk, rfl, rfl, HD⟩ := hrel
    obtain ⟨v0, v1⟩ := valD_bd (s.data.toList.take k) HD.out (by rw [List.length_take]; omega)
    by_cases hlt : k < s.size
    · by_cases hdg : digC s[k] = true
      · have HV := hide (valD_snoc (s.data.toList.take k) s[k])
        rw [← take_snoc s k hlt] at HV
        have HD' : Hid (∀ b ∈ s.data.toList.take (k + 1), digC b = true) := fun b hb => by
          rw [take_snoc s k hlt, List.mem_append] at hb
          rcases hb with hb | hb
          · exact HD.out b hb
          · rw [List.mem_singleton.1 hb]; exact hdg
        have hdd : 48 ≤ s[k].toNat ∧ s[k].toNat ≤ 57 := by simpa [digC] using hdg
        have e0' : (48 : Int) ≤ (s[k].toNat : Int) := by omega
        have e1' : (s[k].toNat : Int) ≤ 57 := by omega
        clear hdg hdd
        go_wp2
        go_round
        case rel => exact ⟨k + 1, by omega, by go_num, by rw [HV.out], HD'⟩
        case measure => simp [intOf]; omega
      · have hnd : s[k].toNat < 48 ∨ 57 < s[k].toNat := by simp [digC] at hdg; omega
        clear hdg
        rcases hnd with hnd | hnd
        · have e0' : (s[k].toNat : Int) < 48 := by omega
          go_wp2
          go_ret
          exact ⟨rfl, rfl⟩
        · have e0' : ¬ (s[k].toNat : Int) < 48 := by omega
          have e1' : (57 : Int) < (s[k].toNat : Int) := by omega
          go_wp2
          go_ret
          exact ⟨rfl, rfl⟩
    · exfalso
      have hkn : k = s.size := by omega
      subst hkn
      have h1 : s.data.toList.take s.size = s.data.toList := List.take_of_length_le (Nat.le_refl _)
      have h2 := HD.out
      rw [h1] at h2
      have h3 : numOK s.data.toList = true := by
        simp only [numOK, Bool.and_eq_true, decide_eq_true_eq, List.all_eq_true]
        have hsz : s.data.toList.length = s.size := rfl
        exact ⟨by omega, h2⟩
      rw [h3] at HO
      cases HO.out
end Go.Proofs.YtgggaepeeaelhaaDoor
