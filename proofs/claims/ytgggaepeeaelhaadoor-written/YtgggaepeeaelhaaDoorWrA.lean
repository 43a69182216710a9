/-
  THE LAW Written: its small functions: pick, digits.
-/
import Derived.Test.YtgggaepeeaelhaaDoorAsA
namespace Go.Proofs.YtgggaepeeaelhaaDoor
open Go.RowKit

/-- A number's digits. -/
def decF : Nat → Nat → List UInt8
  | 0, _ => []
  | f + 1, n => if n < 10 then [UInt8.ofNat (48 + n)] else decF f (n / 10) ++ [UInt8.ofNat (48 + n % 10)]
def dec (n : Nat) : List UInt8 := decF 10 n
theorem dig_toNat (n : Nat) (h : n < 10) : (UInt8.ofNat (48 + n)).toNat = 48 + n := by
  rw [UInt8.toNat_ofNat']
  omega
theorem valD_snoc' (l : List UInt8) (b : UInt8) : valD (l ++ [b]) = valD l * 10 + ((b.toNat : Int) - 48) := by simp [valD]
theorem decF_ok : ∀ (f n : Nat), n < 10 ^ f → 1 ≤ f → valD (decF f n) = n ∧ 1 ≤ (decF f n).length ∧ (decF f n).length ≤ f ∧ (∀ b ∈ decF f n, digC b = true) := by
  intro f
  induction f with
  | zero => intro n _ h; omega
  | succ f ih =>
    intro n hn _
    unfold decF
    by_cases h : n < 10
    · rw [if_pos h]
      have := dig_toNat n h
      refine ⟨?_, by simp, by simp, fun b hb => ?_⟩
      · simp only [valD, List.foldl_cons, List.foldl_nil, this]; omega
      · rw [List.mem_singleton.1 hb]
        simp only [digC, this, decide_eq_true_eq]
        omega
    · rw [if_neg h]
      have hf : 1 ≤ f := by
        rcases Nat.eq_zero_or_pos f with h0 | h0
        · subst h0; simp at hn; omega
        · exact h0
      have hd : n / 10 < 10 ^ f := by
        rw [Nat.pow_succ] at hn
        omega
      obtain ⟨h1, h2, h3, h4⟩ := ih (n / 10) hd hf
      have := dig_toNat (n % 10) (by omega)
      refine ⟨?_, by simp, by simp; omega, fun b hb => ?_⟩
      · rw [valD_snoc', h1, this]
        omega
      · rcases List.mem_append.1 hb with hb | hb
        · exact h4 b hb
        · rw [List.mem_singleton.1 hb]
          simp only [digC, this, decide_eq_true_eq]
          omega
theorem dec_ok (n : Nat) (h : n < 10000000000) : valD (dec n) = n ∧ numOK (dec n) = true := by
  obtain ⟨h1, h2, h3, h4⟩ := decF_ok 10 n (by simpa using h) (by omega)
  refine ⟨h1, ?_⟩
  unfold dec
  simp only [numOK, Bool.and_eq_true, decide_eq_true_eq, List.all_eq_true]
  exact ⟨⟨h2, h3⟩, h4⟩
theorem decF_more : ∀ (f g n : Nat), n < 10 ^ f → 1 ≤ f → f ≤ g → decF g n = decF f n := by
  intro f
  induction f with
  | zero => intro g n _ h; omega
  | succ f ih =>
    intro g n hn _ hg
    cases g with
    | zero => omega
    | succ g =>
      unfold decF
      by_cases h : n < 10
      · rw [if_pos h, if_pos h]
      · rw [if_neg h, if_neg h]
        have hf : 1 ≤ f := by
          rcases Nat.eq_zero_or_pos f with h0 | h0
          · subst h0; simp at hn; omega
          · exact h0
        rw [ih g (n / 10) (by rw [Nat.pow_succ] at hn; omega) hf (by omega)]
theorem dec_small (n : Nat) (h : n < 10) : dec n = [UInt8.ofNat (48 + n)] := by
  unfold dec decF
  rw [if_pos h]

/-- Which of n things a number speaks of. -/
def pickI (c n : Int) : Int := if c < 0 then (-(c + 1)) % n else c % n
theorem pickI_bd (c n : Int) (h : 0 < n) : 0 ≤ pickI c n ∧ pickI c n < n := by
  unfold pickI
  split
  · exact ⟨Int.emod_nonneg _ (by omega), Int.emod_lt_of_pos _ h⟩
  · exact ⟨Int.emod_nonneg _ (by omega), Int.emod_lt_of_pos _ h⟩

set_option maxRecDepth 100000 in
set_option maxHeartbeats 1000000 in
theorem pick_any (c n : Int) (w : World) (h0 : -9223372036854775808 ≤ c) (h1 : c ≤ 9223372036854775807) (hn : 0 < n) (hn1 : n ≤ 4294967296) :
    Calls Tryd.prog 15 #[.int .i64 c, .int .i64 n] w fun e' w' => e' = .returned (.int .i64 (pickI c n)) ∧ w' = w := by
  have hb := pickI_bd c n hn
  have hn0 : ¬ n = 0 := by omega
  by_cases hc : c < 0
  · have ht : (-(c + 1)).tmod n = pickI c n := by
      unfold pickI
      rw [if_pos hc, Int.tmod_eq_emod_of_nonneg (by omega)]
    generalize pickI c n = r at *
    go_enter Tryd.func15, Tryd.ntmps15
    go_wp2
    go_ret
    exact ⟨by go_num, rfl⟩
  · have ht : c.tmod n = pickI c n := by
      unfold pickI
      rw [if_neg hc, Int.tmod_eq_emod_of_nonneg (by omega)]
    generalize pickI c n = r at *
    go_enter Tryd.func15, Tryd.ntmps15
    go_wp2
    go_ret
    exact ⟨by go_num, rfl⟩
end Go.Proofs.YtgggaepeeaelhaaDoor
