/-
  THE LAW Written: its small functions: digits.
-/
import Derived.Test.YtgggaepeeaelhaaDoorWrA
import Derived.Laws.IdiomStrings
namespace Go.Proofs.YtgggaepeeaelhaaDoor
open Go.RowKit

def bya (l : List UInt8) : ByteArray := ⟨l.toArray⟩
theorem bya_size (l : List UInt8) : (bya l).size = l.length := by simp [bya, ByteArray.size]
theorem bya_app (a b : List UInt8) : bya a ++ bya b = bya (a ++ b) := by
  apply ByteArray.ext
  simp [bya]
theorem bya_list (l : List UInt8) : (bya l).data.toList = l := by simp [bya]

set_option maxRecDepth 100000 in
set_option maxHeartbeats 1000000 in
theorem digits_one (n : Nat) (w : World) (hn : n < 10) :
    Calls Tryd.prog 47 #[.int .i64 n] w fun e' w' => e' = .returned (.string (bya [UInt8.ofNat (48 + n)])) ∧ Below w.heap.size w w' := by
  have hn' : (n : Int) < 10 := by omega
  have kc : (convert 76 9 (.slice (some ⟨w.heap.size, 0, none⟩) 1 1)).run Tryd.prog (w.alloc (.cells #[.int .u8 (48 + (n : Int))] 5)) = .ok (.string (bya [UInt8.ofNat (48 + n)])) (w.alloc (.cells #[.int .u8 (48 + (n : Int))] 5)) := by
    refine run_convert_bytes_back _ _ _ 5 ⟨w.heap.size, 0, none⟩ 1 [UInt8.ofNat (48 + n)] Tryd.underlying76 Tryd.underlying5 Tryd.underlying9 (fun j hj => ?_)
    match j, hj with
    | 0, _ =>
      show (w.alloc _).cell? ⟨w.heap.size, 0, none⟩ = some (.int .u8 ((UInt8.ofNat (48 + n)).toNat : Int))
      rw [World.cell?_alloc_at (hn := rfl), dig_toNat n hn]
      simp
  have HB : Hid (Below w.heap.size w (w.alloc (.cells #[.int .u8 (48 + (n : Int))] 5))) := (Below.refl _ _).alloc (Nat.le_refl _) _
  generalize bya [UInt8.ofNat (48 + n)] = D at *
  go_enter Tryd.func47, Tryd.ntmps47
  go_wp2_with fail
  go_ret
  exact ⟨rfl, HB.out⟩

set_option maxRecDepth 100000 in
set_option maxHeartbeats 1000000 in
theorem digits_go : ∀ (f n : Nat) (w : World), n < 10 ^ f → 1 ≤ f → f ≤ 10 →
    Calls Tryd.prog 47 #[.int .i64 n] w fun e' w' => e' = .returned (.string (bya (decF f n))) ∧ Below w.heap.size w w' := by
  intro f
  induction f with
  | zero => intro n w _ h; omega
  | succ f ih =>
    intro n w hn _ hf
    by_cases h : n < 10
    · unfold decF
      rw [if_pos h]
      exact digits_one n w h
    · have h' : ¬ (n : Int) < 10 := by omega
      have hf1 : 1 ≤ f := by
        rcases Nat.eq_zero_or_pos f with h0 | h0
        · subst h0; simp at hn; omega
        · exact h0
      have hd : n / 10 < 10 ^ f := by
        rw [Nat.pow_succ] at hn
        omega
      have H1 := hide (ih (n / 10) w hd hf1 (by omega))
      have H2 := hide (fun w' => digits_one (n % 10) w' (by omega))
      have HE : Hid (bya (decF f (n / 10)) ++ bya [UInt8.ofNat (48 + n % 10)] = bya (decF (f + 1) n)) := by
        unfold Hid
        rw [decF, if_neg h, bya_app]
      have e1 : (n : Int).tdiv 10 = ((n / 10 : Nat) : Int) := by rw [Int.tdiv_eq_ediv_of_nonneg (by omega)]; omega
      have e2 : (n : Int).tmod 10 = ((n % 10 : Nat) : Int) := by rw [Int.tmod_eq_emod_of_nonneg (by omega)]; omega
      have hb : n < 10000000000 := Nat.lt_of_lt_of_le hn (by
        have : 10 ^ (f + 1) ≤ 10 ^ 10 := Nat.pow_le_pow_right (by omega) hf
        simpa using this)
      have hq : n / 10 < 10000000000 := by omega
      have hr : n % 10 < 10 := by omega
      have z1 : (bya (decF f (n / 10))).size ≤ 10 := by rw [bya_size]; have := (decF_ok f (n / 10) hd hf1).2.2.1; omega
      have z2 : (bya [UInt8.ofNat (48 + n % 10)]).size = 1 := by rw [bya_size]; rfl
      generalize bya (decF (f + 1) n) = D at *
      generalize bya (decF f (n / 10)) = D1 at *
      generalize bya [UInt8.ofNat (48 + n % 10)] = D2 at *
      generalize n / 10 = q at *
      generalize n % 10 = r at *
      clear ih hn hd hf
      go_enter Tryd.func47, Tryd.ntmps47
      go_wp2_with fail
      refine (unhide H1).mono ?_
      rintro e w1 ⟨rfl, hb1⟩
      go_wp2_with fail
      refine (unhide H2 _).mono ?_
      rintro e w2 ⟨rfl, hb2⟩
      have HB2 := hide (hb1.trans (hb2.mono hb1.size))
      clear hb1 hb2
      go_wp2_with fail
      go_ret
      rw [HE.out]
      exact ⟨rfl, HB2.out⟩
theorem digits_any (n : Nat) (w : World) (h : n < 10000000000) :
    Calls Tryd.prog 47 #[.int .i64 n] w fun e' w' => e' = .returned (.string (bya (dec n))) ∧ Below w.heap.size w w' :=
  digits_go 10 n w (by simpa using h) (by omega) (by omega)
theorem dec_len (n : Nat) (h : n < 10000000000) : 1 ≤ (dec n).length ∧ (dec n).length ≤ 10 := by
  obtain ⟨_, h2, h3, _⟩ := decF_ok 10 n (by simpa using h) (by omega)
  exact ⟨h2, h3⟩
end Go.Proofs.YtgggaepeeaelhaaDoor
