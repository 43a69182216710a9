/-
  THE LAW Written: its small functions: pick, digits.
  THE LAW Written: its small functions: digits.
  THE LAW Written: an instruction spelt out (spelt).
-/
import Derived.Test.YtmmflekajbeamaaDoorG03
import Derived.Laws.IdiomStrings
import Derived.Test.YtmmflekajbeamaaDoorG12
namespace Go.Proofs.YtmmflekajbeamaaDoor
open Go.RowKit

/-- A number's digits. -/
def decF : Nat → Nat → List UInt8
  | 0, _ => []
  | f + 1, n => if n < 10 then [UInt8.ofNat (48 + n)] else decF f (n / 10) ++ [UInt8.ofNat (48 + n % 10)]
def dec (n : Nat) : List UInt8 := decF 10 n
theorem dig_toNat (n : Nat) (h : n < 10) : (UInt8.ofNat (48 + n)).toNat = 48 + n := by
  rw [UInt8.toNat_ofNat']
  omega
theorem valD_snoc' (l : List UInt8) (b : UInt8) : valD (l ++ [b]) = valD l * 10 + ((b.toNat : Int) - 48) := by simp [valD]
theorem decF_ok : ∀ (f n : Nat), n < 10 ^ f → 1 ≤ f → valD (decF f n) = n ∧ 1 ≤ (decF f n).length ∧ (decF f n).length ≤ f ∧ (∀ b ∈ decF f n, digC b = true) := by
  intro f
  induction f with
  | zero => intro n _ h; omega
  | succ f ih =>
    intro n hn _
    unfold decF
    by_cases h : n < 10
    · rw [if_pos h]
      have := dig_toNat n h
      refine ⟨?_, by simp, by simp, fun b hb => ?_⟩
      · simp only [valD, List.foldl_cons, List.foldl_nil, this]; omega
      · rw [List.mem_singleton.1 hb]
        simp only [digC, this, decide_eq_true_eq]
        omega
    · rw [if_neg h]
      have hf : 1 ≤ f := by
        rcases Nat.eq_zero_or_pos f with h0 | h0
        · subst h0; simp at hn; omega
        · exact h0
      have hd : n / 10 < 10 ^ f := by
        rw [Nat.pow_succ] at hn
        omega
      obtain ⟨h1, h2, h3, h4⟩ := ih (n / 10) hd hf
      have := dig_toNat (n % 10) (by omega)
      refine ⟨?_, by simp, by simp; omega, fun b hb => ?_⟩
      · rw [valD_snoc', h1, this]
        omega
      · rcases List.mem_append.1 hb with hb | hb
        · exact h4 b hb
        · rw [List.mem_singleton.1 hb]
          simp only [digC, this, decide_eq_true_eq]
          omega
theorem dec_ok (n : Nat) (h : n < 10000000000) : valD (dec n) = n ∧ numOK (dec n) = true := by
  obtain ⟨h1, h2, h3, h4⟩ := decF_ok 10 n (by simpa using h) (by omega)
  refine ⟨h1, ?_⟩
  unfold dec
  simp only [numOK, Bool.and_eq_true, decide_eq_true_eq, List.all_eq_true]
  exact ⟨⟨h2, h3⟩, h4⟩
theorem decF_more : ∀ (f g n : Nat), n < 10 ^ f → 1 ≤ f → f ≤ g → decF g n = decF f n := by
  intro f
  induction f with
  | zero => intro g n _ h; omega
  | succ f ih =>
    intro g n hn _ hg
    cases g with
    | zero => omega
    | succ g =>
      unfold decF
      by_cases h : n < 10
      · rw [if_pos h, if_pos h]
      · rw [if_neg h, if_neg h]
        have hf : 1 ≤ f := by
          rcases Nat.eq_zero_or_pos f with h0 | h0
          · subst h0; simp at hn; omega
          · exact h0
        rw [ih g (n / 10) (by rw [Nat.pow_succ] at hn; omega) hf (by omega)]
theorem dec_small (n : Nat) (h : n < 10) : dec n = [UInt8.ofNat (48 + n)] := by
  unfold dec decF
  rw [if_pos h]

/-- Which of n things a number speaks of. -/
def pickI (c n : Int) : Int := if c < 0 then (-(c + 1)) % n else c % n
theorem pickI_bd (c n : Int) (h : 0 < n) : 0 ≤ pickI c n ∧ pickI c n < n := by
  unfold pickI
  split
  · exact ⟨Int.emod_nonneg _ (by omega), Int.emod_lt_of_pos _ h⟩
  · exact ⟨Int.emod_nonneg _ (by omega), Int.emod_lt_of_pos _ h⟩

set_option maxRecDepth 100000 in
set_option maxHeartbeats 1000000 in
theorem pick_any (c n : Int) (w : World) (h0 : -9223372036854775808 ≤ c) (h1 : c ≤ 9223372036854775807) (hn : 0 < n) (hn1 : n ≤ 4294967296) :
    Calls Tryd.prog 15 #[.int .i64 c, .int .i64 n] w fun e' w' => e' = .returned (.int .i64 (pickI c n)) ∧ w' = w := by
  have hb := pickI_bd c n hn
  have hn0 : ¬ n = 0 := by omega
  by_cases hc : c < 0
  · have ht : (-(c + 1)).tmod n = pickI c n := by
      unfold pickI
      rw [if_pos hc, Int.tmod_eq_emod_of_nonneg (by omega)]
    generalize pickI c n = r at *
    go_enter Tryd.func15, Tryd.ntmps15
    go_wp2
    go_ret
    exact ⟨by go_num, rfl⟩
  · have ht : c.tmod n = pickI c n := by
      unfold pickI
      rw [if_neg hc, Int.tmod_eq_emod_of_nonneg (by omega)]
    generalize pickI c n = r at *
    go_enter Tryd.func15, Tryd.ntmps15
    go_wp2
    go_ret
    exact ⟨by go_num, rfl⟩
end Go.Proofs.YtmmflekajbeamaaDoor

namespace Go.Proofs.YtmmflekajbeamaaDoor
open Go.RowKit

def bya (l : List UInt8) : ByteArray := ⟨l.toArray⟩
theorem bya_size (l : List UInt8) : (bya l).size = l.length := by simp [bya, ByteArray.size]
theorem bya_app (a b : List UInt8) : bya a ++ bya b = bya (a ++ b) := by
  apply ByteArray.ext
  simp [bya]
theorem bya_list (l : List UInt8) : (bya l).data.toList = l := by simp [bya]

set_option maxRecDepth 100000 in
set_option maxHeartbeats 1000000 in
theorem digits_one (n : Nat) (w : World) (hn : n < 10) :
    Calls Tryd.prog 47 #[.int .i64 n] w fun e' w' => e' = .returned (.string (bya [UInt8.ofNat (48 + n)])) ∧ Below w.heap.size w w' := by
  have hn' : (n : Int) < 10 := by omega
  have kc : (convert 76 9 (.slice (some ⟨w.heap.size, 0, none⟩) 1 1)).run Tryd.prog (w.alloc (.cells #[.int .u8 (48 + (n : Int))] 5)) = .ok (.string (bya [UInt8.ofNat (48 + n)])) (w.alloc (.cells #[.int .u8 (48 + (n : Int))] 5)) := by
    refine run_convert_bytes_back _ _ _ 5 ⟨w.heap.size, 0, none⟩ 1 [UInt8.ofNat (48 + n)] Tryd.underlying76 Tryd.underlying5 Tryd.underlying9 (fun j hj => ?_)
    match j, hj with
    | 0, _ =>
      show (w.alloc _).cell? ⟨w.heap.size, 0, none⟩ = some (.int .u8 ((UInt8.ofNat (48 + n)).toNat : Int))
      rw [World.cell?_alloc_at (hn := rfl), dig_toNat n hn]
      simp
  have HB : Hid (Below w.heap.size w (w.alloc (.cells #[.int .u8 (48 + (n : Int))] 5))) := (Below.refl _ _).alloc (Nat.le_refl _) _
  generalize bya [UInt8.ofNat (48 + n)] = D at *
  go_enter Tryd.func47, Tryd.ntmps47
  go_wp2_with fail
  go_ret
  exact ⟨rfl, HB.out⟩

set_option maxRecDepth 100000 in
set_option maxHeartbeats 1000000 in
theorem digits_go : ∀ (f n : Nat) (w : World), n < 10 ^ f → 1 ≤ f → f ≤ 10 →
    Calls Tryd.prog 47 #[.int .i64 n] w fun e' w' => e' = .returned (.string (bya (decF f n))) ∧ Below w.heap.size w w' := by
  intro f
  induction f with
  | zero => intro n w _ h; omega
  | succ f ih =>
    intro n w hn _ hf
    by_cases h : n < 10
    · unfold decF
      rw [if_pos h]
      exact digits_one n w h
    · have h' : ¬ (n : Int) < 10 := by omega
      have hf1 : 1 ≤ f := by
        rcases Nat.eq_zero_or_pos f with h0 | h0
        · subst h0; simp at hn; omega
        · exact h0
      have hd : n / 10 < 10 ^ f := by
        rw [Nat.pow_succ] at hn
        omega
      have H1 := hide (ih (n / 10) w hd hf1 (by omega))
      have H2 := hide (fun w' => digits_one (n % 10) w' (by omega))
      have HE : Hid (bya (decF f (n / 10)) ++ bya [UInt8.ofNat (48 + n % 10)] = bya (decF (f + 1) n)) := by
        unfold Hid
        rw [decF, if_neg h, bya_app]
      have e1 : (n : Int).tdiv 10 = ((n / 10 : Nat) : Int) := by rw [Int.tdiv_eq_ediv_of_nonneg (by omega)]; omega
      have e2 : (n : Int).tmod 10 = ((n % 10 : Nat) : Int) := by rw [Int.tmod_eq_emod_of_nonneg (by omega)]; omega
      have hb : n < 10000000000 := Nat.lt_of_lt_of_le hn (by
        have : 10 ^ (f + 1) ≤ 10 ^ 10 := Nat.pow_le_pow_right (by omega) hf
        simpa using this)
      have hq : n / 10 < 10000000000 := by omega
      have hr : n % 10 < 10 := by omega
      have z1 : (bya (decF f (n / 10))).size ≤ 10 := by rw [bya_size]; have := (decF_ok f (n / 10) hd hf1).2.2.1; omega
      have z2 : (bya [UInt8.ofNat (48 + n % 10)]).size = 1 := by rw [bya_size]; rfl
      generalize bya (decF (f + 1) n) = D at *
      generalize bya (decF f (n / 10)) = D1 at *
      generalize bya [UInt8.ofNat (48 + n % 10)] = D2 at *
      generalize n / 10 = q at *
      generalize n % 10 = r at *
      clear ih hn hd hf
      go_enter Tryd.func47, Tryd.ntmps47
      go_wp2_with fail
      refine (unhide H1).mono ?_
      rintro e w1 ⟨rfl, hb1⟩
      go_wp2_with fail
      refine (unhide H2 _).mono ?_
      rintro e w2 ⟨rfl, hb2⟩
      have HB2 := hide (hb1.trans (hb2.mono hb1.size))
      clear hb1 hb2
      go_wp2_with fail
      go_ret
      rw [HE.out]
      exact ⟨rfl, HB2.out⟩
theorem digits_any (n : Nat) (w : World) (h : n < 10000000000) :
    Calls Tryd.prog 47 #[.int .i64 n] w fun e' w' => e' = .returned (.string (bya (dec n))) ∧ Below w.heap.size w w' :=
  digits_go 10 n w (by simpa using h) (by omega) (by omega)
theorem dec_len (n : Nat) (h : n < 10000000000) : 1 ≤ (dec n).length ∧ (dec n).length ≤ 10 := by
  obtain ⟨_, h2, h3, _⟩ := decF_ok 10 n (by simpa using h) (by omega)
  exact ⟨h2, h3⟩
end Go.Proofs.YtmmflekajbeamaaDoor

namespace Go.Proofs.YtmmflekajbeamaaDoor
open Go.RowKit

def opN (v : Nat) : Nat := v / 16777216 % 12
def aN (v : Nat) : Nat := v / 1048576 % 8
def bN (v : Nat) : Nat := v / 65536 % 8
def cN (v : Nat) : Nat := v / 4096 % 8
def kN (v : Nat) : Nat := v % 4096
def rT (a : Nat) : List UInt8 := 114 :: dec a
def its (v : Nat) : List (List UInt8 × List UInt8) :=
  match opN v with
  | 0 => []
  | 1 => [([32], rT (aN v)), ([32, 32], dec (kN v))]
  | 2 | 3 | 4 | 5 => [([32], rT (aN v)), ([9], rT (bN v)), ([32], rT (cN v))]
  | 6 | 7 | 8 => [([32], rT (aN v)), ([9], rT (bN v)), ([32, 32], dec (kN v))]
  | 9 => [([32, 32], dec (kN v))]
  | 10 => [([32], rT (aN v))]
  | _ => [([32], dec v)]
def spT (v : Nat) : List UInt8 := rowNm (opN v) ++ (its v).flatMap fun p => p.1 ++ p.2
def spW (v : Nat) : Nat :=
  match opN v with
  | 0 => 0
  | 1 => opN v * 16777216 + aN v * 1048576 + kN v
  | 2 | 3 | 4 | 5 => opN v * 16777216 + aN v * 1048576 + bN v * 65536 + cN v * 4096
  | 6 | 7 | 8 => opN v * 16777216 + aN v * 1048576 + bN v * 65536 + kN v
  | 9 => opN v * 16777216 + kN v
  | 10 => opN v * 16777216 + aN v * 1048576
  | _ => v

set_option maxRecDepth 100000 in
set_option maxHeartbeats 2000000 in
theorem spelt_any (v : Nat) (w : World) (hv : v < 4294967296) :
    Calls Tryd.prog 16 #[.int .i64 v] w fun e' w' => e' = .returned (.tuple #[.string (bya (spT v)), .int .i64 (spW v : Int)]) ∧ Below w.heap.size w w' := by
  have e0 : (v : Int) / 16777216 % 12 = (opN v : Int) := by unfold opN; omega
  have e1 : (v : Int) / 1048576 % 8 = (aN v : Int) := by unfold aN; omega
  have e2 : (v : Int) / 65536 % 8 = (bN v : Int) := by unfold bN; omega
  have e3 : (v : Int) / 4096 % 8 = (cN v : Int) := by unfold cN; omega
  have e4 : (v : Int) % 4096 = (kN v : Int) := by unfold kN; omega
  have b0 : opN v < 12 := by unfold opN; omega
  have b1 : aN v < 8 := by unfold aN; omega
  have b2 : bN v < 8 := by unfold bN; omega
  have b3 : cN v < 8 := by unfold cN; omega
  have b4 : kN v < 4096 := by unfold kN; omega
  have HA := hide (fun w' => digits_any (aN v) w' (by omega))
  have HB := hide (fun w' => digits_any (bN v) w' (by omega))
  have HC := hide (fun w' => digits_any (cN v) w' (by omega))
  have HK := hide (fun w' => digits_any (kN v) w' (by omega))
  have HV := hide (fun w' => digits_any v w' (by omega))
  have z1 : (bya (dec (aN v))).size ≤ 10 := by rw [bya_size]; exact (dec_len _ (by omega)).2
  have z2 : (bya (dec (bN v))).size ≤ 10 := by rw [bya_size]; exact (dec_len _ (by omega)).2
  have z3 : (bya (dec (cN v))).size ≤ 10 := by rw [bya_size]; exact (dec_len _ (by omega)).2
  have z4 : (bya (dec (kN v))).size ≤ 10 := by rw [bya_size]; exact (dec_len _ (by omega)).2
  have z5 : (bya (dec v)).size ≤ 10 := by rw [bya_size]; exact (dec_len _ (by omega)).2
  have q1 : (⟨#[32, 114]⟩ : ByteArray) = bya [32, 114] := rfl
  have q2 : (⟨#[9, 114]⟩ : ByteArray) = bya [9, 114] := rfl
  have q3 : (⟨#[32, 32]⟩ : ByteArray) = bya [32, 32] := rfl
  have q4 : (⟨#[119, 111, 114, 100, 32]⟩ : ByteArray) = bya [119, 111, 114, 100, 32] := rfl
  have HF : Hid (∀ o, opN v = o → bya (spT v) = (match o with
      | 0 => bya (rowNm o)
      | 1 => bya (rowNm o) ++ ((⟨#[32, 114]⟩ : ByteArray) ++ bya (dec (aN v))) ++ ((⟨#[32, 32]⟩ : ByteArray) ++ bya (dec (kN v)))
      | 2 | 3 | 4 | 5 => bya (rowNm o) ++ ((⟨#[32, 114]⟩ : ByteArray) ++ bya (dec (aN v))) ++ ((⟨#[9, 114]⟩ : ByteArray) ++ bya (dec (bN v))) ++ ((⟨#[32, 114]⟩ : ByteArray) ++ bya (dec (cN v)))
      | 6 | 7 | 8 => bya (rowNm o) ++ ((⟨#[32, 114]⟩ : ByteArray) ++ bya (dec (aN v))) ++ ((⟨#[9, 114]⟩ : ByteArray) ++ bya (dec (bN v))) ++ ((⟨#[32, 32]⟩ : ByteArray) ++ bya (dec (kN v)))
      | 9 => bya (rowNm o) ++ ((⟨#[32, 32]⟩ : ByteArray) ++ bya (dec (kN v)))
      | 10 => bya (rowNm o) ++ ((⟨#[32, 114]⟩ : ByteArray) ++ bya (dec (aN v)))
      | _ => (⟨#[119, 111, 114, 100, 32]⟩ : ByteArray) ++ bya (dec v))) := fun o ho => by
    have ho2 : o < 12 := by omega
    unfold spT its rT
    rw [ho, q1, q2, q3, q4]
    match o, ho2 with
    | 0, _ | 1, _ | 2, _ | 3, _ | 4, _ | 5, _ | 6, _ | 7, _ | 8, _ | 9, _ | 10, _ | 11, _ => simp [bya_app, List.flatMap, rowNm]
  clear q1 q2 q3 q4
  have HG : Hid (∀ o, opN v = o → spW v = (match o with
      | 0 => 0
      | 1 => o * 16777216 + aN v * 1048576 + kN v
      | 2 | 3 | 4 | 5 => o * 16777216 + aN v * 1048576 + bN v * 65536 + cN v * 4096
      | 6 | 7 | 8 => o * 16777216 + aN v * 1048576 + bN v * 65536 + kN v
      | 9 => o * 16777216 + kN v
      | 10 => o * 16777216 + aN v * 1048576
      | _ => v)) := fun o ho => by
    unfold spW
    rw [ho]
  generalize bya (spT v) = T at *
  generalize spW v = W at *
  generalize opN v = op at *
  generalize aN v = a at *
  generalize bN v = b at *
  generalize cN v = c at *
  generalize kN v = k at *
  generalize bya (dec a) = A at *
  generalize bya (dec b) = B at *
  generalize bya (dec c) = C at *
  generalize bya (dec k) = K at *
  generalize bya (dec v) = V at *
  have y1 : ((⟨#[32, 114]⟩ : ByteArray) ++ A).size ≤ 12 := by rw [ByteArray.size_append]; show 2 + _ ≤ 12; omega
  have y2 : ((⟨#[9, 114]⟩ : ByteArray) ++ B).size ≤ 12 := by rw [ByteArray.size_append]; show 2 + _ ≤ 12; omega
  have y3 : ((⟨#[32, 114]⟩ : ByteArray) ++ C).size ≤ 12 := by rw [ByteArray.size_append]; show 2 + _ ≤ 12; omega
  have y4 : ((⟨#[32, 32]⟩ : ByteArray) ++ K).size ≤ 12 := by rw [ByteArray.size_append]; show 2 + _ ≤ 12; omega
  have HF' := hide (HF.out op rfl)
  have HG' := hide (HG.out op rfl)
  clear HF HG
  go_enter Tryd.func16, Tryd.ntmps16
  go_wp2_with fail
  simp only [e0, e1, e2, e3, e4]
  clear e0 e1 e2 e3 e4
  refine (unhide HA _).mono ?_
  rintro e w1 ⟨rfl, hb1⟩
  have HB1 := hide hb1
  clear hb1 HA
  go_wp2_with fail
  refine (unhide HB _).mono ?_
  rintro e w2 ⟨rfl, hb2⟩
  have HB2 := hide (HB1.out.trans (hb2.mono HB1.out.size))
  clear hb2 HB1 HB
  go_wp2_with fail
  refine (unhide HC _).mono ?_
  rintro e w3 ⟨rfl, hb3⟩
  have HB3 := hide (HB2.out.trans (hb3.mono HB2.out.size))
  clear hb3 HB2 HC
  go_wp2_with fail
  refine (unhide HK _).mono ?_
  rintro e w4 ⟨rfl, hb4⟩
  have HB4 := hide (HB3.out.trans (hb4.mono HB3.out.size))
  clear hb4 HB3 HK
  have nm : ∀ j u, #[Value.string ⟨#[104, 97, 108, 116]⟩, .string ⟨#[115, 101, 116]⟩, .string ⟨#[97, 100, 100]⟩, .string ⟨#[115, 117, 98]⟩, .string ⟨#[120, 111, 114]⟩, .string ⟨#[109, 117, 108]⟩][j]? = some u → w4.cell? ⟨w.heap.size, j, none⟩ = some u := fun j u hu => by
    rw [below_cell' HB4.out _ _ (by rw [size_alloc1, size_alloc1]; omega), World.cell?_alloc_past _ _ _ (by rw [size_alloc1]; omega)]
    exact cell_new w _ _ j u hu
  have mo : ∀ j u, #[Value.string ⟨#[108, 111, 97, 100]⟩, .string ⟨#[115, 116, 111, 114, 101]⟩, .string ⟨#[115, 97, 109, 101]⟩, .string ⟨#[106, 117, 109, 112]⟩, .string ⟨#[116, 117, 114, 110]⟩][j]? = some u → w4.cell? ⟨w.heap.size + 1, j, none⟩ = some u := fun j u hu => by
    rw [below_cell' HB4.out _ _ (by rw [size_alloc1, size_alloc1]; omega)]
    have := cell_new (w.alloc (.cells #[Value.string ⟨#[104, 97, 108, 116]⟩, .string ⟨#[115, 101, 116]⟩, .string ⟨#[97, 100, 100]⟩, .string ⟨#[115, 117, 98]⟩, .string ⟨#[120, 111, 114]⟩, .string ⟨#[109, 117, 108]⟩] 87)) #[Value.string ⟨#[108, 111, 97, 100]⟩, .string ⟨#[115, 116, 111, 114, 101]⟩, .string ⟨#[115, 97, 109, 101]⟩, .string ⟨#[106, 117, 109, 112]⟩, .string ⟨#[116, 117, 114, 110]⟩] 88 j u hu
    rw [size_alloc1] at this
    exact this
  have HBw : Hid (Below w.heap.size w w4) := (((Below.refl _ _).alloc (Nat.le_refl _) _).alloc (by rw [size_alloc1]; omega) _).trans (HB4.out.mono (by rw [size_alloc1, size_alloc1]; omega))
  have hz4 := HB4.out.size
  rw [size_alloc1, size_alloc1] at hz4
  clear HB4
  have n0 := nm 0 _ rfl; have n1 := nm 1 _ rfl; have n2 := nm 2 _ rfl; have n3 := nm 3 _ rfl; have n4 := nm 4 _ rfl; have n5 := nm 5 _ rfl
  have m0 := mo 0 _ rfl; have m1 := mo 1 _ rfl; have m2 := mo 2 _ rfl; have m3 := mo 3 _ rfl; have m4 := mo 4 _ rfl
  clear nm mo
  have hop : op = 0 ∨ op = 1 ∨ op = 2 ∨ op = 3 ∨ op = 4 ∨ op = 5 ∨ op = 6 ∨ op = 7 ∨ op = 8 ∨ op = 9 ∨ op = 10 ∨ op = 11 := by omega
  clear b0
  rcases hop with rfl | rfl | rfl | rfl | rfl | rfl | rfl | rfl | rfl | rfl | rfl | rfl
  · have HT : T = ⟨#[104, 97, 108, 116]⟩ := HF'.out
    have HW : W = 0 := HG'.out
    go_wp2_with fail
    go_ret2
    rw [HT, HW]
    exact ⟨by go_num, HBw.out⟩
  · have HT : T = ⟨#[115, 101, 116]⟩ ++ (⟨#[32, 114]⟩ ++ A) ++ (⟨#[32, 32]⟩ ++ K) := HF'.out
    have HW : W = 1 * 16777216 + a * 1048576 + k := HG'.out
    go_wp2_with fail
    go_ret2
    rw [HT, HW]
    exact ⟨by go_num, HBw.out⟩
  · have HT : T = ⟨#[97, 100, 100]⟩ ++ (⟨#[32, 114]⟩ ++ A) ++ (⟨#[9, 114]⟩ ++ B) ++ (⟨#[32, 114]⟩ ++ C) := HF'.out
    have HW : W = 2 * 16777216 + a * 1048576 + b * 65536 + c * 4096 := HG'.out
    go_wp2_with fail
    go_ret2
    rw [HT, HW]
    exact ⟨by go_num, HBw.out⟩
  · have HT : T = ⟨#[115, 117, 98]⟩ ++ (⟨#[32, 114]⟩ ++ A) ++ (⟨#[9, 114]⟩ ++ B) ++ (⟨#[32, 114]⟩ ++ C) := HF'.out
    have HW : W = 3 * 16777216 + a * 1048576 + b * 65536 + c * 4096 := HG'.out
    go_wp2_with fail
    go_ret2
    rw [HT, HW]
    exact ⟨by go_num, HBw.out⟩
  · have HT : T = ⟨#[120, 111, 114]⟩ ++ (⟨#[32, 114]⟩ ++ A) ++ (⟨#[9, 114]⟩ ++ B) ++ (⟨#[32, 114]⟩ ++ C) := HF'.out
    have HW : W = 4 * 16777216 + a * 1048576 + b * 65536 + c * 4096 := HG'.out
    go_wp2_with fail
    go_ret2
    rw [HT, HW]
    exact ⟨by go_num, HBw.out⟩
  · have HT : T = ⟨#[109, 117, 108]⟩ ++ (⟨#[32, 114]⟩ ++ A) ++ (⟨#[9, 114]⟩ ++ B) ++ (⟨#[32, 114]⟩ ++ C) := HF'.out
    have HW : W = 5 * 16777216 + a * 1048576 + b * 65536 + c * 4096 := HG'.out
    go_wp2_with fail
    go_ret2
    rw [HT, HW]
    exact ⟨by go_num, HBw.out⟩
  · have HT : T = ⟨#[108, 111, 97, 100]⟩ ++ (⟨#[32, 114]⟩ ++ A) ++ (⟨#[9, 114]⟩ ++ B) ++ (⟨#[32, 32]⟩ ++ K) := HF'.out
    have HW : W = 6 * 16777216 + a * 1048576 + b * 65536 + k := HG'.out
    go_wp2_with fail
    go_ret2
    rw [HT, HW]
    exact ⟨by go_num, HBw.out⟩
  · have HT : T = ⟨#[115, 116, 111, 114, 101]⟩ ++ (⟨#[32, 114]⟩ ++ A) ++ (⟨#[9, 114]⟩ ++ B) ++ (⟨#[32, 32]⟩ ++ K) := HF'.out
    have HW : W = 7 * 16777216 + a * 1048576 + b * 65536 + k := HG'.out
    go_wp2_with fail
    go_ret2
    rw [HT, HW]
    exact ⟨by go_num, HBw.out⟩
  · have HT : T = ⟨#[115, 97, 109, 101]⟩ ++ (⟨#[32, 114]⟩ ++ A) ++ (⟨#[9, 114]⟩ ++ B) ++ (⟨#[32, 32]⟩ ++ K) := HF'.out
    have HW : W = 8 * 16777216 + a * 1048576 + b * 65536 + k := HG'.out
    go_wp2_with fail
    go_ret2
    rw [HT, HW]
    exact ⟨by go_num, HBw.out⟩
  · have HT : T = ⟨#[106, 117, 109, 112]⟩ ++ (⟨#[32, 32]⟩ ++ K) := HF'.out
    have HW : W = 9 * 16777216 + k := HG'.out
    go_wp2_with fail
    go_ret2
    rw [HT, HW]
    exact ⟨by go_num, HBw.out⟩
  · have HT : T = ⟨#[116, 117, 114, 110]⟩ ++ (⟨#[32, 114]⟩ ++ A) := HF'.out
    have HW : W = 10 * 16777216 + a * 1048576 := HG'.out
    go_wp2_with fail
    go_ret2
    rw [HT, HW]
    exact ⟨by go_num, HBw.out⟩
  · have HT : T = ⟨#[119, 111, 114, 100, 32]⟩ ++ V := HF'.out
    have HW : W = v := HG'.out
    go_wp2_with fail
    refine (unhide HV _).mono ?_
    rintro e w5 ⟨rfl, hb5⟩
    have HB5 := hide (HBw.out.trans (hb5.mono HBw.out.size))
    clear hb5 HBw HV
    go_wp2_with fail
    go_ret2
    rw [HT, HW]
    exact ⟨by go_num, HB5.out⟩
end Go.Proofs.YtmmflekajbeamaaDoor
