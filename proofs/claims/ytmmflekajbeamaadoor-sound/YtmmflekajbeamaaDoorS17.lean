/-
  THE LAW Written: its small functions: pick, digits.
  THE LAW Written: its small functions: digits.
  Plans, the document's answer: numbers as texts; expressions as texts (Number, constant, joined, loaded, begin).
  Translates: whole numbers laid behind bytes (number.Append); bytes as a string.
  Translates: the text of a plan (plans.Text); puts with what is known (withKnown).
-/
import Derived.Test.YtmmflekajbeamaaDoorS04
import Derived.Laws.IdiomStrings
import Derived.Test.YtmmflekajbeamaaDoorS12
import Derived.Test.YtmmflekajbeamaaDoorS16
import Derived.Test.YtmmflekajbeamaaDoorS02
import Derived.Lib.BufferRead
import Derived.Test.YtmmflekajbeamaaDoorS15
namespace Go.Proofs.YtmmflekajbeamaaDoor
open Go.RowKit

/-- A number's digits. -/
def decF : Nat → Nat → List UInt8
  | 0, _ => []
  | f + 1, n => if n < 10 then [UInt8.ofNat (48 + n)] else decF f (n / 10) ++ [UInt8.ofNat (48 + n % 10)]
def dec (n : Nat) : List UInt8 := decF 10 n
theorem dig_toNat (n : Nat) (h : n < 10) : (UInt8.ofNat (48 + n)).toNat = 48 + n := by
  rw [UInt8.toNat_ofNat']
  omega
theorem valD_snoc' (l : List UInt8) (b : UInt8) : valD (l ++ [b]) = valD l * 10 + ((b.toNat : Int) - 48) := by simp [valD]
theorem decF_ok : ∀ (f n : Nat), n < 10 ^ f → 1 ≤ f → valD (decF f n) = n ∧ 1 ≤ (decF f n).length ∧ (decF f n).length ≤ f ∧ (∀ b ∈ decF f n, digC b = true) := by
  intro f
  induction f with
  | zero => intro n _ h; omega
  | succ f ih =>
    intro n hn _
    unfold decF
    by_cases h : n < 10
    · rw [if_pos h]
      have := dig_toNat n h
      refine ⟨?_, by simp, by simp, fun b hb => ?_⟩
      · simp only [valD, List.foldl_cons, List.foldl_nil, this]; omega
      · rw [List.mem_singleton.1 hb]
        simp only [digC, this, decide_eq_true_eq]
        omega
    · rw [if_neg h]
      have hf : 1 ≤ f := by
        rcases Nat.eq_zero_or_pos f with h0 | h0
        · subst h0; simp at hn; omega
        · exact h0
      have hd : n / 10 < 10 ^ f := by
        rw [Nat.pow_succ] at hn
        omega
      obtain ⟨h1, h2, h3, h4⟩ := ih (n / 10) hd hf
      have := dig_toNat (n % 10) (by omega)
      refine ⟨?_, by simp, by simp; omega, fun b hb => ?_⟩
      · rw [valD_snoc', h1, this]
        omega
      · rcases List.mem_append.1 hb with hb | hb
        · exact h4 b hb
        · rw [List.mem_singleton.1 hb]
          simp only [digC, this, decide_eq_true_eq]
          omega
theorem dec_ok (n : Nat) (h : n < 10000000000) : valD (dec n) = n ∧ numOK (dec n) = true := by
  obtain ⟨h1, h2, h3, h4⟩ := decF_ok 10 n (by simpa using h) (by omega)
  refine ⟨h1, ?_⟩
  unfold dec
  simp only [numOK, Bool.and_eq_true, decide_eq_true_eq, List.all_eq_true]
  exact ⟨⟨h2, h3⟩, h4⟩
theorem decF_more : ∀ (f g n : Nat), n < 10 ^ f → 1 ≤ f → f ≤ g → decF g n = decF f n := by
  intro f
  induction f with
  | zero => intro g n _ h; omega
  | succ f ih =>
    intro g n hn _ hg
    cases g with
    | zero => omega
    | succ g =>
      unfold decF
      by_cases h : n < 10
      · rw [if_pos h, if_pos h]
      · rw [if_neg h, if_neg h]
        have hf : 1 ≤ f := by
          rcases Nat.eq_zero_or_pos f with h0 | h0
          · subst h0; simp at hn; omega
          · exact h0
        rw [ih g (n / 10) (by rw [Nat.pow_succ] at hn; omega) hf (by omega)]
theorem dec_small (n : Nat) (h : n < 10) : dec n = [UInt8.ofNat (48 + n)] := by
  unfold dec decF
  rw [if_pos h]

/-- Which of n things a number speaks of. -/
def pickI (c n : Int) : Int := if c < 0 then (-(c + 1)) % n else c % n
theorem pickI_bd (c n : Int) (h : 0 < n) : 0 ≤ pickI c n ∧ pickI c n < n := by
  unfold pickI
  split
  · exact ⟨Int.emod_nonneg _ (by omega), Int.emod_lt_of_pos _ h⟩
  · exact ⟨Int.emod_nonneg _ (by omega), Int.emod_lt_of_pos _ h⟩

set_option maxRecDepth 100000 in
set_option maxHeartbeats 1000000 in
theorem pick_any (c n : Int) (w : World) (h0 : -9223372036854775808 ≤ c) (h1 : c ≤ 9223372036854775807) (hn : 0 < n) (hn1 : n ≤ 4294967296) :
    Calls Tryd.prog 15 #[.int .i64 c, .int .i64 n] w fun e' w' => e' = .returned (.int .i64 (pickI c n)) ∧ w' = w := by
  have hb := pickI_bd c n hn
  have hn0 : ¬ n = 0 := by omega
  by_cases hc : c < 0
  · have ht : (-(c + 1)).tmod n = pickI c n := by
      unfold pickI
      rw [if_pos hc, Int.tmod_eq_emod_of_nonneg (by omega)]
    generalize pickI c n = r at *
    go_enter Tryd.func15, Tryd.ntmps15
    go_wp2
    go_ret
    exact ⟨by go_num, rfl⟩
  · have ht : c.tmod n = pickI c n := by
      unfold pickI
      rw [if_neg hc, Int.tmod_eq_emod_of_nonneg (by omega)]
    generalize pickI c n = r at *
    go_enter Tryd.func15, Tryd.ntmps15
    go_wp2
    go_ret
    exact ⟨by go_num, rfl⟩
end Go.Proofs.YtmmflekajbeamaaDoor

namespace Go.Proofs.YtmmflekajbeamaaDoor
open Go.RowKit

def bya (l : List UInt8) : ByteArray := ⟨l.toArray⟩
theorem bya_size (l : List UInt8) : (bya l).size = l.length := by simp [bya, ByteArray.size]
theorem bya_app (a b : List UInt8) : bya a ++ bya b = bya (a ++ b) := by
  apply ByteArray.ext
  simp [bya]
theorem bya_list (l : List UInt8) : (bya l).data.toList = l := by simp [bya]

set_option maxRecDepth 100000 in
set_option maxHeartbeats 1000000 in
theorem digits_one (n : Nat) (w : World) (hn : n < 10) :
    Calls Tryd.prog 47 #[.int .i64 n] w fun e' w' => e' = .returned (.string (bya [UInt8.ofNat (48 + n)])) ∧ Below w.heap.size w w' := by
  have hn' : (n : Int) < 10 := by omega
  have kc : (convert 76 9 (.slice (some ⟨w.heap.size, 0, none⟩) 1 1)).run Tryd.prog (w.alloc (.cells #[.int .u8 (48 + (n : Int))] 5)) = .ok (.string (bya [UInt8.ofNat (48 + n)])) (w.alloc (.cells #[.int .u8 (48 + (n : Int))] 5)) := by
    refine run_convert_bytes_back _ _ _ 5 ⟨w.heap.size, 0, none⟩ 1 [UInt8.ofNat (48 + n)] Tryd.underlying76 Tryd.underlying5 Tryd.underlying9 (fun j hj => ?_)
    match j, hj with
    | 0, _ =>
      show (w.alloc _).cell? ⟨w.heap.size, 0, none⟩ = some (.int .u8 ((UInt8.ofNat (48 + n)).toNat : Int))
      rw [World.cell?_alloc_at (hn := rfl), dig_toNat n hn]
      simp
  have HB : Hid (Below w.heap.size w (w.alloc (.cells #[.int .u8 (48 + (n : Int))] 5))) := (Below.refl _ _).alloc (Nat.le_refl _) _
  generalize bya [UInt8.ofNat (48 + n)] = D at *
  go_enter Tryd.func47, Tryd.ntmps47
  go_wp2_with fail
  go_ret
  exact ⟨rfl, HB.out⟩

set_option maxRecDepth 100000 in
set_option maxHeartbeats 1000000 in
theorem digits_go : ∀ (f n : Nat) (w : World), n < 10 ^ f → 1 ≤ f → f ≤ 10 →
    Calls Tryd.prog 47 #[.int .i64 n] w fun e' w' => e' = .returned (.string (bya (decF f n))) ∧ Below w.heap.size w w' := by
  intro f
  induction f with
  | zero => intro n w _ h; omega
  | succ f ih =>
    intro n w hn _ hf
    by_cases h : n < 10
    · unfold decF
      rw [if_pos h]
      exact digits_one n w h
    · have h' : ¬ (n : Int) < 10 := by omega
      have hf1 : 1 ≤ f := by
        rcases Nat.eq_zero_or_pos f with h0 | h0
        · subst h0; simp at hn; omega
        · exact h0
      have hd : n / 10 < 10 ^ f := by
        rw [Nat.pow_succ] at hn
        omega
      have H1 := hide (ih (n / 10) w hd hf1 (by omega))
      have H2 := hide (fun w' => digits_one (n % 10) w' (by omega))
      have HE : Hid (bya (decF f (n / 10)) ++ bya [UInt8.ofNat (48 + n % 10)] = bya (decF (f + 1) n)) := by
        unfold Hid
        rw [decF, if_neg h, bya_app]
      have e1 : (n : Int).tdiv 10 = ((n / 10 : Nat) : Int) := by rw [Int.tdiv_eq_ediv_of_nonneg (by omega)]; omega
      have e2 : (n : Int).tmod 10 = ((n % 10 : Nat) : Int) := by rw [Int.tmod_eq_emod_of_nonneg (by omega)]; omega
      have hb : n < 10000000000 := Nat.lt_of_lt_of_le hn (by
        have : 10 ^ (f + 1) ≤ 10 ^ 10 := Nat.pow_le_pow_right (by omega) hf
        simpa using this)
      have hq : n / 10 < 10000000000 := by omega
      have hr : n % 10 < 10 := by omega
      have z1 : (bya (decF f (n / 10))).size ≤ 10 := by rw [bya_size]; have := (decF_ok f (n / 10) hd hf1).2.2.1; omega
      have z2 : (bya [UInt8.ofNat (48 + n % 10)]).size = 1 := by rw [bya_size]; rfl
      generalize bya (decF (f + 1) n) = D at *
      generalize bya (decF f (n / 10)) = D1 at *
      generalize bya [UInt8.ofNat (48 + n % 10)] = D2 at *
      generalize n / 10 = q at *
      generalize n % 10 = r at *
      clear ih hn hd hf
      go_enter Tryd.func47, Tryd.ntmps47
      go_wp2_with fail
      refine (unhide H1).mono ?_
      rintro e w1 ⟨rfl, hb1⟩
      go_wp2_with fail
      refine (unhide H2 _).mono ?_
      rintro e w2 ⟨rfl, hb2⟩
      have HB2 := hide (hb1.trans (hb2.mono hb1.size))
      clear hb1 hb2
      go_wp2_with fail
      go_ret
      rw [HE.out]
      exact ⟨rfl, HB2.out⟩
theorem digits_any (n : Nat) (w : World) (h : n < 10000000000) :
    Calls Tryd.prog 47 #[.int .i64 n] w fun e' w' => e' = .returned (.string (bya (dec n))) ∧ Below w.heap.size w w' :=
  digits_go 10 n w (by simpa using h) (by omega) (by omega)
theorem dec_len (n : Nat) (h : n < 10000000000) : 1 ≤ (dec n).length ∧ (dec n).length ≤ 10 := by
  obtain ⟨_, h2, h3, _⟩ := decF_ok 10 n (by simpa using h) (by omega)
  exact ⟨h2, h3⟩
end Go.Proofs.YtmmflekajbeamaaDoor

namespace Go.Proofs.YtmmflekajbeamaaDoor
open Go.RowKit

theorem byte_str (w : World) (q : Nat) : (convert 76 9 (.slice (some ⟨w.heap.size, 0, none⟩) 1 1)).run Tryd.prog (w.alloc (.cells #[.int .u8 ((q : Int) % 256)] 5)) = .ok (.string (bya [UInt8.ofNat (q % 256)])) (w.alloc (.cells #[.int .u8 ((q : Int) % 256)] 5)) := by
  refine run_convert_bytes_back _ _ _ 5 ⟨w.heap.size, 0, none⟩ 1 [UInt8.ofNat (q % 256)] Tryd.underlying76 Tryd.underlying5 Tryd.underlying9 (fun j hj => ?_)
  match j, hj with
  | 0, _ =>
    show (w.alloc _).cell? ⟨w.heap.size, 0, none⟩ = some (.int .u8 ((UInt8.ofNat (q % 256)).toNat : Int))
    rw [World.cell?_alloc_at (hn := rfl), UInt8.toNat_ofNat', Nat.mod_mod]
    simp
theorem numB_succ (k v : Nat) : bya [UInt8.ofNat (v / 256 ^ k % 256)] ++ bya (numB k v) = bya (numB (k + 1) v) := by rw [bya_app]; rfl

set_option maxRecDepth 100000 in
set_option maxHeartbeats 1000000 in
theorem number_ref (v n : Nat) (w : World) (hn : n ≤ 8) (hv : v < 9223372036854775808) :
    Calls Tryd.prog 94 #[.int .i64 (v : Int), .int .i64 (n : Int)] w fun e' w' => e' = .returned (.string (bya (numB n v))) ∧ Below w.heap.size w w' := by
  go_enter Tryd.func94, Tryd.ntmps94
  go_wp2_with fail
  go_loopw [0, 5, 6] (fun x s i wr => ∃ k : Nat, k ≤ n ∧ i = .int .i64 k ∧ s = .string (bya (numB k v)) ∧ x = .int .i64 ((v / 256 ^ k : Nat) : Int) ∧ Below w.heap.size w wr) (fun _ _ i _ => n - (intOf i).toNat)
  case atStart => exact ⟨0, Nat.zero_le _, rfl, rfl, by simp, Below.refl _ _⟩
  case round =>
    obtain ⟨k, hk, rfl, rfl, rfl, hbl⟩ := hrel
    have HBl := hide hbl
    have hwz := hbl.size
    by_cases hlt : k < n
    · have hlt' : (k : Int) < (n : Int) := by omega
      have hq : v / 256 ^ k < 9223372036854775808 := Nat.lt_of_le_of_lt (Nat.div_le_self _ _) hv
      have HE := hide (numB_succ k v)
      have HQ : Hid (v / 256 ^ (k + 1) = v / 256 ^ k / 256) := by unfold Hid; rw [Nat.pow_succ, Nat.div_div_eq_div_mul]
      have kc := byte_str wr (v / 256 ^ k)
      have z1 : (bya (numB k v)).size ≤ 8 := by rw [bya_size, numB_len]; omega
      have z2 : (bya [UInt8.ofNat (v / 256 ^ k % 256)]).size ≤ 8 := by rw [bya_size]; exact Nat.le_of_ble_eq_true rfl
      generalize bya (numB k v) = D1 at *
      generalize bya [UInt8.ofNat (v / 256 ^ k % 256)] = D2 at *
      generalize v / 256 ^ k = q at *
      clear hbl
      go_wp2_with fail
      refine ⟨⟨k + 1, by omega, by go_num, ?_, ?_, HBl.out.alloc hwz _⟩, by simp [intOf]; omega⟩
      · rw [HE.out]
      · rw [HQ.out]; go_num
    · have hlt' : ¬ (k : Int) < (n : Int) := by omega
      obtain rfl : k = n := by omega
      clear hbl
      go_wp2_with fail
      go_ret
      exact ⟨rfl, HBl.out⟩

set_option maxRecDepth 100000 in
set_option maxHeartbeats 1000000 in
theorem constant_ref (x : List UInt8) (w : World) (hx : 0 < x.length) (hl : x.length ≤ 100000) :
    Calls Tryd.prog 159 #[.string (bya x)] w fun e' w' => e' = .returned (.bool (isCon x)) ∧ w' = w := by
  have hz : (bya x).size = x.length := bya_size x
  have hE : ((bt (bya x) 0 : Int) == 35) = isCon x := by
    unfold isCon bt bya
    match x, hx with
    | c :: t, _ =>
      show (((c.toNat : Nat) : Int) == 35) = (c == 35)
      rw [Bool.eq_iff_iff, beq_iff_eq, beq_iff_eq, ← UInt8.toNat_inj]
      show _ ↔ c.toNat = 35
      omega
  have HE := hide hE
  have h0 : (0 : Int) < ((bya x).size : Int) := by omega
  have h0n : 0 < (bya x).size := by omega
  clear hE
  generalize bya x = D at *
  have hg := bt_get D 0 h0n
  go_enter Tryd.func159, Tryd.ntmps159
  go_wp2_with fail
  go_ret
  exact ⟨ret_bool HE.out, rfl⟩
theorem value_x (x : List UInt8) : beN (bya x) 1 4 = valX x := rfl

set_option maxRecDepth 100000 in
set_option maxHeartbeats 2000000 in
theorem joined_ref (op : Nat) (x y : List UInt8) (m : Nat) (w : World) (k2 : 2 ≤ op) (k5 : op ≤ 5) (hx : XS m x) (hy : XS m y) (hm : m ≤ 40000) :
    Calls Tryd.prog 129 #[.int .i64 (op : Int), .string (bya x), .string (bya y)] w fun e' w' => e' = .returned (.string (bya (jnS op x y))) ∧ Below w.heap.size w w' := by
  have hxl : 0 < x.length := by rcases hx.2 with ⟨v, _, rfl⟩ | ⟨_, h⟩; exact Nat.zero_lt_succ _; exact h
  have hyl : 0 < y.length := by rcases hy.2 with ⟨v, _, rfl⟩ | ⟨_, h⟩; exact Nat.zero_lt_succ _; exact h
  have hxm := hx.1; have hym := hy.1
  have HCx := hide (fun w' => constant_ref x w' hxl (by omega))
  have HCy := hide (fun w' => constant_ref y w' hyl (by omega))
  have z1 : (bya x).size ≤ 40000 := by rw [bya_size]; omega
  have z2 : (bya y).size ≤ 40000 := by rw [bya_size]; omega
  by_cases hc : isCon x = true ∧ isCon y = true
  · obtain ⟨cx, cy⟩ := hc
    obtain ⟨vx, hvx, ex⟩ : ∃ v, v < 4294967296 ∧ x = sCon v := by rcases hx.2 with h | ⟨h, _⟩; exact h; rw [cx] at h; cases h
    obtain ⟨vy, hvy, ey⟩ : ∃ v, v < 4294967296 ∧ y = sCon v := by rcases hy.2 with h | ⟨h, _⟩; exact h; rw [cy] at h; cases h
    have HV1 := hide (fun w' => value_any (bya x) 1 4 w' (by decide) (by rw [bya_size, ex, sCon_len]; decide) (by omega))
    have HV2 := hide (fun w' => value_any (bya y) 1 4 w' (by decide) (by rw [bya_size, ey, sCon_len]; decide) (by omega))
    have e1 : beN (bya x) 1 4 = vx := by rw [value_x, ex, valX_con _ hvx]
    have e2 : beN (bya y) 1 4 = vy := by rw [value_x, ey, valX_con _ hvy]
    rw [e1] at HV1
    rw [e2] at HV2
    have HW := hide (fun w' => works_any op vx vy w' (by omega) (by omega) (by omega) (by omega) (by omega) (by omega))
    have hwb := wk_bd op vx vy (by omega) (by omega) (by omega) (by omega)
    have HJ : Hid (bya (jnS op x y) = (⟨#[35]⟩ : ByteArray) ++ bya (numB 4 (wk op vx vy).toNat)) := by
      unfold Hid jnS
      rw [if_pos ⟨cx, cy⟩, ex, ey, valX_con _ hvx, valX_con _ hvy, show (⟨#[35]⟩ : ByteArray) = bya [35] from rfl, bya_app]
      rfl
    obtain ⟨c, hcc⟩ := Int.eq_ofNat_of_zero_le hwb.1
    rw [hcc] at HW HJ
    rw [Int.toNat_natCast] at HJ
    have HN := hide (fun w' => number_ref c 4 w' (by decide) (by omega))
    have z3 : (bya (numB 4 c)).size ≤ 4 := by rw [bya_size, numB_len]; decide
    rw [cx] at HCx
    rw [cy] at HCy
    generalize bya (numB 4 c) = D3 at *
    generalize bya x = D1 at *
    generalize bya y = D2 at *
    generalize bya (jnS op x y) = D at *
    clear ex ey e1 e2 hx hy hxm hym hxl hyl cx cy hwb hcc
    go_enter Tryd.func129, Tryd.ntmps129
    go_wp2_with fail
    refine (unhide HCx _).mono ?_
    rintro e w' ⟨rfl, hw⟩
    obtain rfl := hw.symm
    go_wp2_with fail
    refine (unhide HCy _).mono ?_
    rintro e w' ⟨rfl, hw⟩
    obtain rfl := hw.symm
    go_wp2_with fail
    refine (unhide HV1 _).mono ?_
    rintro e w' ⟨rfl, hw⟩
    obtain rfl := hw.symm
    go_wp2_with fail
    refine (unhide HV2 _).mono ?_
    rintro e w' ⟨rfl, hw⟩
    obtain rfl := hw.symm
    go_wp2_with fail
    refine (unhide HW _).mono ?_
    rintro e w' ⟨rfl, hw⟩
    obtain rfl := hw.symm
    go_wp2_with fail
    refine (unhide HN _).mono ?_
    rintro e w1 ⟨rfl, hb⟩
    have HB := hide hb
    clear hb
    go_wp2_with fail
    go_ret
    rw [HJ.out]
    exact ⟨rfl, HB.out⟩
  · have HJ : Hid (bya (jnS op x y) = (((⟨#[40]⟩ : ByteArray) ++ bya (numB 1 op)) ++ bya x) ++ bya y ++ (⟨#[41]⟩ : ByteArray)) := by
      unfold Hid jnS
      rw [if_neg hc, show (⟨#[40]⟩ : ByteArray) = bya [40] from rfl, show (⟨#[41]⟩ : ByteArray) = bya [41] from rfl, bya_app, bya_app, bya_app, bya_app]
      unfold sOp
      simp
    have HN := hide (fun w' => number_ref op 1 w' (by decide) (by omega))
    have z3 : (bya (numB 1 op)).size ≤ 4 := by rw [bya_size, numB_len]; decide
    have hcc : isCon x = false ∨ (isCon x = true ∧ isCon y = false) := by
      cases h1 : isCon x
      · exact .inl rfl
      · cases h2 : isCon y
        · exact .inr ⟨rfl, rfl⟩
        · exact absurd ⟨h1, h2⟩ hc
    generalize bya (numB 1 op) = D3 at *
    generalize bya x = D1 at *
    generalize bya y = D2 at *
    generalize bya (jnS op x y) = D at *
    clear hx hy hxm hym hxl hyl hc
    rcases hcc with h1 | ⟨h1, h2⟩
    · rw [h1] at HCx
      clear h1
      go_enter Tryd.func129, Tryd.ntmps129
      go_wp2_with fail
      refine (unhide HCx _).mono ?_
      rintro e w' ⟨rfl, hw⟩
      obtain rfl := hw.symm
      go_wp2_with fail
      refine (unhide HCy _).mono ?_
      rintro e w' ⟨rfl, hw⟩
      obtain rfl := hw.symm
      go_wp2_with fail
      refine (unhide HN _).mono ?_
      rintro e w1 ⟨rfl, hb⟩
      have HB := hide hb
      clear hb
      go_wp2_with fail
      go_ret
      rw [HJ.out]
      exact ⟨rfl, HB.out⟩
    · rw [h1] at HCx
      rw [h2] at HCy
      clear h1 h2
      go_enter Tryd.func129, Tryd.ntmps129
      go_wp2_with fail
      refine (unhide HCx _).mono ?_
      rintro e w' ⟨rfl, hw⟩
      obtain rfl := hw.symm
      go_wp2_with fail
      refine (unhide HCy _).mono ?_
      rintro e w' ⟨rfl, hw⟩
      obtain rfl := hw.symm
      go_wp2_with fail
      refine (unhide HN _).mono ?_
      rintro e w1 ⟨rfl, hb⟩
      have HB := hide hb
      clear hb
      go_wp2_with fail
      go_ret
      rw [HJ.out]
      exact ⟨rfl, HB.out⟩

set_option maxRecDepth 100000 in
set_option maxHeartbeats 2000000 in
theorem loaded_ref (x : List UInt8) (k m : Nat) (w : World) (hk : k ≤ 4095) (hx : XS m x) (hm : m ≤ 40000) :
    Calls Tryd.prog 128 #[.string (bya x), .int .i64 (k : Int)] w fun e' w' => e' = .returned (.string (bya (ldS x k))) ∧ Below w.heap.size w w' := by
  have hxl : 0 < x.length := by rcases hx.2 with ⟨v, _, rfl⟩ | ⟨_, h⟩; exact Nat.zero_lt_succ _; exact h
  have hxm := hx.1
  have HCx := hide (fun w' => constant_ref x w' hxl (by omega))
  have z1 : (bya x).size ≤ 40000 := by rw [bya_size]; omega
  by_cases hc : isCon x = true
  · obtain ⟨vx, hvx, ex⟩ : ∃ v, v < 4294967296 ∧ x = sCon v := by rcases hx.2 with h | ⟨h, _⟩; exact h; rw [hc] at h; cases h
    have HV1 := hide (fun w' => value_any (bya x) 1 4 w' (by decide) (by rw [bya_size, ex, sCon_len]; decide) (by omega))
    have e1 : beN (bya x) 1 4 = vx := by rw [value_x, ex, valX_con _ hvx]
    rw [e1] at HV1
    have HJ : Hid (bya (ldS x k) = (⟨#[91]⟩ : ByteArray) ++ ((⟨#[35]⟩ : ByteArray) ++ bya (numB 4 ((vx + k) % 128))) ++ bya (numB 2 0) ++ (⟨#[93]⟩ : ByteArray)) := by
      unfold Hid ldS
      rw [if_pos hc, ex, valX_con _ hvx, show (⟨#[91]⟩ : ByteArray) = bya [91] from rfl, show (⟨#[35]⟩ : ByteArray) = bya [35] from rfl, show (⟨#[93]⟩ : ByteArray) = bya [93] from rfl, bya_app, bya_app, bya_app, bya_app]
      unfold sLd sCon
      simp
    have e2 : ((vx : Int) + (k : Int)) % 128 = (((vx + k) % 128 : Nat) : Int) := by omega
    have HN1 := hide (fun w' => number_ref ((vx + k) % 128) 4 w' (by decide) (by omega))
    have HN2 : Hid (∀ w', Calls Tryd.prog 94 #[.int .i64 0, .int .i64 2] w' fun e' w'' => e' = .returned (.string (bya (numB 2 0))) ∧ Below w'.heap.size w' w'') := fun w' => number_ref 0 2 w' (by decide) (by omega)
    rw [← e2] at HN1
    have z3 : (bya (numB 4 ((vx + k) % 128))).size ≤ 4 := by rw [bya_size, numB_len]; decide
    have z4 : (bya (numB 2 0)).size ≤ 4 := by rw [bya_size, numB_len]; decide
    rw [hc] at HCx
    generalize bya (numB 4 ((vx + k) % 128)) = D3 at *
    generalize bya (numB 2 0) = D4 at *
    generalize bya x = D1 at *
    generalize bya (ldS x k) = D at *
    clear ex e1 e2 hx hxm hxl hc
    go_enter Tryd.func128, Tryd.ntmps128
    go_wp2_with fail
    refine (unhide HCx _).mono ?_
    rintro e w' ⟨rfl, hw⟩
    obtain rfl := hw.symm
    go_wp2_with fail
    refine (unhide HV1 _).mono ?_
    rintro e w' ⟨rfl, hw⟩
    obtain rfl := hw.symm
    go_wp2_with fail
    refine (unhide HN1 _).mono ?_
    rintro e w1 ⟨rfl, hb⟩
    have HB := hide hb
    have hz := hb.size
    clear hb
    go_wp2_with fail
    refine (unhide HN2 _).mono ?_
    rintro e w2 ⟨rfl, hb⟩
    have HB2 := hide (HB.out.trans (hb.mono hz))
    clear hb
    go_wp2_with fail
    go_ret
    rw [HJ.out]
    exact ⟨rfl, HB2.out⟩
  · have hcf : isCon x = false := by simpa using hc
    have HJ : Hid (bya (ldS x k) = (⟨#[91]⟩ : ByteArray) ++ bya x ++ bya (numB 2 k) ++ (⟨#[93]⟩ : ByteArray)) := by
      unfold Hid ldS
      rw [if_neg hc, show (⟨#[91]⟩ : ByteArray) = bya [91] from rfl, show (⟨#[93]⟩ : ByteArray) = bya [93] from rfl, bya_app, bya_app, bya_app]
      unfold sLd
      simp
    have HN2 := hide (fun w' => number_ref k 2 w' (by decide) (by omega))
    have z4 : (bya (numB 2 k)).size ≤ 4 := by rw [bya_size, numB_len]; decide
    rw [hcf] at HCx
    generalize bya (numB 2 k) = D4 at *
    generalize bya x = D1 at *
    generalize bya (ldS x k) = D at *
    clear hx hxm hxl hc hcf
    go_enter Tryd.func128, Tryd.ntmps128
    go_wp2_with fail
    refine (unhide HCx _).mono ?_
    rintro e w' ⟨rfl, hw⟩
    obtain rfl := hw.symm
    go_wp2_with fail
    refine (unhide HN2 _).mono ?_
    rintro e w2 ⟨rfl, hb⟩
    have HB2 := hide hb
    clear hb
    go_wp2_with fail
    go_ret
    rw [HJ.out]
    exact ⟨rfl, HB2.out⟩
end Go.Proofs.YtmmflekajbeamaaDoor

namespace Go.Proofs.YtmmflekajbeamaaDoor
open Go.RowKit

def u8C (l : List UInt8) : List Value := l.map fun b => .int .u8 (b.toNat : Int)
theorem u8C_app (l m : List UInt8) : u8C (l ++ m) = u8C l ++ u8C m := by simp [u8C]
theorem infoU8 : ∃ i, Tryd.prog.info? 5 = some i ∧ i.zero = some (.int .u8 0) ∧ i.size = 1 ∧ i.bytes = 1 := by
  have h : (Tryd.prog.info? 5).map (fun i => (i.zero, i.size, i.bytes)) = some (some (.int .u8 0), 1, 1) := by kernel_rfl
  cases hq : Tryd.prog.info? 5 with
  | none => rw [hq] at h; cases h
  | some i =>
    rw [hq] at h
    simp only [Option.map_some, Option.some.injEq, Prod.mk.injEq] at h
    exact ⟨i, rfl, h.1, h.2.1, h.2.2⟩
theorem byte_of (v m : Nat) : ((UInt8.ofNat (v / 256 ^ m % 256)).toNat : Int) = ((v / 256 ^ m : Nat) : Int) % 256 := by
  rw [UInt8.toNat_ofNat', Nat.mod_mod]; simp
theorem pow_256 (m : Nat) : 256 ^ m = 2 ^ (8 * m) := by rw [Nat.pow_mul]
/-- A slice of bytes as a string. -/
theorem u8_str {w : World} {B : Nat} {v : Value} {l : List UInt8} (h : w.ownsRow B 5 1 v l.length (u8C l)) : (convert 76 9 v).run Tryd.prog w = .ok (.string (bya l)) w := by
  by_cases h0 : l.length = 0
  · obtain rfl : l = [] := List.length_eq_zero_iff.1 h0
    rcases h.2 with ⟨rfl, _⟩ | ⟨g, cap, cur, rfl, _⟩
    · exact Lib.run_convert_nil_bytes _ _ _ 5 _ Tryd.underlying76 Tryd.underlying5 Tryd.underlying9
    · exact run_convert_bytes_back _ _ _ 5 ⟨g, 0, none⟩ cap [] Tryd.underlying76 Tryd.underlying5 Tryd.underlying9 (fun j hj => by cases hj)
  · obtain ⟨g, cap, rfl, _, hgl⟩ := h.form (by omega)
    refine run_convert_bytes_back _ _ _ 5 ⟨g, 0, none⟩ cap l Tryd.underlying76 Tryd.underlying5 Tryd.underlying9 (fun j hj => ?_)
    have e : (⟨g, 0, none⟩ : Addr).add j = ⟨g, j, none⟩ := by simp [Addr.add]; omega
    rw [e, h.cellAt _ (by omega)]
    simp [u8C, List.getElem?_eq_getElem hj]

set_option maxRecDepth 100000 in
set_option maxHeartbeats 2000000 in
theorem numAppend_any (B : Nat) (bv : Value) (xs : List UInt8) (v k : Nat) (w : World) (hB : B ≤ w.heap.size) (hb : w.ownsRow B 5 1 bv xs.length (u8C xs)) (hx : xs.length ≤ 100000) (hk8 : k ≤ 7) :
    Calls Tryd.prog 109 #[bv, .int .i64 (v : Int), .int .i64 (k : Int)] w fun e' w' => ∃ v', e' = .returned v' ∧ w'.ownsRow B 5 1 v' (xs ++ numB k v).length (u8C (xs ++ numB k v)) ∧ Below B w w' ∧ ∀ g, g < w.heap.size → bv.ownBlock ≠ some g → w'.heap[g]? = w.heap[g]? := by
  obtain ⟨inf, hinf, hz, hsz1, hby⟩ := infoU8
  have HInf := hide hinf; have HZ := hide hz; have HSz := hide hsz1; have HBy := hide hby
  clear hinf hz hsz1 hby
  obtain ⟨ba, bc, rfl⟩ := owns_len hb
  have HO := hide hb
  clear hb
  go_enter Tryd.func109, Tryd.ntmps109
  go_wp2_with fail
  go_loopw [0, 7] (fun x i wr => ∃ (m : Nat) (D : List UInt8), m ≤ k ∧ i = .int .i64 ((m : Int) - 1) ∧ Hid (D ++ numB m v = numB k v) ∧ Hid (wr.ownsRow B 5 1 x (xs ++ D).length (u8C (xs ++ D))) ∧ Hid (Below B w wr) ∧ Hid (∀ g, g < w.heap.size → (Value.slice ba xs.length bc).ownBlock ≠ some g → wr.heap[g]? = w.heap[g]? ∧ x.ownBlock ≠ some g)) (fun _ i _ => ((intOf i) + 1).toNat)
  case atStart => exact ⟨k, [], Nat.le_refl _, rfl, rfl, by rw [List.append_nil]; exact HO.out, Below.refl _ _, fun g _ h => ⟨rfl, h⟩⟩
  case round =>
    obtain ⟨m, D, hm, rfl, HD, HOw, HBl, HKp⟩ := hrel
    obtain ⟨va, vc, hv'⟩ := owns_len HOw.out
    subst hv'
    have hwz := HBl.out.size
    have hDl : D.length + m = k := by have := congrArg List.length HD.out; rw [List.length_append, numB_len, numB_len] at this; exact this
    cases m with
    | zero =>
      have HE : Hid (xs ++ D = xs ++ numB k v) := by unfold Hid; rw [← HD.out]; simp [numB]
      go_wp2_with fail
      go_ret
      refine ⟨_, rfl, ?_, HBl.out, fun g hg hn => (HKp.out g hg hn).1⟩
      rw [← HE.out]
      exact HOw.out
    | succ m =>
      have hi : ((m + 1 : Nat) : Int) - 1 = (m : Int) := by omega
      have HN : Hid ((D ++ [UInt8.ofNat (v / 256 ^ m % 256)]) ++ numB m v = numB k v) := by unfold Hid; rw [← HD.out]; simp [numB]
      have hm7 : (m : Int) < 7 := by omega
      have hlen : (xs ++ D).length + 1 = (xs ++ (D ++ [UInt8.ofNat (v / 256 ^ m % 256)])).length := by simp; omega
      have HL := hide hlen
      have hxl : (xs ++ D).length ≤ 200000 := by rw [List.length_append]; omega
      have HCs : Hid (u8C (xs ++ (D ++ [UInt8.ofNat (v / 256 ^ m % 256)])) = u8C (xs ++ D) ++ [.int .u8 ((v : Int) / 2 ^ (8 * m) % 256)]) := by
        unfold Hid
        rw [← List.append_assoc, u8C_app]
        show _ ++ [Value.int .u8 ((UInt8.ofNat (v / 256 ^ m % 256)).toNat : Int)] = _
        rw [byte_of, pow_256]; simp
      rw [hi]
      clear hi hlen
      generalize (xs ++ D).length = n at *
      go_wp2_with (at_builtin; refine wpList_append_lies _ rfl _ _ 76 rfl B 5 inf _ 1 1 Tryd.underlying76 HInf.out HZ.out HSz.out HBy.out rfl (by decide) (.slice va n vc) n (u8C (xs ++ D)) rfl (HOw.out.alloc _) ⟨wr.heap.size, 0, none⟩ 1 1 [.int .u8 ((v : Int) / 2 ^ (8 * m) % 256)] rfl rfl (World.news_of_block (_root_.Go.heap_alloc_new wr _)) (fun u hu => by simp at hu; subst hu; rfl) (by decide) (by unfold maxLen; omega) (by omega) (by rw [size_alloc1]; omega) (wr.heap.size + 1) (by rw [size_alloc1]) ?_; intro g2' cap2 w3 hown2 hgr2 hat2 hlt2; have HO3 := hide hown2; have HGr := hide hgr2; have HAt := hide hat2; clear hown2 hgr2 hat2)
      refine ⟨⟨m, D ++ [UInt8.ofNat (v / 256 ^ m % 256)], by omega, by go_num, HN.out, ?_, ?_, ?_⟩, by simp [intOf]⟩
      · unfold Hid
        rw [← HL.out, HCs.out]
        exact HO3.out
      · exact (HBl.out.alloc (by omega) _).grown HGr.out (by rw [size_alloc1]; omega) (fun q hq => (row_lt HOw.out q hq).1)
      · intro g hg hn
        obtain ⟨k1, k2⟩ := HKp.out g hg hn
        refine ⟨((HGr.out.block _ (by rw [size_alloc1]; omega) (fun e => k2 e.symm)).trans (Below.heap_alloc wr _ _ (by omega))).trans k1, ?_⟩
        rcases HAt.out with h | h
        · intro e
          apply k2
          rw [h]
          exact e
        · intro e
          have : g2' = g := by simpa [Value.ownBlock] using e
          omega
end Go.Proofs.YtmmflekajbeamaaDoor

namespace Go.Proofs.YtmmflekajbeamaaDoor
open Go.RowKit

theorem planT_take {ps : List PutN} {k : Nat} {p : PutN} (h : ps[k]? = some p) : planT (ps.take (k + 1)) = planT (ps.take k) ++ putT p := by rw [take_snoc' h, planT_snoc]
theorem u8_of (n : Nat) (h : n < 256) : ((UInt8.ofNat n).toNat : Int) = (n : Int) := by
  rw [UInt8.toNat_ofNat']; omega
theorem cell_heap {w w' : World} {g : Nat} (i : Nat) (h : w'.heap[g]? = w.heap[g]?) : w'.cell? ⟨g, i, none⟩ = w.cell? ⟨g, i, none⟩ := by
  unfold World.cell?
  rw [h]
theorem cell_row {w : World} {g : Nat} {c : Array Value} {t : TypeId} (h : w.heap[g]? = some (.cells c t)) (i : Nat) : w.cell? ⟨g, i, none⟩ = c[i]? := by
  unfold World.cell?
  rw [h]; rfl
set_option maxRecDepth 100000 in
set_option maxHeartbeats 2000000 in
theorem planText_any (B : Nat) (pv : Value) (ps : List PutN) (w : World) (ho : w.ownsRow B 59 5 pv ps.length (putCs ps)) (hl : ps.length ≤ 8) (hw : ∀ p ∈ ps, okB p) :
    Calls Tryd.prog 99 #[pv] w fun e' w' => e' = .returned (.string (bya (planT ps))) ∧ Below w.heap.size w w' := by
  obtain ⟨inf, hinf, hz, hsz1, hby⟩ := infoU8
  have HInf := hide hinf; have HZ := hide hz; have HSz := hide hsz1; have HBy := hide hby
  clear hinf hz hsz1 hby
  obtain ⟨fa', fc', rfl⟩ := owns_len ho
  have HF := hide ho; have HW := hide hw
  have hl' : (ps.length : Int) ≤ 8 := by omega
  clear ho hw
  go_enter Tryd.func99, Tryd.ntmps99
  go_wp2_with fail
  go_loopw [3, 8] (fun v i wr => ∃ k : Nat, k ≤ ps.length ∧ i = .int .i64 k ∧ wr.ownsRow w.heap.size 5 1 v (planT (ps.take k)).length (u8C (planT (ps.take k))) ∧ Below w.heap.size w wr) (fun _ i _ => ps.length - (intOf i).toNat)
  case atStart => exact ⟨0, Nat.zero_le _, rfl, World.ownsRow_nil _ _ _ _, Below.refl _ _⟩
  case round =>
    obtain ⟨k, hk, rfl, hown, hbl⟩ := hrel
    obtain ⟨va, vc, hv⟩ := owns_len hown
    have HO := hide hown; have HBl := hide hbl
    have hwz := hbl.size
    have hTl : (planT (ps.take k)).length ≤ 64 := by rw [planT_len, List.length_take]; omega
    by_cases hlt : k < ps.length
    · have hlt' : (k : Int) < (ps.length : Int) := by omega
      obtain ⟨g, cap, hform, _, hgl⟩ := HF.out.form (by omega)
      cases hform
      have hx : ps[k]? = some ps[k] := List.getElem?_eq_getElem hlt
      have hok := HW.out ps[k] (List.getElem_mem _)
      obtain ⟨x0, x1, x2, x3, x4⟩ := put_cells (own_grow HF.out hbl) k ps[k] hx
      have HS := hide (planT_take hx)
      generalize ps[k] = p at *
      obtain ⟨p0, p1, p2, p3, p4⟩ := p
      obtain ⟨q1, q2, q3, q4, q5, q6, _⟩ := hok
      simp only at q1 q2 q3 q4 q5 q6 x0 x1 x2 x3 x4
      subst hv
      have q0' : (p0 : Int) < 256 := by omega
      have q1' : (p1 : Int) < 256 := by omega
      have q2' : (p2 : Int) < 256 := by omega
      have q3' : (p3 : Int) < 256 := by omega
      have HC4 : Hid (u8C (planT (ps.take k)) ++ [.int .u8 (p0 : Int), .int .u8 (p1 : Int), .int .u8 (p2 : Int), .int .u8 (p3 : Int)] = u8C (planT (ps.take k) ++ [UInt8.ofNat p0, UInt8.ofNat p1, UInt8.ofNat p2, UInt8.ofNat p3])) := by
        unfold Hid
        rw [u8C_app]
        simp only [u8C, List.map_cons, List.map_nil, u8_of p0 (by omega), u8_of p1 (by omega), u8_of p2 (by omega), u8_of p3 (by omega)]
      have HE : Hid (planT (ps.take (k + 1)) = (planT (ps.take k) ++ [UInt8.ofNat p0, UInt8.ofNat p1, UInt8.ofNat p2, UInt8.ofNat p3]) ++ numB 4 p4) := by
        unfold Hid
        rw [HS.out]
        simp [putT]
      have HL4 : Hid ((planT (ps.take k)).length + 4 = (planT (ps.take k) ++ [UInt8.ofNat p0, UInt8.ofNat p1, UInt8.ofNat p2, UInt8.ofNat p3]).length) := by unfold Hid; simp
      have HO' := hide (own_grow hown ((Below.refl _ _).alloc (Nat.le_refl _) (.cells #[.int .i64 (p0 : Int), .int .i64 (p1 : Int), .int .i64 (p2 : Int), .int .i64 (p3 : Int), .int .i64 (p4 : Int)] 59)))
      have HC : Hid (∀ w3, ((wr.alloc (.cells #[.int .i64 (p0 : Int), .int .i64 (p1 : Int), .int .i64 (p2 : Int), .int .i64 (p3 : Int), .int .i64 (p4 : Int)] 59)).alloc (.cells #[.int .u8 (p0 : Int), .int .u8 (p1 : Int), .int .u8 (p2 : Int), .int .u8 (p3 : Int)] 5)).grownBy w3 (Value.slice va (planT (ps.take k)).length vc).ownBlock → w3.cell? ⟨wr.heap.size, 4, none⟩ = some (.int .i64 (p4 : Int))) := fun w3 hg => by
        have hne : some wr.heap.size ≠ (Value.slice va (planT (ps.take k)).length vc).ownBlock := fun e => by have := (row_lt hown _ e.symm).2; omega
        rw [cell_heap 4 ((hg.block wr.heap.size (by rw [size_alloc1, size_alloc1]; omega) hne).trans (Below.heap_alloc _ _ _ (by rw [size_alloc1]; omega))), cell_row (_root_.Go.heap_alloc_new wr _)]
        rfl
      generalize planT (ps.take k) = T at *
      generalize T.length = n at *
      clear hown hbl HS hx
      go_wp2_with (at_builtin; refine wpList_append_lies _ rfl _ _ 76 rfl w.heap.size 5 inf _ 1 1 Tryd.underlying76 HInf.out HZ.out HSz.out HBy.out rfl (by decide) (.slice va n vc) n (u8C T) rfl (HO'.out.alloc _) ⟨wr.heap.size + 1, 0, none⟩ 4 4 [.int .u8 (p0 : Int), .int .u8 (p1 : Int), .int .u8 (p2 : Int), .int .u8 (p3 : Int)] rfl rfl (World.news_of_block (by rw [← size_alloc1]; exact _root_.Go.heap_alloc_new _ _)) (fun u hu => by simp at hu; rcases hu with rfl | rfl | rfl | rfl <;> rfl) (by decide) (by unfold maxLen; omega) (by omega) (by rw [size_alloc1, size_alloc1]; omega) (wr.heap.size + 1 + 1) (by rw [size_alloc1, size_alloc1]) ?_; intro g2' cap2 w3 hown2 hgr2 hat2 hlt2; have HO3 := hide hown2; have HGr := hide hgr2; have c4 := HC.out w3 hgr2; clear hown2 hgr2 hat2)
      have hz3 : wr.heap.size + 1 + 1 ≤ w3.heap.size := by have := HGr.out.size; rw [size_alloc1, size_alloc1] at this; exact this
      rw [HC4.out] at HO3
      rw [HL4.out] at HO3
      have HAp := hide (numAppend_any w.heap.size _ _ p4 4 w3 (by omega) HO3.out (by rw [← HL4.out]; omega) (by decide))
      rw [← HL4.out] at HAp
      have HB3 : Hid (Below w.heap.size w w3) := ((HBl.out.alloc hwz _).alloc (by rw [size_alloc1]; omega) _).grown HGr.out (by rw [size_alloc1, size_alloc1]; omega) (fun q hq => (row_lt HO'.out q hq).1)
      clear HO3 HGr
      refine (unhide HAp).mono ?_
      rintro e w4 ⟨v', rfl, b1, b2, b3⟩
      have HO4 := hide b1
      have HB4 : Hid (Below w.heap.size w w4) := HB3.out.trans b2
      clear b1 b2 b3
      go_wp2_with fail
      refine ⟨⟨k + 1, by omega, by go_num, ?_, HB4.out⟩, by simp [intOf]; omega⟩
      rw [HE.out]
      exact HO4.out
    · have hlt' : ¬ (k : Int) < (ps.length : Int) := by omega
      have hkn : k = ps.length := by omega
      subst hkn
      rw [List.take_length] at HO hv
      have kc := u8_str HO.out
      subst hv
      clear hown hbl
      go_wp2_with fail
      go_ret
      exact ⟨rfl, HBl.out⟩

def putZ (p : PutN) : List Int := [(p.kind : Int), (p.d : Int), (p.a : Int), (p.b : Int), (p.k : Int)]
/-- The last puts, as cells. -/
def lastZ (l : List PutN) : List Int := l.flatMap putZ
theorem lastZ_len (l : List PutN) : (lastZ l).length = l.length * 5 := by
  induction l with
  | nil => rfl
  | cons p l ih => simp [lastZ, putZ] at *; omega
theorem flat_atG {α β : Type} (f : α → List β) (m : Nat) (hf : ∀ a, (f a).length = m) : ∀ (l : List α) (k : Nat) (x : α), l[k]? = some x → ∀ j, j < m → (l.flatMap f)[k * m + j]? = (f x)[j]? := by
  intro l
  induction l with
  | nil => intro k x hk; simp at hk
  | cons a l ih =>
    intro k x hk j hj
    rw [List.flatMap_cons]
    match k, hk with
    | 0, hk =>
      simp at hk
      subst hk
      rw [Nat.zero_mul, Nat.zero_add, List.getElem?_append_left (by rw [hf]; exact hj)]
    | k + 1, hk =>
      rw [List.getElem?_append_right (by rw [hf, Nat.succ_mul]; omega), hf, show (k + 1) * m + j - m = k * m + j by rw [Nat.succ_mul]; omega]
      exact ih k x (by simpa using hk) j hj
theorem lastZ_get (l : List PutN) (r : Nat) (hr : r < l.length) (j : Nat) (hj : j < 5) : gz (lastZ l) (r * 5 + j) = (putZ (l.getD r zPut)).getD j 0 := by
  have hx : l[r]? = some (l.getD r zPut) := by rw [List.getD_eq_getElem?_getD, List.getElem?_eq_getElem hr]; rfl
  have := flat_atG putZ 5 (fun _ => rfl) l r (l.getD r zPut) hx j hj
  unfold gz lastZ
  rw [List.getD_eq_getElem?_getD (l := l.flatMap putZ), this, ← List.getD_eq_getElem?_getD]
theorem size190 : (Tryd.prog.info? 190).map (·.size) = some 40 := by kernel_rfl
theorem zero190 (w : World) : (zeroValue 190).run Tryd.prog w = .ok (.agg (S (lastZ (List.replicate 8 zPut)))) w := by kernel_rfl
end Go.Proofs.YtmmflekajbeamaaDoor
