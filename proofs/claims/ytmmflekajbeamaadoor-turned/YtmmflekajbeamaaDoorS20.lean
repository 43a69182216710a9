/-
  Sound: small functions of the law: number, value, isPlain, plains.
  perform: an instruction done on a machine that runs, an OP a theorem (halt, set, jump, turn).
  perform: an instruction done on a machine that runs, an OP a theorem (add, sub, xor, mul).
  perform: an instruction done on a machine that runs, an OP a theorem (load, store, same).
-/
import Derived.Test.YtmmflekajbeamaaDoorS19
import Derived.Test.YtmmflekajbeamaaDoorS17
import Derived.Test.YtmmflekajbeamaaDoorS05
namespace Go.Proofs.YtmmflekajbeamaaDoor
open Go.RowKit

set_option maxRecDepth 100000 in
set_option maxHeartbeats 1000000 in
theorem keepNumber_any (v n : Nat) (w : World) (hn : n ≤ 8) (hv : v < 9223372036854775808) :
    Calls Tryd.prog 36 #[.int .i64 (v : Int), .int .i64 (n : Int)] w fun e' w' => e' = .returned (.string (bya (numB n v))) ∧ Below w.heap.size w w' := by
  go_enter Tryd.func36, Tryd.ntmps36
  go_wp2_with fail
  go_loopw [0, 5, 6] (fun x s i wr => ∃ k : Nat, k ≤ n ∧ i = .int .i64 k ∧ s = .string (bya (numB k v)) ∧ x = .int .i64 ((v / 256 ^ k : Nat) : Int) ∧ Below w.heap.size w wr) (fun _ _ i _ => n - (intOf i).toNat)
  case atStart => exact ⟨0, Nat.zero_le _, rfl, rfl, by simp, Below.refl _ _⟩
  case round =>
    obtain ⟨k, hk, rfl, rfl, rfl, hbl⟩ := hrel
    have HBl := hide hbl
    have hwz := hbl.size
    by_cases hlt : k < n
    · have hlt' : (k : Int) < (n : Int) := by omega
      have hq : v / 256 ^ k < 9223372036854775808 := Nat.lt_of_le_of_lt (Nat.div_le_self _ _) hv
      have HE := hide (numB_succ k v)
      have HQ : Hid (v / 256 ^ (k + 1) = v / 256 ^ k / 256) := by unfold Hid; rw [Nat.pow_succ, Nat.div_div_eq_div_mul]
      have kc := byte_str wr (v / 256 ^ k)
      have z1 : (bya (numB k v)).size ≤ 8 := by rw [bya_size, numB_len]; omega
      have z2 : (bya [UInt8.ofNat (v / 256 ^ k % 256)]).size ≤ 8 := by rw [bya_size]; exact Nat.le_of_ble_eq_true rfl
      generalize bya (numB k v) = D1 at *
      generalize bya [UInt8.ofNat (v / 256 ^ k % 256)] = D2 at *
      generalize v / 256 ^ k = q at *
      clear hbl
      go_wp2_with fail
      refine ⟨⟨k + 1, by omega, by go_num, ?_, ?_, HBl.out.alloc hwz _⟩, by simp [intOf]; omega⟩
      · rw [HE.out]
      · rw [HQ.out]; go_num
    · have hlt' : ¬ (k : Int) < (n : Int) := by omega
      obtain rfl : k = n := by omega
      clear hbl
      go_wp2_with fail
      go_ret
      exact ⟨rfl, HBl.out⟩

set_option maxRecDepth 100000 in
set_option maxHeartbeats 1000000 in
theorem keepValue_any (s : ByteArray) (i n : Nat) (w : World) (hn : n ≤ 4) (hi : i + n ≤ s.size) (hs : s.size ≤ 100000) :
    Calls Tryd.prog 32 #[.string s, .int .i64 i, .int .i64 n] w fun e' w' => e' = .returned (.int .i64 (beN s i n)) ∧ w' = w := by
  go_enter Tryd.func32, Tryd.ntmps32
  go_wp2_with fail
  go_loop [7, 8] (fun v j => ∃ k : Nat, k ≤ n ∧ j = .int .i64 ((i + k : Nat) : Int) ∧ v = .int .i64 (beN s i k)) (fun _ j => i + n - (intOf j).toNat)
  case atStart => exact ⟨0, Nat.zero_le _, by simp, rfl⟩
  case round =>
    obtain ⟨k, hk, rfl, rfl⟩ := hrel
    by_cases hlt : k < n
    · have hlt' : ((i + k : Nat) : Int) < (i : Int) + (n : Int) := by omega
      have hin : i + k < s.size := by omega
      have hgb := bt_get s (i + k) hin
      have hbl := bt_lt s (i + k)
      have hv := beN_le3 s i k (by omega)
      have HS : Hid (beN s i (k + 1) = beN s i k * 256 + bt s (i + k)) := by unfold Hid; rw [beN_succ]
      generalize beN s i k = v at *
      have hin' : ((i + k : Nat) : Int) < (s.size : Int) := by omega
      have HJ : Hid (((i + k : Nat) : Int) + 1 = ((i + (k + 1) : Nat) : Int)) := by unfold Hid; omega
      have HM : Hid (i + n - (i + (k + 1)) < i + n - (i + k)) := by unfold Hid; omega
      generalize i + k = j at *
      go_wp2_with fail
      refine ⟨⟨k + 1, by omega, by rw [HJ.out], ?_⟩, ?_⟩
      · rw [HS.out]
        go_num
      · rw [HJ.out]; simp only [intOf, Int.toNat_natCast]; exact HM.out
    · have hkn : k = n := by omega
      subst hkn
      have hlt' : ¬ ((i + k : Nat) : Int) < (i : Int) + (k : Int) := by omega
      go_wp2_with fail
      go_ret
      exact ⟨rfl, rfl⟩

theorem plB_dec (op a b c : Int) : plB op a b c = decide (a < 8 ∧ (op = 1 ∨ (2 ≤ op ∧ op ≤ 5 ∧ b < 8 ∧ c < 8) ∨ (op = 6 ∧ b < 8))) := by
  unfold plB
  by_cases h1 : op = 1
  · rw [if_pos h1, decide_eq_decide]; omega
  rw [if_neg h1]
  by_cases h2 : 2 ≤ op ∧ op ≤ 5
  · rw [if_pos h2, decide_eq_decide]; omega
  rw [if_neg h2]
  by_cases h6 : op = 6
  · rw [if_pos h6, decide_eq_decide]; omega
  rw [if_neg h6]
  symm
  rw [decide_eq_false_iff_not]; omega
set_option maxRecDepth 100000 in
set_option maxHeartbeats 2000000 in
theorem keepPlain_any (v : Nat) (w : World) (hv : v < 4294967296) :
    Calls Tryd.prog 60 #[.int .i64 (v : Int)] w fun e' w' => e' = .returned (.bool (plW (v : Int))) ∧ w' = w := by
  have e0 : (v : Int) / 16777216 = fop (v : Int) := by unfold fop; omega
  have e1 : (v : Int) / 1048576 % 16 = fa (v : Int) := rfl
  have e2 : (v : Int) / 65536 % 16 = fb (v : Int) := rfl
  have e3 : (v : Int) / 4096 % 16 = fc (v : Int) := rfl
  obtain ⟨o0, o1⟩ := fop_bd (v : Int)
  obtain ⟨a0, a1⟩ := fa_bd (v : Int)
  obtain ⟨b0, b1⟩ := fb_bd (v : Int)
  obtain ⟨c0, c1⟩ := fc_bd (v : Int)
  unfold plW
  rw [plB_dec]
  generalize fop (v : Int) = op at *
  generalize fa (v : Int) = a at *
  generalize fb (v : Int) = b at *
  generalize fc (v : Int) = c at *
  go_enter Tryd.func60, Tryd.ntmps60
  go_wp2_with fail
  all_goals
    go_ret
    refine ⟨ret_bool ?_, rfl⟩
    clear e0 e1 e2 e3 hv
    go_light
    refine Bool.eq_iff_iff.2 ?_
    simp only [Bool.or_eq_true, Bool.and_eq_true, decide_eq_true_eq, beq_iff_eq, Bool.false_eq_true, true_iff, false_iff, eq_self] at *
    try omega

set_option maxRecDepth 100000 in
set_option maxHeartbeats 2000000 in
theorem plains_any (s : ByteArray) (w : World) (h : blkOK s) :
    Calls Tryd.prog 28 #[.string s] w fun e' w' => e' = .returned (.int .i64 (nPl s : Nat)) ∧ w' = w := by
  have hs4 := h.1; have hs32 := h.2.1; have hm4 := h.2.2.1
  have hnp := nPl_le s
  have hnp2 : s.size / 4 - 1 ≤ nPl s := by unfold nPl; split <;> omega
  have HPl := hide (fun k (hk : k < nPl s) => blk_plain h hk)
  have HNp : Hid (nPl s < s.size / 4 → plW (wdAt s (nPl s) : Nat) = false) := fun hlt => by
    cases hq : plW (wdAt s (nPl s) : Nat)
    · rfl
    · exfalso
      have e : nPl s = s.size / 4 - 1 := by omega
      rw [e] at hq
      have : nPl s = s.size / 4 := by unfold nPl; rw [if_pos hq]
      omega
  clear h
  go_enter Tryd.func28, Tryd.ntmps28
  go_wp2_with fail
  go_loop [3] (fun i => ∃ k : Nat, k ≤ nPl s ∧ i = .int .i64 k) (fun i => s.size / 4 - (intOf i).toNat)
  case atStart => exact ⟨0, Nat.zero_le _, rfl⟩
  case round =>
    obtain ⟨k, hk, rfl⟩ := hrel
    by_cases hlt : k < s.size / 4
    · have hlt' : 4 * (k : Int) < (s.size : Int) := by omega
      have hj : 4 * k + 4 ≤ s.size := by omega
      have hwl := wdAt_lt s k
      have hv : ∀ w', Calls Tryd.prog 32 #[.string s, .int .i64 (4 * (k : Int)), .int .i64 4] w' fun e' w'' => e' = .returned (.int .i64 (wdAt s k : Nat)) ∧ w'' = w' := fun w' => by
        have := keepValue_any s (4 * k) 4 w' (by decide) (by omega) (by omega)
        rw [show ((4 * k : Nat) : Int) = 4 * (k : Int) by omega] at this
        exact this
      have HV := hide hv
      have HP := hide (fun w' => keepPlain_any (wdAt s k) w' hwl)
      by_cases hkp : k < nPl s
      · have hp := HPl.out k hkp
        rw [hp] at HP
        clear hv hp
        generalize wdAt s k = x at *
        go_wp2_with fail
        refine (unhide HV _).mono ?_
        rintro e w' ⟨rfl, hw⟩
        obtain rfl := hw.symm
        go_wp2_with fail
        refine (unhide HP _).mono ?_
        rintro e w' ⟨rfl, hw⟩
        obtain rfl := hw.symm
        go_wp2_with fail
        exact ⟨⟨k + 1, by omega, by go_num⟩, by simp [intOf]; omega⟩
      · have hke : nPl s = k := by omega
        have hp := HNp.out (by omega)
        rw [hke] at hp
        rw [hp] at HP
        clear hv hp
        generalize wdAt s k = x at *
        go_wp2_with fail
        refine (unhide HV _).mono ?_
        rintro e w' ⟨rfl, hw⟩
        obtain rfl := hw.symm
        go_wp2_with fail
        refine (unhide HP _).mono ?_
        rintro e w' ⟨rfl, hw⟩
        obtain rfl := hw.symm
        go_wp2_with fail
        go_ret
        exact ⟨ret_int (by omega), rfl⟩
    · have hlt' : ¬ 4 * (k : Int) < (s.size : Int) := by omega
      have hke : nPl s = k := by omega
      go_wp2_with fail
      go_ret
      exact ⟨ret_int (by omega), rfl⟩
end Go.Proofs.YtmmflekajbeamaaDoor

namespace Go.Proofs.YtmmflekajbeamaaDoor
open Go.RowKit

set_option maxRecDepth 100000 in
set_option maxHeartbeats 2000000 in
theorem perform_halt (z : List Int) (a b c k : Nat) (w : World) (hl : z.length = 138)  (p0 : 0 ≤ gz z 136) (p1 : gz z 136 < 128) :
    Calls Tryd.prog 121 #[.agg (S z), .agg #[.int .i64 0, .int .i64 a, .int .i64 b, .int .i64 c, .int .i64 k]] w fun e' w' => e' = .returned (.agg (S (nxt z 0 a b c k))) ∧ Below w.heap.size w w' := by
  have hx : ∀ i, i < 138 → (S z)[i]? = some (.int .i64 (gz z i)) := fun i hi => S_get z i (by omega)
  have h136 := hx 136 (by omega)
  have hset := S_set
  have zz := zero34
  have h137 := hx 137 (by omega)
  have g136 : (S (z.set 137 1))[136]? = some (.int .i64 (gz z 136)) := by rw [S_get _ _ (by simp [hl])]; simp [gz]
  have HN : Hid (Ending.returned (.agg (S ((z.set 137 1).set 136 (gz z 136)))) = .returned (.agg (S (nxt z 0 a b c k)))) := by rw [Hid, nxt, if_pos rfl, set_same z hl]
  clear hx
  go_enter Tryd.func121, Tryd.ntmps121
  go_wp2_with (first | (refine wpList_load_S rfl _ rfl _ rfl (isRowB3 _ _ _ _ _ _ (by simp [S_size, hl])) _ (rowD3 _ _ _ _ _) ?_) | (refine wpList_store_S rfl _ _ rfl _ rfl _ rfl (by simp [hl]) (isRowB3' _ _ _ _ _ _ (by simp [S_size, zeroZ])) _ (setRow3 _ _ _ _ _ _) ?_))
  exact bodyPost_ret (v := .agg (S ((z.set 137 1).set 136 (gz z 136)))) (results_cell_row Tryd.results121 _ _ _ 34 (S ((z.set 137 1).set 136 (gz z 136))) (0, 0) _ rfl (heap3 _ _ _ _) Tryd.underlying34 rfl (by rw [size34, S_size]; simp [hl])) rfl ⟨HN.out, below3 _ _ _ _⟩

set_option maxRecDepth 100000 in
set_option maxHeartbeats 2000000 in
theorem perform_set (z : List Int) (a b c k : Nat) (w : World) (hl : z.length = 138) (ha : a < 8) (p0 : 0 ≤ gz z 136) (p1 : gz z 136 < 128) :
    Calls Tryd.prog 121 #[.agg (S z), .agg #[.int .i64 1, .int .i64 a, .int .i64 b, .int .i64 c, .int .i64 k]] w fun e' w' => e' = .returned (.agg (S (nxt z 1 a b c k))) ∧ Below w.heap.size w w' := by
  have hx : ∀ i, i < 138 → (S z)[i]? = some (.int .i64 (gz z i)) := fun i hi => S_get z i (by omega)
  have h136 := hx 136 (by omega)
  have hset := S_set
  have zz := zero34
  have haa := hx a (by omega)
  have g136 : (S (z.set a (k : Int)))[136]? = some (.int .i64 (gz (z.set a (k : Int)) 136)) := S_get _ _ (by simp [hl])
  have ha' : (a : Int) < 8 := by omega
  have HN : Hid (Ending.returned (.agg (S ((z.set a (k : Int)).set 136 ((gz z 136 + 1) % 128)))) = .returned (.agg (S (nxt z 1 a b c k)))) := by simp [Hid, nxt]
  clear hx
  go_enter Tryd.func121, Tryd.ntmps121
  go_wp2_with (first | (refine wpList_load_S rfl _ rfl _ rfl (isRowB3 _ _ _ _ _ _ (by simp [S_size, hl])) _ (rowD3 _ _ _ _ _) ?_) | (refine wpList_store_S rfl _ _ rfl _ rfl _ rfl (by simp [hl]) (isRowB3' _ _ _ _ _ _ (by simp [S_size, zeroZ])) _ (setRow3 _ _ _ _ _ _) ?_))
  exact bodyPost_ret (v := .agg (S ((z.set a (k : Int)).set 136 ((gz z 136 + 1) % 128)))) (results_cell_row Tryd.results121 _ _ _ 34 (S ((z.set a (k : Int)).set 136 ((gz z 136 + 1) % 128))) (0, 0) _ rfl (heap3 _ _ _ _) Tryd.underlying34 rfl (by rw [size34, S_size]; simp [hl])) rfl ⟨HN.out, below3 _ _ _ _⟩

set_option maxRecDepth 100000 in
set_option maxHeartbeats 2000000 in
theorem perform_jump (z : List Int) (a b c k : Nat) (w : World) (hl : z.length = 138)  (p0 : 0 ≤ gz z 136) (p1 : gz z 136 < 128) :
    Calls Tryd.prog 121 #[.agg (S z), .agg #[.int .i64 9, .int .i64 a, .int .i64 b, .int .i64 c, .int .i64 k]] w fun e' w' => e' = .returned (.agg (S (nxt z 9 a b c k))) ∧ Below w.heap.size w w' := by
  have hx : ∀ i, i < 138 → (S z)[i]? = some (.int .i64 (gz z i)) := fun i hi => S_get z i (by omega)
  have h136 := hx 136 (by omega)
  have hset := S_set
  have zz := zero34
  have HN : Hid (Ending.returned (.agg (S (z.set 136 ((k : Int) % 128)))) = .returned (.agg (S (nxt z 9 a b c k)))) := by simp [Hid, nxt]
  clear hx
  go_enter Tryd.func121, Tryd.ntmps121
  go_wp2_with (first | (refine wpList_load_S rfl _ rfl _ rfl (isRowB3 _ _ _ _ _ _ (by simp [S_size, hl])) _ (rowD3 _ _ _ _ _) ?_) | (refine wpList_store_S rfl _ _ rfl _ rfl _ rfl (by simp [hl]) (isRowB3' _ _ _ _ _ _ (by simp [S_size, zeroZ])) _ (setRow3 _ _ _ _ _ _) ?_))
  exact bodyPost_ret (v := .agg (S (z.set 136 ((k : Int) % 128)))) (results_cell_row Tryd.results121 _ _ _ 34 (S (z.set 136 ((k : Int) % 128))) (0, 0) _ rfl (heap3 _ _ _ _) Tryd.underlying34 rfl (by rw [size34, S_size]; simp [hl])) rfl ⟨HN.out, below3 _ _ _ _⟩

set_option maxRecDepth 100000 in
set_option maxHeartbeats 2000000 in
theorem perform_turn (z : List Int) (a b c k : Nat) (w : World) (hl : z.length = 138) (ha : a < 8) (r0 : 0 ≤ gz z a) (r1 : gz z a < 4294967296) (p0 : 0 ≤ gz z 136) (p1 : gz z 136 < 128) :
    Calls Tryd.prog 121 #[.agg (S z), .agg #[.int .i64 10, .int .i64 a, .int .i64 b, .int .i64 c, .int .i64 k]] w fun e' w' => e' = .returned (.agg (S (nxt z 10 a b c k))) ∧ Below w.heap.size w w' := by
  have hx : ∀ i, i < 138 → (S z)[i]? = some (.int .i64 (gz z i)) := fun i hi => S_get z i (by omega)
  have h136 := hx 136 (by omega)
  have hset := S_set
  have zz := zero34
  have haa := hx a (by omega)
  have ha' : (a : Int) < 8 := by omega
  have HN : Hid (Ending.returned (.agg (S (z.set 136 (gz z a % 128)))) = .returned (.agg (S (nxt z 10 a b c k)))) := by simp [Hid, nxt]
  clear hx
  go_enter Tryd.func121, Tryd.ntmps121
  go_wp2_with (first | (refine wpList_load_S rfl _ rfl _ rfl (isRowB3 _ _ _ _ _ _ (by simp [S_size, hl])) _ (rowD3 _ _ _ _ _) ?_) | (refine wpList_store_S rfl _ _ rfl _ rfl _ rfl (by simp [hl]) (isRowB3' _ _ _ _ _ _ (by simp [S_size, zeroZ])) _ (setRow3 _ _ _ _ _ _) ?_))
  exact bodyPost_ret (v := .agg (S (z.set 136 (gz z a % 128)))) (results_cell_row Tryd.results121 _ _ _ 34 (S (z.set 136 (gz z a % 128))) (0, 0) _ rfl (heap3 _ _ _ _) Tryd.underlying34 rfl (by rw [size34, S_size]; simp [hl])) rfl ⟨HN.out, below3 _ _ _ _⟩
end Go.Proofs.YtmmflekajbeamaaDoor

namespace Go.Proofs.YtmmflekajbeamaaDoor
open Go.RowKit

set_option maxRecDepth 100000 in
set_option maxHeartbeats 2000000 in
theorem perform_add (z : List Int) (a b c k : Nat) (w : World) (hl : z.length = 138) (ha : a < 8) (hb : b < 8) (hc : c < 8) (r0 : 0 ≤ gz z b) (r1 : gz z b < 4294967296) (s0 : 0 ≤ gz z c) (s1 : gz z c < 4294967296) (p0 : 0 ≤ gz z 136) (p1 : gz z 136 < 128) :
    Calls Tryd.prog 121 #[.agg (S z), .agg #[.int .i64 2, .int .i64 a, .int .i64 b, .int .i64 c, .int .i64 k]] w fun e' w' => e' = .returned (.agg (S (nxt z 2 a b c k))) ∧ Below w.heap.size w w' := by
  have hx : ∀ i, i < 138 → (S z)[i]? = some (.int .i64 (gz z i)) := fun i hi => S_get z i (by omega)
  have h136 := hx 136 (by omega)
  have hset := S_set
  have zz := zero34
  have haa := hx a (by omega)
  have hbb := hx b (by omega)
  have hcc := hx c (by omega)
  have HN : Hid (Ending.returned (.agg (S ((z.set a (wk 2 (gz z b) (gz z c))).set 136 ((gz z 136 + 1) % 128)))) = .returned (.agg (S (nxt z 2 a b c k)))) := by simp [Hid, nxt]
  have HR := hide (fun w' => reckon_any 2 (gz z b) (gz z c) w' r0 r1 s0 s1 (by decide) (by decide))
  generalize wk 2 (gz z b) (gz z c) = r at *
  have g136 : (S (z.set a r))[136]? = some (.int .i64 (gz (z.set a r) 136)) := S_get _ _ (by simp [hl])
  have ha' : (a : Int) < 8 := by omega
  have hb' : (b : Int) < 8 := by omega
  have hc' : (c : Int) < 8 := by omega
  clear hx
  go_enter Tryd.func121, Tryd.ntmps121
  go_wp2_with fail
  refine still_tail 17 (by kernel_rfl) (by kernel_rfl) ?_
  simp only [List.take_succ_cons, List.take_zero, List.drop_succ_cons, List.drop_zero]
  repeat still_step
  still_call (unhide HR _)
  repeat still_step
  refine wpStill_nil ?_
  go_wp2_with (first | (refine wpList_load_S rfl _ rfl _ rfl (isRowB3d _ _ _ _ _ _ (by simp [S_size, hl])) _ (rowD3d _ _ _ _ _) ?_) | (refine wpList_store_S rfl _ _ rfl _ rfl _ rfl (by simp [hl]) (isRowB3d' _ _ _ _ _ _ (by simp [S_size, zeroZ])) _ (setRow3d _ _ _ _ _ _) ?_))
  exact bodyPost_ret (v := .agg (S ((z.set a r).set 136 ((gz z 136 + 1) % 128)))) (results_cell_row Tryd.results121 _ _ _ 34 (S ((z.set a r).set 136 ((gz z 136 + 1) % 128))) (0, 0) _ rfl (heap3 _ _ _ _) Tryd.underlying34 rfl (by rw [size34, S_size]; simp [hl])) rfl ⟨HN.out, below3d _ _ _ _⟩

set_option maxRecDepth 100000 in
set_option maxHeartbeats 2000000 in
theorem perform_sub (z : List Int) (a b c k : Nat) (w : World) (hl : z.length = 138) (ha : a < 8) (hb : b < 8) (hc : c < 8) (r0 : 0 ≤ gz z b) (r1 : gz z b < 4294967296) (s0 : 0 ≤ gz z c) (s1 : gz z c < 4294967296) (p0 : 0 ≤ gz z 136) (p1 : gz z 136 < 128) :
    Calls Tryd.prog 121 #[.agg (S z), .agg #[.int .i64 3, .int .i64 a, .int .i64 b, .int .i64 c, .int .i64 k]] w fun e' w' => e' = .returned (.agg (S (nxt z 3 a b c k))) ∧ Below w.heap.size w w' := by
  have hx : ∀ i, i < 138 → (S z)[i]? = some (.int .i64 (gz z i)) := fun i hi => S_get z i (by omega)
  have h136 := hx 136 (by omega)
  have hset := S_set
  have zz := zero34
  have haa := hx a (by omega)
  have hbb := hx b (by omega)
  have hcc := hx c (by omega)
  have HN : Hid (Ending.returned (.agg (S ((z.set a (wk 3 (gz z b) (gz z c))).set 136 ((gz z 136 + 1) % 128)))) = .returned (.agg (S (nxt z 3 a b c k)))) := by simp [Hid, nxt]
  have HR := hide (fun w' => reckon_any 3 (gz z b) (gz z c) w' r0 r1 s0 s1 (by decide) (by decide))
  generalize wk 3 (gz z b) (gz z c) = r at *
  have g136 : (S (z.set a r))[136]? = some (.int .i64 (gz (z.set a r) 136)) := S_get _ _ (by simp [hl])
  have ha' : (a : Int) < 8 := by omega
  have hb' : (b : Int) < 8 := by omega
  have hc' : (c : Int) < 8 := by omega
  clear hx
  go_enter Tryd.func121, Tryd.ntmps121
  go_wp2_with fail
  refine still_tail 17 (by kernel_rfl) (by kernel_rfl) ?_
  simp only [List.take_succ_cons, List.take_zero, List.drop_succ_cons, List.drop_zero]
  repeat still_step
  still_call (unhide HR _)
  repeat still_step
  refine wpStill_nil ?_
  go_wp2_with (first | (refine wpList_load_S rfl _ rfl _ rfl (isRowB3d _ _ _ _ _ _ (by simp [S_size, hl])) _ (rowD3d _ _ _ _ _) ?_) | (refine wpList_store_S rfl _ _ rfl _ rfl _ rfl (by simp [hl]) (isRowB3d' _ _ _ _ _ _ (by simp [S_size, zeroZ])) _ (setRow3d _ _ _ _ _ _) ?_))
  exact bodyPost_ret (v := .agg (S ((z.set a r).set 136 ((gz z 136 + 1) % 128)))) (results_cell_row Tryd.results121 _ _ _ 34 (S ((z.set a r).set 136 ((gz z 136 + 1) % 128))) (0, 0) _ rfl (heap3 _ _ _ _) Tryd.underlying34 rfl (by rw [size34, S_size]; simp [hl])) rfl ⟨HN.out, below3d _ _ _ _⟩

set_option maxRecDepth 100000 in
set_option maxHeartbeats 2000000 in
theorem perform_xor (z : List Int) (a b c k : Nat) (w : World) (hl : z.length = 138) (ha : a < 8) (hb : b < 8) (hc : c < 8) (r0 : 0 ≤ gz z b) (r1 : gz z b < 4294967296) (s0 : 0 ≤ gz z c) (s1 : gz z c < 4294967296) (p0 : 0 ≤ gz z 136) (p1 : gz z 136 < 128) :
    Calls Tryd.prog 121 #[.agg (S z), .agg #[.int .i64 4, .int .i64 a, .int .i64 b, .int .i64 c, .int .i64 k]] w fun e' w' => e' = .returned (.agg (S (nxt z 4 a b c k))) ∧ Below w.heap.size w w' := by
  have hx : ∀ i, i < 138 → (S z)[i]? = some (.int .i64 (gz z i)) := fun i hi => S_get z i (by omega)
  have h136 := hx 136 (by omega)
  have hset := S_set
  have zz := zero34
  have haa := hx a (by omega)
  have hbb := hx b (by omega)
  have hcc := hx c (by omega)
  have HN : Hid (Ending.returned (.agg (S ((z.set a (wk 4 (gz z b) (gz z c))).set 136 ((gz z 136 + 1) % 128)))) = .returned (.agg (S (nxt z 4 a b c k)))) := by simp [Hid, nxt]
  have HR := hide (fun w' => reckon_any 4 (gz z b) (gz z c) w' r0 r1 s0 s1 (by decide) (by decide))
  generalize wk 4 (gz z b) (gz z c) = r at *
  have g136 : (S (z.set a r))[136]? = some (.int .i64 (gz (z.set a r) 136)) := S_get _ _ (by simp [hl])
  have ha' : (a : Int) < 8 := by omega
  have hb' : (b : Int) < 8 := by omega
  have hc' : (c : Int) < 8 := by omega
  clear hx
  go_enter Tryd.func121, Tryd.ntmps121
  go_wp2_with fail
  refine still_tail 17 (by kernel_rfl) (by kernel_rfl) ?_
  simp only [List.take_succ_cons, List.take_zero, List.drop_succ_cons, List.drop_zero]
  repeat still_step
  still_call (unhide HR _)
  repeat still_step
  refine wpStill_nil ?_
  go_wp2_with (first | (refine wpList_load_S rfl _ rfl _ rfl (isRowB3d _ _ _ _ _ _ (by simp [S_size, hl])) _ (rowD3d _ _ _ _ _) ?_) | (refine wpList_store_S rfl _ _ rfl _ rfl _ rfl (by simp [hl]) (isRowB3d' _ _ _ _ _ _ (by simp [S_size, zeroZ])) _ (setRow3d _ _ _ _ _ _) ?_))
  exact bodyPost_ret (v := .agg (S ((z.set a r).set 136 ((gz z 136 + 1) % 128)))) (results_cell_row Tryd.results121 _ _ _ 34 (S ((z.set a r).set 136 ((gz z 136 + 1) % 128))) (0, 0) _ rfl (heap3 _ _ _ _) Tryd.underlying34 rfl (by rw [size34, S_size]; simp [hl])) rfl ⟨HN.out, below3d _ _ _ _⟩

set_option maxRecDepth 100000 in
set_option maxHeartbeats 2000000 in
theorem perform_mul (z : List Int) (a b c k : Nat) (w : World) (hl : z.length = 138) (ha : a < 8) (hb : b < 8) (hc : c < 8) (r0 : 0 ≤ gz z b) (r1 : gz z b < 4294967296) (s0 : 0 ≤ gz z c) (s1 : gz z c < 4294967296) (p0 : 0 ≤ gz z 136) (p1 : gz z 136 < 128) :
    Calls Tryd.prog 121 #[.agg (S z), .agg #[.int .i64 5, .int .i64 a, .int .i64 b, .int .i64 c, .int .i64 k]] w fun e' w' => e' = .returned (.agg (S (nxt z 5 a b c k))) ∧ Below w.heap.size w w' := by
  have hx : ∀ i, i < 138 → (S z)[i]? = some (.int .i64 (gz z i)) := fun i hi => S_get z i (by omega)
  have h136 := hx 136 (by omega)
  have hset := S_set
  have zz := zero34
  have haa := hx a (by omega)
  have hbb := hx b (by omega)
  have hcc := hx c (by omega)
  have HN : Hid (Ending.returned (.agg (S ((z.set a (wk 5 (gz z b) (gz z c))).set 136 ((gz z 136 + 1) % 128)))) = .returned (.agg (S (nxt z 5 a b c k)))) := by simp [Hid, nxt]
  have HR := hide (fun w' => reckon_any 5 (gz z b) (gz z c) w' r0 r1 s0 s1 (by decide) (by decide))
  generalize wk 5 (gz z b) (gz z c) = r at *
  have g136 : (S (z.set a r))[136]? = some (.int .i64 (gz (z.set a r) 136)) := S_get _ _ (by simp [hl])
  have ha' : (a : Int) < 8 := by omega
  have hb' : (b : Int) < 8 := by omega
  have hc' : (c : Int) < 8 := by omega
  clear hx
  go_enter Tryd.func121, Tryd.ntmps121
  go_wp2_with fail
  refine still_tail 17 (by kernel_rfl) (by kernel_rfl) ?_
  simp only [List.take_succ_cons, List.take_zero, List.drop_succ_cons, List.drop_zero]
  repeat still_step
  still_call (unhide HR _)
  repeat still_step
  refine wpStill_nil ?_
  go_wp2_with (first | (refine wpList_load_S rfl _ rfl _ rfl (isRowB3d _ _ _ _ _ _ (by simp [S_size, hl])) _ (rowD3d _ _ _ _ _) ?_) | (refine wpList_store_S rfl _ _ rfl _ rfl _ rfl (by simp [hl]) (isRowB3d' _ _ _ _ _ _ (by simp [S_size, zeroZ])) _ (setRow3d _ _ _ _ _ _) ?_))
  exact bodyPost_ret (v := .agg (S ((z.set a r).set 136 ((gz z 136 + 1) % 128)))) (results_cell_row Tryd.results121 _ _ _ 34 (S ((z.set a r).set 136 ((gz z 136 + 1) % 128))) (0, 0) _ rfl (heap3 _ _ _ _) Tryd.underlying34 rfl (by rw [size34, S_size]; simp [hl])) rfl ⟨HN.out, below3d _ _ _ _⟩
end Go.Proofs.YtmmflekajbeamaaDoor

namespace Go.Proofs.YtmmflekajbeamaaDoor
open Go.RowKit

set_option maxRecDepth 100000 in
set_option maxHeartbeats 2000000 in
theorem perform_load (z : List Int) (a b c k : Nat) (w : World) (hl : z.length = 138) (ha : a < 8) (hb : b < 8) (hk : k < 4096) (r0 : 0 ≤ gz z b) (r1 : gz z b < 4294967296) (p0 : 0 ≤ gz z 136) (p1 : gz z 136 < 128) :
    Calls Tryd.prog 121 #[.agg (S z), .agg #[.int .i64 6, .int .i64 a, .int .i64 b, .int .i64 c, .int .i64 k]] w fun e' w' => e' = .returned (.agg (S (nxt z 6 a b c k))) ∧ Below w.heap.size w w' := by
  have hx : ∀ i, i < 138 → (S z)[i]? = some (.int .i64 (gz z i)) := fun i hi => S_get z i (by omega)
  have h136 := hx 136 (by omega)
  have hset := S_set
  have zz := zero34
  have haa := hx a (by omega)
  have hbb := hx b (by omega)
  obtain ⟨m, hm⟩ := Int.eq_ofNat_of_zero_le (show 0 ≤ (gz z b + (k : Int)) % 128 by omega)
  have hm1 : m < 128 := by omega
  have hmm := hx (8 + m) (by omega)
  have HN : Hid (Ending.returned (.agg (S ((z.set a (gz z (8 + m))).set 136 ((gz z 136 + 1) % 128)))) = .returned (.agg (S (nxt z 6 a b c k)))) := by simp [Hid, nxt, hm]
  have HR := hide (fun w' => address_any (gz z b) k w' r0 r1 (by omega) (by omega))
  rw [hm] at HR
  clear hm
  generalize gz z (8 + m) = r at *
  have g136 : (S (z.set a r))[136]? = some (.int .i64 (gz (z.set a r) 136)) := S_get _ _ (by simp [hl])
  have ha' : (a : Int) < 8 := by omega
  have hb' : (b : Int) < 8 := by omega
  have hm' : (m : Int) < 128 := by omega
  clear hx
  go_enter Tryd.func121, Tryd.ntmps121
  go_wp2_with fail
  refine still_tail 15 (by kernel_rfl) (by kernel_rfl) ?_
  simp only [List.take_succ_cons, List.take_zero, List.drop_succ_cons, List.drop_zero]
  repeat still_step
  still_call (unhide HR _)
  repeat still_step
  refine wpStill_nil ?_
  go_wp2_with (first | (refine wpList_load_S rfl _ rfl _ rfl (isRowB3d _ _ _ _ _ _ (by simp [S_size, hl])) _ (rowD3d _ _ _ _ _) ?_) | (refine wpList_store_S rfl _ _ rfl _ rfl _ rfl (by simp [hl]) (isRowB3d' _ _ _ _ _ _ (by simp [S_size, zeroZ])) _ (setRow3d _ _ _ _ _ _) ?_))
  exact bodyPost_ret (v := .agg (S ((z.set a r).set 136 ((gz z 136 + 1) % 128)))) (results_cell_row Tryd.results121 _ _ _ 34 (S ((z.set a r).set 136 ((gz z 136 + 1) % 128))) (0, 0) _ rfl (heap3 _ _ _ _) Tryd.underlying34 rfl (by rw [size34, S_size]; simp [hl])) rfl ⟨HN.out, below3d _ _ _ _⟩

set_option maxRecDepth 100000 in
set_option maxHeartbeats 2000000 in
theorem perform_store (z : List Int) (a b c k : Nat) (w : World) (hl : z.length = 138) (ha : a < 8) (hb : b < 8) (hk : k < 4096) (r0 : 0 ≤ gz z b) (r1 : gz z b < 4294967296) (p0 : 0 ≤ gz z 136) (p1 : gz z 136 < 128) :
    Calls Tryd.prog 121 #[.agg (S z), .agg #[.int .i64 7, .int .i64 a, .int .i64 b, .int .i64 c, .int .i64 k]] w fun e' w' => e' = .returned (.agg (S (nxt z 7 a b c k))) ∧ Below w.heap.size w w' := by
  have hx : ∀ i, i < 138 → (S z)[i]? = some (.int .i64 (gz z i)) := fun i hi => S_get z i (by omega)
  have h136 := hx 136 (by omega)
  have hset := S_set
  have zz := zero34
  have haa := hx a (by omega)
  have hbb := hx b (by omega)
  obtain ⟨m, hm⟩ := Int.eq_ofNat_of_zero_le (show 0 ≤ (gz z b + (k : Int)) % 128 by omega)
  have hm1 : m < 128 := by omega
  have hmm := hx (8 + m) (by omega)
  have HN : Hid (Ending.returned (.agg (S ((z.set (8 + m) (gz z a)).set 136 ((gz z 136 + 1) % 128)))) = .returned (.agg (S (nxt z 7 a b c k)))) := by simp [Hid, nxt, hm]
  have HR := hide (fun w' => address_any (gz z b) k w' r0 r1 (by omega) (by omega))
  rw [hm] at HR
  clear hm
  have g136 : (S (z.set (8 + m) (gz z a)))[136]? = some (.int .i64 (gz (z.set (8 + m) (gz z a)) 136)) := S_get _ _ (by simp [hl])
  have ha' : (a : Int) < 8 := by omega
  have hb' : (b : Int) < 8 := by omega
  have hm' : (m : Int) < 128 := by omega
  clear hx
  go_enter Tryd.func121, Tryd.ntmps121
  go_wp2_with fail
  refine still_tail 15 (by kernel_rfl) (by kernel_rfl) ?_
  simp only [List.take_succ_cons, List.take_zero, List.drop_succ_cons, List.drop_zero]
  repeat still_step
  still_call (unhide HR _)
  repeat still_step
  refine wpStill_nil ?_
  go_wp2_with (first | (refine wpList_load_S rfl _ rfl _ rfl (isRowB3d _ _ _ _ _ _ (by simp [S_size, hl])) _ (rowD3d _ _ _ _ _) ?_) | (refine wpList_store_S rfl _ _ rfl _ rfl _ rfl (by simp [hl]) (isRowB3d' _ _ _ _ _ _ (by simp [S_size, zeroZ])) _ (setRow3d _ _ _ _ _ _) ?_))
  exact bodyPost_ret (v := .agg (S ((z.set (8 + m) (gz z a)).set 136 ((gz z 136 + 1) % 128)))) (results_cell_row Tryd.results121 _ _ _ 34 (S ((z.set (8 + m) (gz z a)).set 136 ((gz z 136 + 1) % 128))) (0, 0) _ rfl (heap3 _ _ _ _) Tryd.underlying34 rfl (by rw [size34, S_size]; simp [hl])) rfl ⟨HN.out, below3d _ _ _ _⟩

set_option maxRecDepth 100000 in
set_option maxHeartbeats 2000000 in
theorem perform_same_yes (z : List Int) (a b c k : Nat) (w : World) (hl : z.length = 138) (ha : a < 8) (hb : b < 8) (hq : gz z a = gz z b) (p0 : 0 ≤ gz z 136) (p1 : gz z 136 < 128) :
    Calls Tryd.prog 121 #[.agg (S z), .agg #[.int .i64 8, .int .i64 a, .int .i64 b, .int .i64 c, .int .i64 k]] w fun e' w' => e' = .returned (.agg (S (nxt z 8 a b c k))) ∧ Below w.heap.size w w' := by
  have hx : ∀ i, i < 138 → (S z)[i]? = some (.int .i64 (gz z i)) := fun i hi => S_get z i (by omega)
  have h136 := hx 136 (by omega)
  have hset := S_set
  have zz := zero34
  have haa := hx a (by omega)
  have hbb := hx b (by omega)
  have HN : Hid (Ending.returned (.agg (S (z.set 136 ((k : Int) % 128)))) = .returned (.agg (S (nxt z 8 a b c k)))) := by simp [Hid, nxt, hq]
  have hq' : (gz z a == gz z b) = true := by simpa using hq
  clear hq
  have ha' : (a : Int) < 8 := by omega
  have hb' : (b : Int) < 8 := by omega
  clear hx
  go_enter Tryd.func121, Tryd.ntmps121
  go_wp2_with fail
  refine still_all (by kernel_rfl) (by kernel_rfl) ?_
  repeat still_step
  refine wpStill_nil ?_
  go_wp2_with (first | (refine wpList_load_S rfl _ rfl _ rfl (isRowB3d _ _ _ _ _ _ (by simp [S_size, hl])) _ (rowD3d _ _ _ _ _) ?_) | (refine wpList_store_S rfl _ _ rfl _ rfl _ rfl (by simp [hl]) (isRowB3d' _ _ _ _ _ _ (by simp [S_size, zeroZ])) _ (setRow3d _ _ _ _ _ _) ?_))
  exact bodyPost_ret (v := .agg (S (z.set 136 ((k : Int) % 128)))) (results_cell_row Tryd.results121 _ _ _ 34 (S (z.set 136 ((k : Int) % 128))) (0, 0) _ rfl (heap3 _ _ _ _) Tryd.underlying34 rfl (by rw [size34, S_size]; simp [hl])) rfl ⟨HN.out, below3d _ _ _ _⟩

set_option maxRecDepth 100000 in
set_option maxHeartbeats 2000000 in
theorem perform_same_no (z : List Int) (a b c k : Nat) (w : World) (hl : z.length = 138) (ha : a < 8) (hb : b < 8) (hq : ¬ gz z a = gz z b) (p0 : 0 ≤ gz z 136) (p1 : gz z 136 < 128) :
    Calls Tryd.prog 121 #[.agg (S z), .agg #[.int .i64 8, .int .i64 a, .int .i64 b, .int .i64 c, .int .i64 k]] w fun e' w' => e' = .returned (.agg (S (nxt z 8 a b c k))) ∧ Below w.heap.size w w' := by
  have hx : ∀ i, i < 138 → (S z)[i]? = some (.int .i64 (gz z i)) := fun i hi => S_get z i (by omega)
  have h136 := hx 136 (by omega)
  have hset := S_set
  have zz := zero34
  have haa := hx a (by omega)
  have hbb := hx b (by omega)
  have HN : Hid (Ending.returned (.agg (S (z.set 136 ((gz z 136 + 1) % 128)))) = .returned (.agg (S (nxt z 8 a b c k)))) := by simp [Hid, nxt, hq]
  have hq' : (gz z a == gz z b) = false := by simpa using hq
  clear hq
  have ha' : (a : Int) < 8 := by omega
  have hb' : (b : Int) < 8 := by omega
  clear hx
  go_enter Tryd.func121, Tryd.ntmps121
  go_wp2_with fail
  refine still_all (by kernel_rfl) (by kernel_rfl) ?_
  repeat still_step
  refine wpStill_nil ?_
  go_wp2_with (first | (refine wpList_load_S rfl _ rfl _ rfl (isRowB3d _ _ _ _ _ _ (by simp [S_size, hl])) _ (rowD3d _ _ _ _ _) ?_) | (refine wpList_store_S rfl _ _ rfl _ rfl _ rfl (by simp [hl]) (isRowB3d' _ _ _ _ _ _ (by simp [S_size, zeroZ])) _ (setRow3d _ _ _ _ _ _) ?_))
  exact bodyPost_ret (v := .agg (S (z.set 136 ((gz z 136 + 1) % 128)))) (results_cell_row Tryd.results121 _ _ _ 34 (S (z.set 136 ((gz z 136 + 1) % 128))) (0, 0) _ rfl (heap3 _ _ _ _) Tryd.underlying34 rfl (by rw [size34, S_size]; simp [hl])) rfl ⟨HN.out, below3d _ _ _ _⟩
end Go.Proofs.YtmmflekajbeamaaDoor
