/-
  The small functions of the machine and of the document's own answer: what each call gives, said of numbers (no memory but new blocks).
-/
import Derived.Test.YtmmflekajbeamaaDoorRows
import Derived.Test.YtmmflekajbeamaaDoorG01
import Derived.Deep.Light
namespace Go.Proofs.YtmmflekajbeamaaDoor
open Go.RowKit

theorem ret_int {k : IntKind} {a b : Int} (h : a = b) : Ending.returned (.int k a) = .returned (.int k b) := by rw [h]
theorem ret_bool {a b : Bool} (h : a = b) : Ending.returned (.bool a) = .returned (.bool b) := by rw [h]

set_option maxHeartbeats 400000 in
theorem num_any (e : Int) (w : World) :
    Calls Tryd.prog 40 #[.int .i64 e] w fun e' w' => e' = .returned (.int .i64 e) ∧ w' = w := by
  go_enter Tryd.func40, Tryd.ntmps40
  go_wp2
  go_ret
  exact ⟨rfl, rfl⟩

set_option maxHeartbeats 400000 in
theorem address_any (a k : Int) (w : World) (ha : 0 ≤ a) (ha2 : a < 4294967296) (hk : 0 ≤ k) (hk2 : k < 4096) :
    Calls Tryd.prog 153 #[.int .i64 a, .int .i64 k] w fun e' w' => e' = .returned (.int .i64 ((a + k) % 128)) ∧ w' = w := by
  go_enter Tryd.func153, Tryd.ntmps153
  go_wp2
  go_ret
  exact ⟨rfl, rfl⟩

set_option maxHeartbeats 400000 in
theorem split_any (v : Int) (w : World) (h0 : 0 ≤ v) (h1 : v < 4294967296) :
    Calls Tryd.prog 119 #[.int .i64 v] w fun e' w' => e' = .returned (.agg #[.int .i64 (fop v), .int .i64 (fa v), .int .i64 (fb v), .int .i64 (fc v), .int .i64 (fk v)]) ∧ Below w.heap.size w w' := by
  have e1 : bits .and .i64 (v / 16777216) 255 = fop v := and255 _ (by omega) (by omega)
  have e2 : bits .and .i64 (v / 1048576) 15 = fa v := and15 _ (by omega) (by omega)
  have e3 : bits .and .i64 (v / 65536) 15 = fb v := and15 _ (by omega) (by omega)
  have e4 : bits .and .i64 (v / 4096) 15 = fc v := and15 _ (by omega) (by omega)
  have e5 : bits .and .i64 v 4095 = fk v := and4095 _ (by omega) (by omega)
  go_enter Tryd.func119, Tryd.ntmps119
  go_wp2
  exact bodyPost_ret (v := .agg #[.int .i64 (fop v), .int .i64 (fa v), .int .i64 (fb v), .int .i64 (fc v), .int .i64 (fk v)]) (by simp [results, Tryd.results119, go_sem]) rfl ⟨rfl, (Below.refl _ _).alloc (Nat.le_refl _) _⟩

set_option maxHeartbeats 400000 in
theorem isWord_any (v : Int) (w : World) :
    Calls Tryd.prog 131 #[.int .i64 v] w fun e' w' => e' = .returned (.bool (isW v)) ∧ w' = w := by
  by_cases h : 0 ≤ v
  · go_enter Tryd.func131, Tryd.ntmps131
    go_wp2
    all_goals
      go_ret
      refine ⟨ret_bool ?_, rfl⟩
      simp [isW, h]
      omega
  · have hd : decide (0 ≤ v) = false := by simpa using h
    go_enter Tryd.func131, Tryd.ntmps131
    go_wp2
    all_goals
      go_ret
      refine ⟨ret_bool ?_, rfl⟩
      simp [isW]
      omega

set_option maxHeartbeats 400000 in
theorem works_any (op x y : Int) (w : World) (hx0 : 0 ≤ x) (hx1 : x < 4294967296) (hy0 : 0 ≤ y) (hy1 : y < 4294967296) (h2 : 2 ≤ op) (h5 : op ≤ 5) :
    Calls Tryd.prog 84 #[.int .i64 op, .int .i64 x, .int .i64 y] w fun e' w' => e' = .returned (.int .i64 (wk op x y)) ∧ w' = w := by
  obtain ⟨b1, b2, b3, b4⟩ := half_bd x y hx0 hx1 hy0 hy1
  have ex := xor_i64 x y hx0 hx1 hy0 hy1
  have hop : op = 2 ∨ op = 3 ∨ op = 4 ∨ op = 5 := by omega
  clear h2 h5
  rcases hop with rfl | rfl | rfl | rfl
  all_goals
    go_enter Tryd.func84, Tryd.ntmps84
    go_wp2
    go_ret
    refine ⟨ret_int ?_, rfl⟩
    first | rfl | (simp only [wk]; exact mul_halves x y)

set_option maxHeartbeats 400000 in
theorem reckon_any (op x y : Int) (w : World) (hx0 : 0 ≤ x) (hx1 : x < 4294967296) (hy0 : 0 ≤ y) (hy1 : y < 4294967296) (h2 : 2 ≤ op) (h5 : op ≤ 5) :
    Calls Tryd.prog 138 #[.int .i64 op, .int .i64 x, .int .i64 y] w fun e' w' => e' = .returned (.int .i64 (wk op x y)) ∧ w' = w := by
  have ex := xor_u32 x y hx0 hx1 hy0 hy1
  obtain ⟨bx, by'⟩ := xorZ_bd x y hx0 hx1 hy0 hy1
  have hop : op = 2 ∨ op = 3 ∨ op = 4 ∨ op = 5 := by omega
  clear h2 h5
  rcases hop with rfl | rfl | rfl | rfl
  all_goals
    go_enter Tryd.func138, Tryd.ntmps138
    go_wp2
    go_ret
    refine ⟨ret_int ?_, rfl⟩
    clear ex
    first | rfl | (show (x - y) % 4294967296 = (x + 4294967296 - y) % 4294967296; omega)

set_option maxHeartbeats 400000 in
theorem field_any (v : Int) (p n : Nat) (w : World) (h0 : 0 ≤ v) (h1 : v < 4294967296) (hp : p ≤ 24) (hn : n ≤ 12) :
    Calls Tryd.prog 122 #[.int .i64 v, .int .i64 p, .int .i64 n] w fun e' w' => e' = .returned (.int .i64 (shr v p % pw n)) ∧ w' = w := by
  go_enter Tryd.func122, Tryd.ntmps122
  go_wp2
  go_loop [0, 7] (fun t i => ∃ j : Nat, j ≤ p ∧ i = .int .i64 j ∧ t = .int .i64 (shr v j)) (fun _ i => p - (intOf i).toNat)
  case atStart => exact ⟨0, Nat.zero_le _, rfl, by rw [shr_zero]⟩
  case round =>
    obtain ⟨j, hj, rfl, rfl⟩ := hrel
    have hb := shr_bd v j h0 h1
    obtain ⟨hb0, hb1⟩ := hb
    have HS : Hid (shr v (j + 1) = shr v j / 2) := shr_succ v j
    by_cases hlt : j < p
    · go_wp2
      go_round
      case rel => exact ⟨j + 1, by omega, by go_num, by rw [HS.out]⟩
      case measure => simp [intOf]; omega
    · have hjp : j = p := by omega
      subst hjp
      clear HS hlt
      go_wp2
      go_loop [8, 9] (fun t i => ∃ j : Nat, j ≤ n ∧ i = .int .i64 j ∧ t = .int .i64 (pw j)) (fun _ i => n - (intOf i).toNat)
      case atStart => exact ⟨0, Nat.zero_le _, rfl, rfl⟩
      case round =>
        obtain ⟨q, hq, rfl, rfl⟩ := hrel
        obtain ⟨hc0, hc1⟩ := pw_bd q (by omega)
        have HT : Hid (pw (q + 1) = pw q * 2) := pw_succ q
        by_cases hlt : q < n
        · go_wp2
          go_round
          case rel => exact ⟨q + 1, by omega, by go_num, by rw [HT.out]⟩
          case measure => simp [intOf]; omega
        · have hqn : q = n := by omega
          subst hqn
          have hne : (pw q == 0) = false := by simp; omega
          go_wp2
          go_ret
          exact ⟨rfl, rfl⟩

set_option maxHeartbeats 400000 in
theorem op_any (v : Int) (w : World) (h0 : 0 ≤ v) (h1 : v < 4294967296) :
    Calls Tryd.prog 79 #[.int .i64 v] w fun e' w' => e' = .returned (.int .i64 (fop v)) ∧ w' = w := by
  go_enter Tryd.func79, Tryd.ntmps79
  go_wp2_with (go_at_call 122; refine (field_any v 24 8 _ h0 h1 (by decide) (by decide)).mono ?_; rintro e w' ⟨rfl, rfl⟩)
  go_ret
  exact ⟨rfl, rfl⟩
theorem a_any (v : Int) (w : World) (h0 : 0 ≤ v) (h1 : v < 4294967296) :
    Calls Tryd.prog 80 #[.int .i64 v] w fun e' w' => e' = .returned (.int .i64 (fa v)) ∧ w' = w := by
  go_enter Tryd.func80, Tryd.ntmps80
  go_wp2_with (go_at_call 122; refine (field_any v 20 4 _ h0 h1 (by decide) (by decide)).mono ?_; rintro e w' ⟨rfl, rfl⟩)
  go_ret
  exact ⟨rfl, rfl⟩
theorem b_any (v : Int) (w : World) (h0 : 0 ≤ v) (h1 : v < 4294967296) :
    Calls Tryd.prog 81 #[.int .i64 v] w fun e' w' => e' = .returned (.int .i64 (fb v)) ∧ w' = w := by
  go_enter Tryd.func81, Tryd.ntmps81
  go_wp2_with (go_at_call 122; refine (field_any v 16 4 _ h0 h1 (by decide) (by decide)).mono ?_; rintro e w' ⟨rfl, rfl⟩)
  go_ret
  exact ⟨rfl, rfl⟩
theorem c_any (v : Int) (w : World) (h0 : 0 ≤ v) (h1 : v < 4294967296) :
    Calls Tryd.prog 83 #[.int .i64 v] w fun e' w' => e' = .returned (.int .i64 (fc v)) ∧ w' = w := by
  go_enter Tryd.func83, Tryd.ntmps83
  go_wp2_with (go_at_call 122; refine (field_any v 12 4 _ h0 h1 (by decide) (by decide)).mono ?_; rintro e w' ⟨rfl, rfl⟩)
  go_ret
  exact ⟨rfl, rfl⟩
theorem k_any (v : Int) (w : World) (h0 : 0 ≤ v) (h1 : v < 4294967296) :
    Calls Tryd.prog 82 #[.int .i64 v] w fun e' w' => e' = .returned (.int .i64 (fk v)) ∧ w' = w := by
  have HK : Hid (fk v = shr v 0 % pw 12) := by rw [shr_zero]; rfl
  go_enter Tryd.func82, Tryd.ntmps82
  go_wp2_with (go_at_call 122; refine (field_any v 0 12 _ h0 h1 (by decide) (by decide)).mono ?_; rintro e w' ⟨rfl, rfl⟩)
  go_ret
  exact ⟨ret_int HK.out.symm, rfl⟩

set_option maxHeartbeats 1000000 in
theorem plain_any (v : Int) (w : World) (h0 : 0 ≤ v) (h1 : v < 4294967296) :
    Calls Tryd.prog 92 #[.int .i64 v] w fun e' w' => e' = .returned (.bool (plB (fop v) (fa v) (fb v) (fc v))) ∧ w' = w := by
  have ho := op_any v w h0 h1
  have ha := a_any v w h0 h1
  have hb := b_any v w h0 h1
  have hc := c_any v w h0 h1
  obtain ⟨o0, o1⟩ := fop_bd v
  obtain ⟨a0, a1⟩ := fa_bd v
  obtain ⟨b0, b1⟩ := fb_bd v
  obtain ⟨c0, c1⟩ := fc_bd v
  generalize fop v = op at *
  generalize fa v = a at *
  generalize fb v = b at *
  generalize fc v = c at *
  have H1 := hide ho; have H2 := hide ha; have H3 := hide hb; have H4 := hide hc
  clear ho ha hb hc
  go_enter Tryd.func92, Tryd.ntmps92
  go_wp2_with (first | (go_at_call 79; refine (unhide H1).mono ?_; rintro e w' ⟨rfl, rfl⟩) | (go_at_call 80; refine (unhide H2).mono ?_; rintro e w' ⟨rfl, rfl⟩) | (go_at_call 81; refine (unhide H3).mono ?_; rintro e w' ⟨rfl, rfl⟩) | (go_at_call 83; refine (unhide H4).mono ?_; rintro e w' ⟨rfl, rfl⟩))
  all_goals
    go_ret
    refine ⟨ret_bool ?_, rfl⟩
    go_light
    try simp only [beq_iff_eq, beq_eq_false_iff_ne, ne_eq] at *
    clear H1 H2 H3 H4
    unfold plB
    first | (rw [if_pos (by omega)]) | (rw [if_neg (by omega), if_pos (by omega)]) | (rw [if_neg (by omega), if_neg (by omega), if_pos (by omega)]) | (rw [if_neg (by omega), if_neg (by omega), if_neg (by omega)])
    try (first | (symm; rw [decide_eq_true_eq]; omega) | (symm; rw [decide_eq_false_iff_not]; omega) | (rw [decide_eq_decide]; omega))

set_option maxHeartbeats 1000000 in
theorem known_any (v : Int) (w : World) (h0 : 0 ≤ v) (h1 : v < 4294967296) :
    Calls Tryd.prog 78 #[.int .i64 v] w fun e' w' => e' = .returned (.bool (knB (fop v) (fa v) (fb v) (fc v))) ∧ w' = w := by
  have hp := plain_any v w h0 h1
  have ho := op_any v w h0 h1
  have ha := a_any v w h0 h1
  have hb := b_any v w h0 h1
  obtain ⟨o0, o1⟩ := fop_bd v
  obtain ⟨a0, a1⟩ := fa_bd v
  obtain ⟨b0, b1⟩ := fb_bd v
  obtain ⟨c0, c1⟩ := fc_bd v
  generalize fop v = op at *
  generalize fa v = a at *
  generalize fb v = b at *
  generalize fc v = c at *
  have H1 := hide ho; have H2 := hide ha; have H3 := hide hb; have H4 := hide hp
  clear ho ha hb hp
  go_enter Tryd.func78, Tryd.ntmps78
  go_wp2_with (first | (go_at_call 92; refine (unhide H4).mono ?_; rintro e w' ⟨rfl, rfl⟩) | (go_at_call 79; refine (unhide H1).mono ?_; rintro e w' ⟨rfl, rfl⟩) | (go_at_call 80; refine (unhide H2).mono ?_; rintro e w' ⟨rfl, rfl⟩) | (go_at_call 81; refine (unhide H3).mono ?_; rintro e w' ⟨rfl, rfl⟩))
  all_goals
    go_ret
    refine ⟨ret_bool ?_, rfl⟩
    go_light
    try simp only [beq_iff_eq, beq_eq_false_iff_ne, ne_eq] at *
    clear H1 H2 H3 H4
    first | (exact kn_pl op a b c (by omega) (by omega) (by omega) (by omega) (by omega)) | unfold knB
    all_goals first | (rw [if_pos (by omega)]) | (rw [if_neg (by omega), if_pos (by omega)]) | (rw [if_neg (by omega), if_neg (by omega), if_pos (by omega)]) | (rw [if_neg (by omega), if_neg (by omega), if_neg (by omega), if_pos (by omega)])
    all_goals try (first | (symm; rw [decide_eq_true_eq]; omega) | (symm; rw [decide_eq_false_iff_not]; omega) | (rw [decide_eq_decide]; omega))
end Go.Proofs.YtmmflekajbeamaaDoor
